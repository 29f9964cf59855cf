/-
  THE LAW PackReads, WALKED.
-/
import Derived.Test.YtppboldeocjbhabRef
import Derived.Test.YtppboldeocjbhabCuts
namespace Go.Proofs.Ytppboldeocjbhab
open Go.RowKit

theorem Rd.only {w w' : World} {p g r : Nat} {l : List Nat} {bad : Bool} (h : Rd w p g l bad) (ho : Only r w w') (h1 : p ≠ r) (h2 : g ≠ r) : Rd w' p g l bad := by
  obtain ⟨hne, hlt, v, hp, hv⟩ := h
  exact ⟨hne, Nat.lt_of_lt_of_le hlt ho.size, v, by rw [ho.block p (lt_of_block hp) h1]; exact hp, hv.only ho h2 hlt⟩

theorem Rf.only {w w' : World} {q g r : Nat} {l : List Nat} {bad : Bool} (h : Rf w q g l bad) (ho : Only r w w') (h1 : q ≠ r) (h2 : g ≠ r) : Rf w' q g l bad := by
  obtain ⟨hne, hlt, a, n, c, at', B, hq, hn, hat, hn1, hnc, e1, e2, hB⟩ := h
  refine ⟨hne, Nat.lt_of_lt_of_le hlt ho.size, a, n, c, at', B, by rw [ho.block q (lt_of_block hq) h1]; exact hq, hn, hat, hn1, hnc, e1, e2, ?_⟩
  rcases hB with h | ⟨off, e, hc⟩
  · exact .inl h
  · exact .inr ⟨off, e, fun i hi => by rw [ho.cell (q := ⟨g, off + i, none⟩) h2 hlt]; exact hc i hi⟩

theorem Rd.drewN {w : World} {p g : Nat} {l : List Nat} {bad : Bool} (h : Rd w p g l bad) (k : Nat) : Rd (w.drewN k) p g l bad := ⟨h.ne, h.lt, h.cells⟩
theorem Rf.drewN {w : World} {p g : Nat} {l : List Nat} {bad : Bool} (h : Rf w p g l bad) (k : Nat) : Rf (w.drewN k) p g l bad := ⟨h.ne, h.lt, h.cells⟩

/-- both readers, at the same place -/
structure Two (w : World) (p q g g' : Nat) (l : List Nat) (bad : Bool) : Prop where
  rd : Rd w p g l bad
  rf : Rf w q g' l bad
  bad : bad = true → l = []
  lt : ∀ n ∈ l, n < 256
  le : l.length ≤ 1000

theorem Row.some {w : World} {a : Option Addr} {l : List Nat} (h : Row w a l) (hp : 0 < l.length) :
    ∃ b off, a = Option.some ⟨b, off, none⟩ ∧ b < w.heap.size ∧ ∀ i, i < l.length → w.cell? ⟨b, off + i, none⟩ = Option.some (.int .u8 ((l.getD i 0 : Nat) : Int)) := by
  rcases h with rfl | ⟨b, off, h1, h2, h3⟩
  · simp at hp
  · exact ⟨b, off, h1, h2, h3⟩

theorem Rf.flag {w : World} {q g : Nat} {l : List Nat} {bad : Bool} (h : Rf w q g l bad) : w.cell? ⟨q, 2, none⟩ = Option.some (.bool bad) := by
  obtain ⟨_, _, a, n, c, at', B, hq, _⟩ := h
  exact (cell_three hq).2.2.1

theorem Two.step {w w1 w2 : World} {p q g g' : Nat} {l l' : List Nat} {bad bad' : Bool} (_h : Two w p q g g' l bad) (h1 : Rd w1 p g l' bad') (ho2 : Only q w1 w2) (h2 : Rf w2 q g' l' bad') (hpq : p ≠ q) (hgq : g ≠ q)
    (hb : bad' = true → l' = []) (hl : ∀ n ∈ l', n < 256) (hle : l'.length ≤ 1000) : Two w2 p q g g' l' bad' :=
  ⟨h1.only ho2 hpq hgq, h2, hb, hl, hle⟩

set_option maxHeartbeats 2000000 in
theorem reads_main (a b : Option Addr) (n m c d : Nat) (l k : List Nat) (w : World) (hl : ∀ n ∈ l, n < 256) (hk : ∀ n ∈ k, n < 256)
    (hn : Hid (n = l.length)) (hm : Hid (m = k.length)) (hnil : Hid (a = none → c = 0)) (hcap : n ≤ c) (hrow : Row w a l) (hrowk : Row w b k) (h1 : n ≤ 1000) (h2 : m ≤ 100) :
    Calls Try.prog 4 #[.slice a n c, .slice b m d] w fun e w' => e = .returned (.bool true) ∧ Below w.heap.size w w' := by
  go_enter Try.func4, Try.ntmps4
  go_wp2_with (at_builtin; refine wpList_append_bytes rfl (.tmp 17) (.tmp 18) rfl w.heap.size (.slice (some ⟨w.heap.size, 0, none⟩) 0 0) 0 [] rfl (owns_made w _ (Nat.le_refl _)) a n c l rfl hn.out hnil.out (hrow.below (below_alloc _ _)) l rfl (by omega) (by simp) ?_; intro a1 n1 c1 w1 hown1 Hn1 hle1 hr1 _ hb1; have hb1 := (below_alloc w _).trans hb1)
  clear hown1
  refine (new_any a1 n1 c1 l w1 Hn1 hr1 (by omega)).mono ?_
  rintro e w2 ⟨p, hp, rfl, hrd, hb2⟩
  have hb2w := hb1.trans (hb2.mono hb1.size)
  have hpw : w.heap.size ≤ p := by have := hb1.size; omega
  have hgw : w.heap.size ≤ w1.heap.size := hb1.size
  have hplt : p < w2.heap.size := by obtain ⟨v, hv, _⟩ := hrd.cells; exact lt_of_block hv
  clear hb1 hb2 hr1 Hn1 hle1
  generalize w1.heap.size = g at *
  obtain ⟨g', hg'p, hg'q, hrf⟩ : ∃ g', g' ≠ p ∧ g' ≠ w2.heap.size ∧ Rf (w2.alloc (.cells #[.slice a n c, .int .i64 0, .bool false] 42)) w2.heap.size g' l false := by
    have hal := heap_alloc_new w2 (.cells #[.slice a n c, .int .i64 0, .bool false] 42)
    rcases hrow with hl0 | ⟨b0, off, e, hlt, hcell⟩
    · refine ⟨g, by omega, by omega, ⟨by omega, by simp; omega, a, n, c, 0, l, hal, hn.out, by omega, h1, hcap, fun (h : false = true) => by simp at h, fun _ => by simp, .inl hl0⟩⟩
    · refine ⟨b0, by omega, by have := hb2w.size; omega, ⟨by have := hb2w.size; omega, by have := hb2w.size; simp; omega, a, n, c, 0, l, hal, hn.out, by omega, h1, hcap, fun (h : false = true) => by simp at h, fun _ => by simp, .inr ⟨off, e, fun i hi => ?_⟩⟩⟩
      exact cell_keep ((hb2w.cell (p := ⟨b0, off + i, none⟩) hlt).trans (hcell i hi)) _
  have htwo : Two (w2.alloc (.cells #[.slice a n c, .int .i64 0, .bool false] 42)) p w2.heap.size g g' l false := by
    obtain ⟨hne, hlt, v, hpv, hv⟩ := hrd
    refine ⟨⟨hne, by simp; omega, v, (Below.heap_alloc _ _ _ hplt).trans hpv, ?_⟩, hrf, fun (h : false = true) => by simp at h, hl, by have := hn.out; omega⟩
    rcases hv with h | ⟨off, c', e, hc', hcell⟩
    · exact .inl h
    · exact .inr ⟨off, c', e, hc', fun i hi => cell_keep (hcell i hi) _⟩
  have hbw := hb2w.alloc hb2w.size (.cells #[.slice a n c, .int .i64 0, .bool false] 42)
  have hqw : w.heap.size ≤ w2.heap.size := hb2w.size
  clear hrd hrf hb2w
  go_wp2_with fail
  generalize w2.alloc (.cells #[.slice a n c, .int .i64 0, .bool false] 42) = W0 at *
  generalize w2.heap.size = q at *
  have hpq : p ≠ q := by omega
  have hgq : g ≠ q := by omega
  go_loopw [7] (fun i wr => ∃ j : Nat, j ≤ m ∧ i = .int .i64 j ∧ ∃ ls bad, Two wr p q g g' ls bad ∧ Below w.heap.size w wr) (fun i _ => m - (intOf i).toNat)
  case atStart => exact ⟨0, by omega, rfl, l, false, htwo, hbw⟩
  case round =>
    obtain ⟨j, hj, rfl, ls, bad, ht, hnx⟩ := hrel
    by_cases hlt : j < m
    · have hjk : j < k.length := by have := hm.out; omega
      obtain ⟨bb, ob, Hb, hbl, hcell⟩ := hrowk.some (by omega)
      have hc0 := hcell j hjk
      have hc1 := (hnx.cell (p := ⟨bb, ob + j, none⟩) hbl).trans hc0
      have hx := getD_lt hk j
      clear hcell hc0
      subst Hb
      generalize k.getD j 0 = x at *
      have hlb := ht.lt
      have hle := ht.le
      have hle2 : ls.length ≤ 1000000 := by omega
      have HBD := Lib.hid ht.bad
      have h3 : x % 3 = 0 ∨ x % 3 = 1 ∨ x % 3 = 2 := by omega
      rcases h3 with h3 | h3 | h3
      · have t0 : ((x : Int) % 3 == 0) = true := by rw [beq_iff_eq]; omega
        clear h3
        go_wp2_with fail
        refine (u32r_any p g ls bad wr ht.rd hle2 hlb).mono ?_
        rintro e w3 ⟨rfl, hr3, ho3⟩
        have hrf3 := ht.rf.only ho3 (Ne.symm hpq) hg'p
        have hv := rdN_lt 4 hlb
        have hn3 := ho3.tob hnx hpw
        go_wp2_with fail
        refine (number_any q g' ls bad 4 w3 hrf3 HBD.out (by omega) (by omega) hlb).mono ?_
        rintro e w4 ⟨rfl, hrf4, ho4⟩
        have hr4 := hr3.only ho4 hpq hgq
        have hn4 := ho4.tob hn3 hqw
        have hbd4 := rdB_bad (m := 4) HBD.out
        have hlt4 := rdL_lt 4 hlb
        have hle4 := rdL_le 4 ls
        have hfl := hrf4.flag
        generalize rdL 4 ls = l2 at *
        generalize rdB 4 ls bad = bad2 at *
        have HBD2 := Lib.hid hbd4
        clear hbd4 ho3 ho4 hr3 hrf3 hn3 hc1 ht hnx
        have hbb : ((!bad2) == bad2) = false := by cases bad2 <;> rfl
        go_wp2_with fail
        go_quiet (first
          | (go_at_call 20; exact Calls.quiet_of_same ((left_any p g _ _ _ (hr4.drewN _)).mono fun e w' ⟨h1, h2⟩ => ⟨h1, h2.symm⟩))
          | (go_at_call 21; exact Calls.quiet_of (refleft_any q g' _ _ _ (hrf4.drewN _)))
          | (go_at_call 22; exact Calls.quiet_of_same ((right_any p g _ _ _ (hr4.drewN _)).mono fun e w' ⟨h1, h2⟩ => ⟨h1, h2.symm⟩)))
        go_wp2_with fail
        go_roundw
        case rel => exact ⟨j + 1, by omega, by go_num, l2, bad2, ⟨hr4.drewN _, hrf4.drewN _, HBD2.out, hlt4, by omega⟩, ⟨hn4.os, hn4.tape, hn4.output, hn4.size, hn4.block⟩⟩
        case measure => simp [intOf]; omega
      · have t0 : ((x : Int) % 3 == 0) = false := by rw [beq_eq_false_iff_ne]; omega
        have t1 : ((x : Int) % 3 == 1) = true := by rw [beq_iff_eq]; omega
        clear h3
        go_wp2_with fail
        refine (u64r_any p g ls bad wr ht.rd hle2 hlb).mono ?_
        rintro e w3 ⟨rfl, hr3, ho3⟩
        have hrf3 := ht.rf.only ho3 (Ne.symm hpq) hg'p
        have hv := rdN_lt 8 hlb
        have hn3 := ho3.tob hnx hpw
        go_wp2_with fail
        refine (number_any q g' ls bad 8 w3 hrf3 HBD.out (by omega) (by omega) hlb).mono ?_
        rintro e w4 ⟨rfl, hrf4, ho4⟩
        have hr4 := hr3.only ho4 hpq hgq
        have hn4 := ho4.tob hn3 hqw
        have hbd4 := rdB_bad (m := 8) HBD.out
        have hlt4 := rdL_lt 8 hlb
        have hle4 := rdL_le 8 ls
        have hfl := hrf4.flag
        generalize rdL 8 ls = l2 at *
        generalize rdB 8 ls bad = bad2 at *
        have HBD2 := Lib.hid hbd4
        clear hbd4 ho3 ho4 hr3 hrf3 hn3 hc1 ht hnx
        have hbb : ((!bad2) == bad2) = false := by cases bad2 <;> rfl
        go_wp2_with fail
        go_quiet (first
          | (go_at_call 20; exact Calls.quiet_of_same ((left_any p g _ _ _ (hr4.drewN _)).mono fun e w' ⟨h1, h2⟩ => ⟨h1, h2.symm⟩))
          | (go_at_call 21; exact Calls.quiet_of (refleft_any q g' _ _ _ (hrf4.drewN _)))
          | (go_at_call 22; exact Calls.quiet_of_same ((right_any p g _ _ _ (hr4.drewN _)).mono fun e w' ⟨h1, h2⟩ => ⟨h1, h2.symm⟩)))
        go_wp2_with fail
        go_roundw
        case rel => exact ⟨j + 1, by omega, by go_num, l2, bad2, ⟨hr4.drewN _, hrf4.drewN _, HBD2.out, hlt4, by omega⟩, ⟨hn4.os, hn4.tape, hn4.output, hn4.size, hn4.block⟩⟩
        case measure => simp [intOf]; omega
      · have t0 : ((x : Int) % 3 == 0) = false := by rw [beq_eq_false_iff_ne]; omega
        have t1 : ((x : Int) % 3 == 1) = false := by rw [beq_eq_false_iff_ne]; omega
        have t2 : ((x : Int) % 3 == 2) = true := by rw [beq_iff_eq]; omega
        clear h3
        go_wp2_with fail
        refine (textr_any p g ls bad wr ht.rd hle2 hlb).mono ?_
        rintro e w3 ⟨rfl, hr3, ho3⟩
        have hrf3 := ht.rf.only ho3 (Ne.symm hpq) hg'p
        have hn3 := ho3.tob hnx hpw
        go_wp2_with fail
        refine (reftext_any q g' ls bad w3 hrf3 HBD.out hlb).mono ?_
        rintro e w4 ⟨rfl, hrf4, ho4⟩
        have hr4 := hr3.only ho4 hpq hgq
        have hn4 := ho4.tob hn3 hqw
        have hbd4 : txB ls bad = true → txL ls = [] := rdB_bad (rdB_bad HBD.out)
        have hlt4 : ∀ n ∈ txL ls, n < 256 := rdL_lt _ (rdL_lt 2 hlb)
        have hle4 : (txL ls).length ≤ ls.length := Nat.le_trans (rdL_le _ _) (rdL_le 2 ls)
        have hfl := hrf4.flag
        generalize txL ls = l2 at *
        generalize txB ls bad = bad2 at *
        generalize txS ls = s2 at *
        have HBD2 := Lib.hid hbd4
        clear hbd4 ho3 ho4 hr3 hrf3 hn3 hc1 ht hnx
        have hbb : ((!bad2) == bad2) = false := by cases bad2 <;> rfl
        go_wp2_with fail
        go_quiet (first
          | (go_at_call 20; exact Calls.quiet_of_same ((left_any p g _ _ _ (hr4.drewN _)).mono fun e w' ⟨h1, h2⟩ => ⟨h1, h2.symm⟩))
          | (go_at_call 21; exact Calls.quiet_of (refleft_any q g' _ _ _ (hrf4.drewN _)))
          | (go_at_call 22; exact Calls.quiet_of_same ((right_any p g _ _ _ (hr4.drewN _)).mono fun e w' ⟨h1, h2⟩ => ⟨h1, h2.symm⟩)))
        go_wp2_with fail
        go_roundw
        case rel => exact ⟨j + 1, by omega, by go_num, l2, bad2, ⟨hr4.drewN _, hrf4.drewN _, HBD2.out, hlt4, by omega⟩, ⟨hn4.os, hn4.tape, hn4.output, hn4.size, hn4.block⟩⟩
        case measure => simp [intOf]; omega
    · obtain rfl : m = j := by omega
      clear ht hrowk hm hk
      go_wp2_with fail
      refine (u32r_nil wr).mono ?_
      rintro e w3 ⟨rfl, rfl⟩
      go_wp2_with fail
      refine (u64r_nil wr).mono ?_
      rintro e w3 ⟨rfl, rfl⟩
      go_wp2_with fail
      refine (textr_nil wr).mono ?_
      rintro e w3 ⟨rfl, rfl⟩
      rw [show str [] = ⟨#[]⟩ from rfl]
      go_wp2_with fail
      refine (left_nil wr).mono ?_
      rintro e w3 ⟨rfl, rfl⟩
      go_wp2_with fail
      refine (right_nil wr).mono ?_
      rintro e w3 ⟨rfl, rfl⟩
      go_wp2_with fail
      refine (awake_any wr).mono ?_
      rintro e w4 ⟨rfl, hb4⟩
      have hnk4 := hnx.trans (hb4.mono hnx.size)
      go_wp2_with fail
      go_ret
      exact ⟨rfl, hnk4⟩

theorem reads_any (a b : Option Addr) (n m c d : Nat) (l k : List Nat) (w : World) (hl : ∀ n ∈ l, n < 256) (hk : ∀ n ∈ k, n < 256)
    (hn : Hid (n = l.length)) (hm : Hid (m = k.length)) (hnil : Hid (a = none → c = 0)) (hcap : n ≤ c) (hrow : Row w a l) (hrowk : Row w b k) :
    Calls Try.prog 4 #[.slice a n c, .slice b m d] w fun e w' => e = .returned (.bool true) ∧ Below w.heap.size w w' := by
  by_cases h1 : n ≤ 1000
  · by_cases h2 : m ≤ 100
    · exact reads_main a b n m c d l k w hl hk hn hm hnil hcap hrow hrowk h1 h2
    · clear hrow hrowk hn hm hnil
      go_enter Try.func4, Try.ntmps4
      go_wp2_with fail
      go_ret
      exact ⟨rfl, Below.refl _ _⟩
  · clear hrow hrowk hn hm hnil
    go_enter Try.func4, Try.ntmps4
    go_wp2_with fail
    go_ret
    exact ⟨rfl, Below.refl _ _⟩
end Go.Proofs.Ytppboldeocjbhab
