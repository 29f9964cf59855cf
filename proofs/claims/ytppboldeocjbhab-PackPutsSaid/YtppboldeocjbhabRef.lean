/-
  THE DOCUMENT's OWN READER, WALKED.
-/
import Derived.Test.YtppboldeocjbhabMeth
import Derived.Deep.QuietTactic
import Derived.BigQuiet
namespace Go.Proofs.Ytppboldeocjbhab
open Go.RowKit

/-- the document's reader at block q: its bytes in block g; what is left to be read is l -/
structure Rf (w : World) (q g : Nat) (l : List Nat) (bad : Bool) : Prop where
  ne : g ≠ q
  lt : g < w.heap.size
  cells : ∃ a n c at' B, w.heap[q]? = some (.cells #[.slice a n c, .int .i64 ((at' : Nat) : Int), .bool bad] 42 (0, 0)) ∧ n = List.length B ∧ at' ≤ n ∧ n ≤ 1000 ∧ n ≤ c ∧
    (bad = true → l = []) ∧ (bad = false → l = B.drop at') ∧
    (B = [] ∨ ∃ off, a = some ⟨g, off, none⟩ ∧ ∀ i, i < B.length → w.cell? ⟨g, off + i, none⟩ = some (.int .u8 ((B.getD i 0 : Nat) : Int)))

theorem cell_three {w : World} {p : Nat} {u v x : Value} {t : TypeId} (h : w.heap[p]? = some (.cells #[u, v, x] t (0, 0))) :
    w.cell? ⟨p, 0, none⟩ = some u ∧ w.cell? ⟨p, 1, none⟩ = some v ∧ w.cell? ⟨p, 2, none⟩ = some x ∧ w.frozen? ⟨p, 0, none⟩ = false ∧ w.frozen? ⟨p, 1, none⟩ = false ∧ w.frozen? ⟨p, 2, none⟩ = false := by
  simp [World.cell?, World.frozen?, h]

theorem num_drop {t : List Nat} {j : Nat} (h : j < t.length) : num (t.drop j) = t.getD j 0 + 256 * num (t.drop (j + 1)) := by
  rw [List.drop_eq_getElem_cons h]
  simp [num, List.getD, h]

theorem value_some (g off c : Nat) (t : List Nat) (w : World) (ht : ∀ n ∈ t, n < 256) (hlen : t.length ≤ 8) (hcell : ∀ i, i < t.length → w.cell? ⟨g, off + i, none⟩ = some (.int .u8 ((t.getD i 0 : Nat) : Int))) :
    Calls Try.prog 32 #[.slice (some ⟨g, off, none⟩) t.length c] w fun e w' => e = .returned (.int .u64 (num t : Int)) ∧ w = w' := by
  have HC := Lib.hid hcell
  clear hcell
  go_enter Try.func32, Try.ntmps32
  go_wp2_with fail
  go_loop [3, 4] (fun v i => ∃ k : Nat, k ≤ t.length ∧ i = .int .i64 ((k : Int) - 1) ∧ v = .int .u64 ((num (t.drop k) : Nat) : Int)) (fun _ i => (intOf i + 1).toNat)
  case atStart => exact ⟨t.length, Nat.le_refl _, rfl, by simp [num]⟩
  case round =>
    obtain ⟨k, hk, rfl, rfl⟩ := hrel
    cases k with
    | zero =>
      rw [List.drop_zero]
      go_wp2_with fail
      go_ret
      exact ⟨rfl, rfl⟩
    | succ j =>
      rw [show ((j + 1 : Nat) : Int) - 1 = (j : Int) from by omega]
      have hj : j < t.length := by omega
      have hcell := HC.out j hj
      have hx := getD_lt ht j
      have hd := num_drop hj
      have hn := num_lt (t.drop (j + 1)) (drop_lt ht _)
      have hn2 : num (t.drop (j + 1)) < 72057594037927936 := by
        refine Nat.lt_of_lt_of_le hn ?_
        rw [List.length_drop]
        exact Nat.le_trans (Nat.pow_le_pow_right (n := 2) (by omega) (show 8 * (t.length - (j + 1)) ≤ 56 by omega)) (by decide)
      generalize num (t.drop (j + 1)) = n at *
      generalize t.getD j 0 = x at *
      have HD := Lib.hid hd
      clear hd hn
      go_wp2_with fail
      go_round
      case rel => exact ⟨j, by omega, by first | rfl | go_num, val_eq (by rw [HD.out]; omega)⟩
      case measure => simp [intOf]

/-- a slice's value whose cells lie in block g; an empty one wherever -/
def RowE (w : World) (g : Nat) (v : Value) (l : List Nat) : Prop :=
  (∃ a c, v = .slice a 0 c ∧ l = []) ∨
  ∃ off c, v = .slice (some ⟨g, off, none⟩) l.length c ∧ ∀ i, i < l.length → w.cell? ⟨g, off + i, none⟩ = some (.int .u8 ((l.getD i 0 : Nat) : Int))

theorem value_any (g : Nat) (v : Value) (t : List Nat) (w : World) (ht : ∀ n ∈ t, n < 256) (hlen : t.length ≤ 8) (hv : RowE w g v t) :
    Calls Try.prog 32 #[v] w fun e w' => e = .returned (.int .u64 (num t : Int)) ∧ w = w' := by
  rcases hv with ⟨a, c, rfl, rfl⟩ | ⟨off, c, rfl, hcell⟩
  · go_enter Try.func32, Try.ntmps32
    go_wp2_with fail
    refine wp_loop_rounds 1 ?_
    rw [rounds_succ]
    go_wp2_with fail
    go_ret
    exact ⟨rfl, rfl⟩
  · exact value_some g off c t w ht hlen hcell

theorem conv_rowE {w : World} {g : Nat} {v : Value} {l : List Nat} (h : RowE w g v l) (hl : ∀ x ∈ l, x < 256) :
    (convert 22 9 v).run Try.prog w = .ok (.string (str l)) w := by
  rcases h with ⟨a, c, rfl, rfl⟩ | ⟨off, c, rfl, hcell⟩
  · exact conv_row (a := a) (l := []) rfl (.inl rfl) (by simp) c
  · refine conv_row rfl ?_ hl c
    by_cases h0 : l = []
    · exact .inl h0
    · have hp : 0 < l.length := List.length_pos_iff.2 h0
      exact .inr ⟨g, off, rfl, lt_of_cell (hcell 0 hp), hcell⟩

theorem Only.drewN {p : Nat} {a w : World} (h : Only p a w) (k : Nat) : Only p a (w.drewN k) := ⟨h.os, h.tape, h.output, h.size, h.block⟩

theorem rf_fail {w w' : World} {q g n c at' : Nat} {a : Option Addr} {B : List Nat} {x : Value} (hne : g ≠ q) (hlt : g < w.heap.size) (hw : w'.heap = w.heap)
    (hq : w.heap[q]? = some (.cells #[.slice a n c, .int .i64 ((at' : Nat) : Int), x] 42 (0, 0))) (hn : n = B.length) (hat : at' ≤ n) (hn1 : n ≤ 1000) (hnc : n ≤ c)
    (hB : B = [] ∨ ∃ off, a = some ⟨g, off, none⟩ ∧ ∀ i, i < B.length → w.cell? ⟨g, off + i, none⟩ = some (.int .u8 ((B.getD i 0 : Nat) : Int))) :
    Rf (w'.setCell ⟨q, 2, none⟩ (.bool true)) q g [] true := by
  have hq' : w'.heap[q]? = some (.cells #[.slice a n c, .int .i64 ((at' : Nat) : Int), x] 42 (0, 0)) := by rw [hw]; exact hq
  have ho := (Only.refl q w').setCell 2 (.bool true)
  refine ⟨hne, by simp [World.setCell, hw]; exact hlt, a, n, c, at', B, set_block hq', hn, hat, hn1, hnc, fun _ => rfl, fun h => by simp at h, ?_⟩
  rcases hB with h | ⟨off, h1, h2⟩
  · exact .inl h
  · refine .inr ⟨off, h1, fun i hi => ?_⟩
    rw [ho.cell (q := ⟨g, off + i, none⟩) hne (by rw [hw]; exact hlt)]
    have : w'.cell? ⟨g, off + i, none⟩ = w.cell? ⟨g, off + i, none⟩ := by unfold World.cell?; rw [hw]
    rw [this]
    exact h2 i hi

/-- what Take comes to -/
theorem take_bad (q g : Nat) (l : List Nat) (m : Nat) (w : World) (h : Rf w q g l true) :
    Calls Try.prog 31 #[.pointer (some ⟨q, 0, none⟩), .int .i64 (m : Int)] w fun e w' => e = .returned (.tuple #[.slice none 0 0, .bool false]) ∧ Rf w' q g [] true ∧ Only q w w' := by
  obtain ⟨hne, hlt, a, n, c, at', B, hq, hn, hat, hn1, hnc, h1, h2, hB⟩ := h
  obtain ⟨c0, c1, c2, f0, f1, f2⟩ := cell_three hq
  have HQ := Lib.hid hq
  have HN := Lib.hid hn
  clear hq hn h1 h2
  have HB := Lib.hid hB
  clear hB
  go_enter Try.func31, Try.ntmps31
  go_wp2_with fail
  go_quiet (fail)
  go_wp2_with fail
  go_ret2
  exact ⟨rfl, rf_fail hne hlt rfl HQ.out HN.out hat hn1 hnc HB.out, ((Only.refl q w).drewN _).setCell _ _⟩

theorem take_short (q g : Nat) (l : List Nat) (m : Nat) (w : World) (h : Rf w q g l false) (hm : l.length < m) :
    Calls Try.prog 31 #[.pointer (some ⟨q, 0, none⟩), .int .i64 (m : Int)] w fun e w' => e = .returned (.tuple #[.slice none 0 0, .bool false]) ∧ Rf w' q g [] true ∧ Only q w w' := by
  obtain ⟨hne, hlt, a, n, c, at', B, hq, hn, hat, hn1, hnc, h1, h2, hB⟩ := h
  obtain ⟨c0, c1, c2, f0, f1, f2⟩ := cell_three hq
  have hlen : n - at' < m := by rw [h2 rfl] at hm; simp at hm; omega
  have HQ := Lib.hid hq
  have HN := Lib.hid hn
  clear hq hn h1 h2 hm
  have HB := Lib.hid hB
  clear hB
  have w1 : IntKind.i64.wrap ((n : Int) - (at' : Int)) = (n : Int) - (at' : Int) := IntWalk.i64_in _ (by omega)
  have k1 : (n : Int) - (at' : Int) < (m : Int) := by omega
  go_enter Try.func31, Try.ntmps31
  go_wp2_with fail
  go_quiet (fail)
  go_wp2_with fail
  go_ret2
  exact ⟨rfl, rf_fail hne hlt rfl HQ.out HN.out hat hn1 hnc HB.out, ((Only.refl q w).drewN _).setCell _ _⟩

/-- the state behind a Take that succeeds, and what it hands back -/
theorem rf_done {w w' : World} {q g n c at' m s nm off off' : Nat} {B l : List Nat} (hne : g ≠ q) (hlt : g < w.heap.size) (ho : Only q w w')
    (hq : w'.heap[q]? = some (.cells #[.slice (some ⟨g, off, none⟩) n c, .int .i64 ((s : Nat) : Int), .bool false] 42 (0, 0))) (hs : at' + m = s) (hnm : nm = m) (hn : n = B.length) (hat : s ≤ n) (hn1 : n ≤ 1000) (hnc : n ≤ c) (hl : l = B.drop at')
    (hoff : m = 0 ∨ off' = off + at')
    (hB : ∀ i, i < B.length → w.cell? ⟨g, off + i, none⟩ = some (.int .u8 ((B.getD i 0 : Nat) : Int))) (cap : Nat) :
    RowE w' g (.slice (some ⟨g, off', none⟩) nm cap) (l.take m) ∧ Rf w' q g (l.drop m) false ∧ Only q w w' := by
  subst hs hnm
  have hB' : ∀ i, i < B.length → w'.cell? ⟨g, off + i, none⟩ = some (.int .u8 ((B.getD i 0 : Nat) : Int)) := fun i hi => by
    rw [ho.cell (q := ⟨g, off + i, none⟩) hne hlt]; exact hB i hi
  have hlen : (l.take nm).length = nm := by rw [hl, List.length_take, List.length_drop]; omega
  refine ⟨.inr ⟨off', cap, by rw [hlen], fun i hi => ?_⟩, ⟨hne, Nat.lt_of_lt_of_le hlt ho.size, some ⟨g, off, none⟩, n, c, at' + nm, B, hq, hn, hat, hn1, hnc, fun (h : false = true) => by simp at h, fun _ => by rw [hl, List.drop_drop], .inr ⟨off, rfl, hB'⟩⟩, ho⟩
  rw [hlen] at hi
  obtain rfl : off' = off + at' := by omega
  rw [Nat.add_assoc, hB' (at' + i) (by omega), hl]
  simp [List.getD, hi]

theorem take_ok (q g : Nat) (l : List Nat) (m : Nat) (w : World) (h : Rf w q g l false) (hm : m ≤ l.length) :
    Calls Try.prog 31 #[.pointer (some ⟨q, 0, none⟩), .int .i64 (m : Int)] w fun e w' => ∃ v, e = .returned (.tuple #[v, .bool true]) ∧ RowE w' g v (l.take m) ∧ Rf w' q g (l.drop m) false ∧ Only q w w' := by
  obtain ⟨hne, hlt, a, n, c, at', B, hq, hn, hat, hn1, hnc, h1, h2, hB⟩ := h
  obtain ⟨c0, c1, c2, f0, f1, f2⟩ := cell_three hq
  have hll := h2 rfl
  have hlen : m ≤ n - at' := by rw [hll] at hm; simp at hm; omega
  have HQ := Lib.hid hq
  have HN := Lib.hid hn
  have HL := Lib.hid hll
  clear hq hn h1 h2 hm hll
  have w1 : IntKind.i64.wrap ((n : Int) - (at' : Int)) = (n : Int) - (at' : Int) := IntWalk.i64_in _ (by omega)
  have k1 : ¬ (n : Int) - (at' : Int) < (m : Int) := by omega
  have w2 : IntKind.i64.wrap (((at' + m : Nat) : Int) - (m : Int)) = (at' : Int) := by rw [IntWalk.i64_in _ (by omega)]; omega
  rcases hB with rfl | ⟨off, rfl, hcell⟩
  · obtain rfl : n = 0 := by rw [HN.out]; rfl
    obtain rfl : at' = 0 := by omega
    obtain rfl : m = 0 := by omega
    have z1 : IntKind.i64.wrap 0 = 0 := by decide
    go_enter Try.func31, Try.ntmps31
    go_wp2_with fail
    go_quiet (fail)
    go_wp2_with fail
    have hb1 := set_block (j := 1) (u := .int .i64 0) (show (w.drewN nq).heap[q]? = _ from HQ.out)
    have ho1 := ((Only.refl q w).drewN nq).setCell 1 (.int .i64 0)
    generalize ((w.drewN nq).setCell ⟨q, 1, none⟩ (.int .i64 0)) = W at *
    have hb1 : W.heap[q]? = some (.cells #[.slice a 0 c, .int .i64 ((0 : Nat) : Int), .bool false] 42 (0, 0)) := hb1
    obtain ⟨d0, d1, d2, _, _, _⟩ := cell_three hb1
    have HB1 := Lib.hid hb1
    clear hb1 c0 c1 c2 f0 f1 f2
    have hfin : ∀ (v : Value) (k : Nat), (∃ a' c', v = .slice a' 0 c') → RowE (W.drewN k) g v (l.take 0) ∧ Rf (W.drewN k) q g (l.drop 0) false ∧ Only q w (W.drewN k) := by
      intro v k hv
      obtain ⟨a', c', rfl⟩ := hv
      exact ⟨.inl ⟨a', c', rfl, by simp⟩, ⟨hne, Nat.lt_of_lt_of_le hlt ho1.size, a, 0, c, 0, [], HB1.out, rfl, by omega, by omega, by omega, fun (h : false = true) => by simp at h, fun _ => by rw [HL.out]; simp, .inl rfl⟩, ho1.drewN k⟩
    have HF := Lib.hid hfin
    clear hfin
    by_cases hc0 : c = 0
    · subst hc0
      go_quiet (fail)
      go_wp2_with fail
      go_ret2
      exact ⟨_, rfl, HF.out _ _ ⟨_, _, rfl⟩⟩
    · have hc1 : 0 < c := by omega
      clear hc0
      go_quiet (fail)
      go_wp2_with fail
      go_ret2
      exact ⟨_, rfl, HF.out _ _ ⟨_, _, rfl⟩⟩
  · have HC := Lib.hid hcell
    clear hcell
    go_enter Try.func31, Try.ntmps31
    go_wp2_with fail
    go_quiet (fail)
    go_wp2_with fail
    rw [show ((at' : Int) + (m : Int)) = ((at' + m : Nat) : Int) from by omega]
    have hb1 := set_block (j := 1) (u := .int .i64 ((at' + m : Nat) : Int)) (show (w.drewN nq).heap[q]? = _ from HQ.out)
    have ho1 := ((Only.refl q w).drewN nq).setCell 1 (.int .i64 ((at' + m : Nat) : Int))
    generalize ((w.drewN nq).setCell ⟨q, 1, none⟩ (.int .i64 ((at' + m : Nat) : Int))) = W at *
    have hb1 : W.heap[q]? = some (.cells #[.slice (some ⟨g, off, none⟩) n c, .int .i64 ((at' + m : Nat) : Int), .bool false] 42 (0, 0)) := hb1
    obtain ⟨d0, d1, d2, _, _, _⟩ := cell_three hb1
    have HB1 := Lib.hid hb1
    clear hb1 c0 c1 c2 f0 f1 f2
    have s1 : at' + m ≤ n := by omega
    have s2 : (0 : Int) ≤ (at' : Int) := by omega
    have s3 : (at' : Int) ≤ ((at' + m : Nat) : Int) := by omega
    have s4 : ((at' + m : Nat) : Int) ≤ (c : Int) := by omega
    generalize hs : at' + m = s at *
    have HS := Lib.hid hs
    clear hs
    by_cases hac : c = at'
    · subst hac
      obtain rfl : m = 0 := by omega
      go_quiet (fail)
      go_wp2_with fail
      go_ret2
      have hs := HS.out
      exact ⟨_, rfl, rf_done hne hlt (ho1.drewN _) (show W.heap[q]? = _ from HB1.out) hs (by omega) HN.out s1 hn1 hnc HL.out (by omega) HC.out _⟩
    · have hac' : at' < c := by omega
      clear hac
      go_quiet (fail)
      go_wp2_with fail
      go_ret2
      have hs := HS.out
      exact ⟨_, rfl, rf_done hne hlt (ho1.drewN _) (show W.heap[q]? = _ from HB1.out) hs (by omega) HN.out s1 hn1 hnc HL.out (by omega) HC.out _⟩

/-- Take, in the words of the other reader -/
theorem take_any (q g : Nat) (l : List Nat) (bad : Bool) (m : Nat) (w : World) (h : Rf w q g l bad) (hbad : bad = true → l = []) :
    Calls Try.prog 31 #[.pointer (some ⟨q, 0, none⟩), .int .i64 (m : Int)] w fun e w' => ∃ v, e = .returned (.tuple #[v, .bool (!bad && decide (m ≤ l.length))]) ∧ RowE w' g v (nx m l) ∧ Rf w' q g (rdL m l) (rdB m l bad) ∧ Only q w w' := by
  cases bad with
  | true =>
    obtain rfl : l = [] := hbad rfl
    refine (take_bad q g [] m w h).mono fun e w' ⟨h1, h2, h3⟩ => ⟨_, h1, .inl ⟨none, 0, rfl, by unfold nx; split <;> simp⟩, ?_, h3⟩
    have e1 : rdL m [] = [] := by unfold rdL; split <;> simp
    have e2 : rdB m [] true = true := by unfold rdB; split <;> rfl
    rw [e1, e2]
    exact h2
  | false =>
    by_cases hm : m ≤ l.length
    · rw [show nx m l = l.take m from if_pos hm, show rdL m l = l.drop m from if_pos hm, show rdB m l false = false from if_pos hm, show decide (m ≤ l.length) = true from by simpa using hm]
      exact take_ok q g l m w h hm
    · rw [show nx m l = [] from if_neg hm, show rdL m l = [] from if_neg hm, show rdB m l false = true from if_neg hm, show decide (m ≤ l.length) = false from by simpa using hm]
      exact (take_short q g l m w h (by omega)).mono fun e w' ⟨h1, h2, h3⟩ => ⟨_, h1, .inl ⟨none, 0, rfl, rfl⟩, h2, h3⟩

theorem rdB_bad {m : Nat} {l : List Nat} {bad : Bool} (h : bad = true → l = []) : rdB m l bad = true → rdL m l = [] := by
  unfold rdB rdL
  split
  · intro hb
    rw [h hb]
    simp
  · intro _; rfl

theorem number_any (q g : Nat) (l : List Nat) (bad : Bool) (m : Nat) (w : World) (h : Rf w q g l bad) (hbad : bad = true → l = []) (hm : 0 < m) (hm8 : m ≤ 8) (hb : ∀ n ∈ l, n < 256) :
    Calls Try.prog 16 #[.pointer (some ⟨q, 0, none⟩), .int .i64 (m : Int)] w fun e w' => e = .returned (.int .u64 (rdN m l : Int)) ∧ Rf w' q g (rdL m l) (rdB m l bad) ∧ Only q w w' := by
  by_cases hok : (!bad && decide (m ≤ l.length)) = true
  · have hml : m ≤ l.length := by simp at hok; exact hok.2
    have e1 : rdN m l = num (nx m l) := by unfold rdN nx; rw [if_pos hml, if_pos hml]
    rw [e1]
    have hnx : (nx m l).length ≤ 8 := by unfold nx; rw [if_pos hml, List.length_take]; omega
    have HOK := Lib.hid hok
    clear hok e1
    go_enter Try.func16, Try.ntmps16
    go_wp2_with fail
    refine (take_any q g l bad m w h hbad).mono ?_
    rintro e w1 ⟨v, rfl, hv, hr, ho⟩
    rw [HOK.out]
    go_wp2_with fail
    refine (value_any g v _ w1 (nx_lt m hb) hnx hv).mono ?_
    rintro e w2 ⟨rfl, rfl⟩
    go_wp2_with fail
    go_ret
    exact ⟨rfl, hr, ho⟩
  · have e1 : rdN m l = 0 := by
      unfold rdN
      split
      · rename_i hml
        cases bad with
        | true =>
          have := hbad rfl
          subst this
          simp at hml
          omega
        | false => simp [hml] at hok
      · rfl
    rw [e1]
    have hok : (!bad && decide (m ≤ l.length)) = false := by simpa using hok
    have HOK := Lib.hid hok
    clear hok e1
    go_enter Try.func16, Try.ntmps16
    go_wp2_with fail
    refine (take_any q g l bad m w h hbad).mono ?_
    rintro e w1 ⟨v, rfl, hv, hr, ho⟩
    rw [HOK.out]
    go_wp2_with fail
    go_ret
    exact ⟨rfl, hr, ho⟩

theorem reftext_any (q g : Nat) (l : List Nat) (bad : Bool) (w : World) (h : Rf w q g l bad) (hbad : bad = true → l = []) (hb : ∀ n ∈ l, n < 256) :
    Calls Try.prog 19 #[.pointer (some ⟨q, 0, none⟩)] w fun e w' => e = .returned (.string (str (txS l))) ∧ Rf w' q g (txL l) (txB l bad) ∧ Only q w w' := by
  have hn := rdN_lt 2 hb
  have hb2 := rdL_lt 2 hb
  have hbd := rdB_bad (m := 2) hbad
  have HBD := Lib.hid hbd
  clear hbd
  go_enter Try.func19, Try.ntmps19
  go_wp2_with fail
  refine (number_any q g l bad 2 w h hbad (by omega) (by omega) hb).mono ?_
  rintro e w1 ⟨rfl, hr, ho⟩
  go_wp2_with fail
  refine (take_any q g _ _ (rdN 2 l) w1 hr HBD.out).mono ?_
  rintro e w2 ⟨v, rfl, hv, hr2, ho2⟩
  have hcv := conv_rowE hv (nx_lt _ hb2)
  go_wp2_with fail
  go_ret
  exact ⟨rfl, hr2, ho.trans ho2⟩

theorem refleft_any (q g : Nat) (l : List Nat) (bad : Bool) (w : World) (h : Rf w q g l bad) :
    Calls Try.prog 21 #[.pointer (some ⟨q, 0, none⟩)] w fun e w' => e = .returned (.int .i64 (l.length : Int)) ∧ ∃ k, w' = w.drewN k := by
  obtain ⟨hne, hlt, a, n, c, at', B, hq, hn, hat, hn1, hnc, h1, h2, hB⟩ := h
  obtain ⟨c0, c1, c2, f0, f1, f2⟩ := cell_three hq
  clear hq hB
  have HN := Lib.hid hn
  clear hn
  cases bad with
  | true =>
    have hll := h1 rfl
    clear h1 h2
    subst hll
    go_enter Try.func21, Try.ntmps21
    go_wp2_with fail
    go_ret
    exact ⟨rfl, 0, rfl⟩
  | false =>
    have hll : (l.length : Int) = (n : Int) - (at' : Int) := by rw [h2 rfl, List.length_drop]; have := HN.out; omega
    have HL := Lib.hid hll
    clear h1 h2 hll
    have w1 : IntKind.i64.wrap ((n : Int) - (at' : Int)) = (n : Int) - (at' : Int) := IntWalk.i64_in _ (by omega)
    go_enter Try.func21, Try.ntmps21
    go_wp2_with fail
    go_quiet (fail)
    go_wp2_with fail
    go_ret
    exact ⟨ret_eq HL.out.symm, _, rfl⟩
end Go.Proofs.Ytppboldeocjbhab
