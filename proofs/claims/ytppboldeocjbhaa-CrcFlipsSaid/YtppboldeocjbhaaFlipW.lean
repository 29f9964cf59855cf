/-
  THE LAW CrcFlips, WALKED.
-/
import Derived.Test.YtppboldeocjbhaaApp
import Derived.Deep.QuietTactic
import Derived.BigQuiet
import Derived.Deep.RegionHeld3
import Derived.StillTailTactics
namespace Go.Proofs.Ytppboldeocjbhaa
open Go.RowKit

theorem flip_else (a : Option Addr) (n cap at' B : Nat) (w : World) (h : ¬ (¬ 3000 < n ∧ 0 < n ∧ 0 < B)) :
    Calls Try.prog 5 #[.slice a n cap, .int .u16 (at' : Int), .int .u32 (B : Int)] w fun e w' => e = .returned (.bool true) ∧ Below w.heap.size w w' := by
  have H := Lib.hid h
  clear h
  by_cases h1 : 3000 < n
  · go_enter Try.func5, Try.ntmps5
    go_wp2_with fail
    go_ret
    exact ⟨rfl, Below.refl _ _⟩
  by_cases h2 : n = 0
  · subst h2
    go_enter Try.func5, Try.ntmps5
    go_wp2_with fail
    go_ret
    exact ⟨rfl, Below.refl _ _⟩
  have h3 : B = 0 := by have := H.out; omega
  subst h3
  clear H
  have h2' : ((n : Int) == 0) = false := by rw [beq_eq_false_iff_ne]; omega
  go_enter Try.func5, Try.ntmps5
  go_wp2_with fail
  go_ret
  exact ⟨rfl, Below.refl _ _⟩

theorem bit_form (B k : Nat) (hB : B < 4294967296) : bits BinOp.and IntKind.u32 ((B : Int) / 2 ^ k) 1 = ((B / 2 ^ k % 2 : Nat) : Int) := by
  have h0 : B / 2 ^ k ≤ B := Nat.div_le_self _ _
  have h1 : ((B : Int) / 2 ^ k) = ((B / 2 ^ k : Nat) : Int) := by push_cast; rfl
  rw [h1, and1 _ (by omega)]

theorem bit_yes {B k : Nat} (h : (bits BinOp.and IntKind.u32 ((B : Int) / 2 ^ k) 1 == 1) = true) (hB : B < 4294967296) : B / 2 ^ k % 2 = 1 := by
  rw [bit_form B k hB, beq_iff_eq] at h
  omega

theorem bit_no {B k : Nat} (h : (bits BinOp.and IntKind.u32 ((B : Int) / 2 ^ k) 1 == 1) = false) (hB : B < 4294967296) : B / 2 ^ k % 2 = 0 := by
  rw [bit_form B k hB, beq_eq_false_iff_ne] at h
  omega

theorem flip_byte (x r : Nat) (hx : x < 256) (hr : r < 8) : bits BinOp.xor IntKind.u8 (x : Int) (2 ^ r % 256) = ((x ^^^ 2 ^ r : Nat) : Int) := by
  have h : 2 ^ r < 256 := Nat.lt_of_lt_of_le (Nat.pow_lt_pow_right (by omega) hr) (by decide)
  have e : (2 : Int) ^ r % 256 = ((2 ^ r : Nat) : Int) := by
    have : ((2 ^ r : Nat) : Int) = (2 : Int) ^ r := by push_cast; rfl
    rw [← this]
    generalize 2 ^ r = q at *
    omega
  rw [e, u8_xor_nat x _ hx h]

theorem bytesV_set (l : List Nat) (i x : Nat) : bytesV (l.set i x) = (bytesV l).set i (.int .u8 (x : Int)) := by
  unfold bytesV
  rw [List.map_set]

/-- the law's two sums differ just if something was turned (behind a name, so that the walk does not take it for a rule) -/
structure Flips (T l : List Nat) (tv : Bool) : Prop where
  iff : Crc.sum T = Crc.sum l ↔ tv = false

set_option maxHeartbeats 400000 in
theorem flip_main (a : Option Addr) (n cap at' B : Nat) (l : List Nat) (w : World) (hl : ∀ n ∈ l, n < 256) (hat : at' < 65536) (hB : B < 4294967296)
    (hn : Hid (n = l.length)) (hnil : Hid (a = none → cap = 0)) (hrow : Row w a l) (h1 : n ≤ 3000) (h2 : 0 < n) (h3 : 0 < B) :
    Calls Try.prog 5 #[.slice a n cap, .int .u16 (at' : Int), .int .u32 (B : Int)] w fun e w' => e = .returned (.bool true) ∧ Below w.heap.size w w' := by
  have t2 : ((n : Int) == 0) = false := by rw [beq_eq_false_iff_ne]; omega
  have t3 : ((B : Int) == 0) = false := by rw [beq_eq_false_iff_ne]; omega
  go_enter Try.func5, Try.ntmps5
  go_wp2_with (at_builtin; refine wpList_append_bytes rfl (.tmp 24) (.tmp 25) rfl w.heap.size (.slice (some ⟨w.heap.size, 0, none⟩) 0 0) 0 [] rfl (owns_made w _ (Nat.le_refl _)) a n cap l rfl hn.out hnil.out (hrow.below (below_alloc _ _)) l rfl (by omega) (by simp) ?_; intro a1 n1 c1 w1 hown1 Hn1 hle1 _ _ hb1; have hb1 := (below_alloc w _).trans hb1)
  obtain rfl : n1 = n := by have e1 := hn.out; have e2 := Hn1.out; omega
  obtain ⟨g, rfl⟩ : ∃ g, a1 = some ⟨g, 0, none⟩ := by
    rcases hown1.2 with ⟨e, e0⟩ | ⟨g, cap', cur, e, _⟩
    · omega
    · simp only [Value.slice.injEq] at e
      exact ⟨g, e.1⟩
  rw [show ((at' : Int) % (8 * (n1 : Int))) = ((at' % (8 * n1) : Nat) : Int) from by push_cast; rfl]
  have hp : at' % (8 * n1) < 8 * n1 := Nat.mod_lt _ (by omega)
  generalize at' % (8 * n1) = p at *
  clear hle1
  go_loopw [9, 10] (fun tv i wr => ∃ k : Nat, k ≤ 32 ∧ p + k ≤ 8 * n1 ∧ i = .int .i64 k ∧ tv = .bool (Crc.any B k) ∧ wr.ownsRow w.heap.size 5 1 (.slice (some ⟨g, 0, none⟩) n1 c1) n1 (bytesV (Crc.turns l p B k)) ∧ Below w.heap.size w wr) (fun _ i _ => 32 - (intOf i).toNat)
  case atStart => exact ⟨0, by omega, by omega, rfl, rfl, hown1, hb1⟩
  case round =>
    obtain ⟨k, hk, hpk, rfl, rfl, hown, hnx⟩ := hrel
    by_cases hlt : k < 32 ∧ p + k < 8 * n1
    · obtain ⟨g1, g2⟩ := hlt
      have hbyt := Crc.turns_bytes hl p B k
      have hlen : (Crc.turns l p B k).length = n1 := by rw [Crc.turns_length]; exact Hn1.out.symm
      have hx : (Crc.turns l p B k).getD ((p + k) / 8) 0 < 256 := Crc.getD_lt hbyt _
      have hcell : wr.cell? ⟨g, (p + k) / 8, none⟩ = some (.int .u8 (((Crc.turns l p B k).getD ((p + k) / 8) 0 : Nat) : Int)) := by
        rw [hown.cellAt _ (by omega)]
        simp [bytesV, show (p + k) / 8 < (Crc.turns l p B k).length by omega]
      have hfrz : wr.frozen? ⟨g, (p + k) / 8, none⟩ = false := hown.frozenAt _
      have hsucc : Crc.turns l p B (k + 1) = if B / 2 ^ k % 2 = 1 then Crc.turn (Crc.turns l p B k) (p + k) else Crc.turns l p B k := rfl
      have hany : Crc.any B (k + 1) = (Crc.any B k || decide (B / 2 ^ k % 2 = 1)) := rfl
      have hdef : Crc.turn (Crc.turns l p B k) (p + k) = (Crc.turns l p B k).set ((p + k) / 8) ((Crc.turns l p B k).getD ((p + k) / 8) 0 ^^^ 2 ^ ((p + k) % 8)) := rfl
      generalize Crc.turns l p B k = T at *
      generalize T.getD ((p + k) / 8) 0 = x at *
      have HS := Lib.hid hsucc
      have HA := Lib.hid hany
      have HD := Lib.hid hdef
      have HL := Lib.hid hlen
      clear hsucc hany hdef hlen
      go_wp2_with fail
      · have ht : (bits BinOp.and IntKind.u32 ((B : Int) / 2 ^ k) 1 == 1) = true := by assumption
        have q0 : (0 : Int) ≤ (p : Int) + (k : Int) := by omega
        have q1 : (0 : Int) ≤ ((p : Int) + (k : Int)) / 8 := by omega
        have q2 : ((p : Int) + (k : Int)) / 8 < (n1 : Int) := by omega
        have q3 : (((p : Int) + (k : Int)) / 8).toNat = (p + k) / 8 := by omega
        have w1' : IntKind.i64.wrap (((p : Int) + (k : Int)).tdiv 8) = (((p + k) / 8 : Nat) : Int) := by
          rw [Int.tdiv_eq_ediv_of_nonneg (by omega), IntKind.wrap_i64]
          omega
        have w2' : ((p : Int) + (k : Int)).tmod 8 = (((p + k) % 8 : Nat) : Int) := by
          rw [Int.tmod_eq_emod_of_nonneg (by omega)]
          omega
        have q5 : (p + k) / 8 < n1 := by omega
        have q6 : (((p + k) / 8 : Nat) : Int) < (n1 : Int) := by omega
        have q7 : (0 : Int) ≤ (((p + k) / 8 : Nat) : Int) := by omega
        have q8 : (p + k) % 8 < 8 := by omega
        have q9 : (0 : Int) ≤ (((p + k) % 8 : Nat) : Int) := by omega
        generalize (p + k) / 8 = qq at *
        generalize (p + k) % 8 = rr at *
        go_still_tail 13, (by kernel_rfl)
        change wpList _ _ _ _ _ wr.drew
        go_wp2_with fail
        have hb := bit_yes ht hB
        have hg := (hown.lt g rfl).1
        go_roundw
        case rel => exact ⟨k + 1, by omega, by omega, by go_num, by rw [HA.out]; simp [hb], by rw [HS.out, if_pos hb, HD.out, bytesV_set, ← flip_byte x rr hx q8]; exact (hown.stored qq _).1.drew, (hnx.setCell hg _).drew⟩
        case measure => simp [intOf]; omega
      · have ht : (bits BinOp.and IntKind.u32 ((B : Int) / 2 ^ k) 1 == 1) = false := by assumption
        have hb := bit_no ht hB
        go_roundw
        case rel => exact ⟨k + 1, by omega, by omega, by go_num, by rw [HA.out]; simp [hb], by rw [HS.out, if_neg (by omega)]; exact hown, hnx⟩
        case measure => simp [intOf]; omega
    · have hlen : (Crc.turns l p B k).length = n1 := by rw [Crc.turns_length]; exact Hn1.out.symm
      have hfl := Crc.flips l hl p B k (by have := Hn1.out; omega) hk
      have hbyt := Crc.turns_bytes hl p B k
      generalize Crc.turns l p B k = T at *
      generalize Crc.any B k = tv at *
      obtain ⟨a2, c2, e, hn2, hr2, _⟩ := row_owned hown
      simp only [Value.slice.injEq, true_and] at e
      obtain ⟨rfl, rfl⟩ := e
      have Hn2 := Lib.hid hn2
      have hTl : T.length ≤ 3000 := by omega
      have hll : l.length ≤ 3000 := by have := Hn1.out; omega
      clear hn2 hlen hown
      have HF := Lib.hid hfl
      clear hfl
      have hcase : k = 32 ∨ (k < 32 ∧ p + k = 8 * n1) := by omega
      have hend : Flips T l tv := ⟨HF.out⟩
      clear HF
      rcases hcase with hk32 | ⟨g1, g2⟩
      · have K0 : ¬ ((k : Int) < 32) := by omega
        clear hk32 hlt
        go_wp2_with fail
        refine (sum_any (some ⟨g, 0, none⟩) n1 c1 T _ hbyt (by omega) Hn2.out hr2).mono ?_
        rintro e w2 ⟨rfl, hb2⟩
        have hx2 := hnx.trans (hb2.mono hnx.size)
        go_wp2_with fail
        refine (sum_any a n1 cap l _ hl (by omega) Hn1.out (hrow.below hx2)).mono ?_
        rintro e w3 ⟨rfl, hb3⟩
        have hx3 := hx2.trans (hb3.mono hx2.size)
        cases tv with
        | true =>
          have hne : (((Crc.sum T : Nat) : Int) != ((Crc.sum l : Nat) : Int)) = true := by
            rw [bne_iff_ne]
            intro e
            have := hend.iff.1 (by omega)
            simp at this
          go_wp2_with fail
          refine (awake_any _).mono ?_
          rintro e w4 ⟨rfl, hb4⟩
          have hx4 := hx3.trans (hb4.mono hx3.size)
          go_wp2_with fail
          go_ret
          exact ⟨rfl, hx4⟩
        | false =>
          rw [hend.iff.2 rfl]
          go_wp2_with fail
          refine (awake_any _).mono ?_
          rintro e w4 ⟨rfl, hb4⟩
          have hx4 := hx3.trans (hb4.mono hx3.size)
          go_wp2_with fail
          go_ret
          exact ⟨rfl, hx4⟩
      · have K0 : (k : Int) < 32 := by omega
        have K1 : ¬ ((p : Int) + (k : Int) < 8 * (n1 : Int)) := by omega
        clear g1 g2 hlt
        go_wp2_with fail
        refine (sum_any (some ⟨g, 0, none⟩) n1 c1 T _ hbyt (by omega) Hn2.out hr2).mono ?_
        rintro e w2 ⟨rfl, hb2⟩
        have hx2 := hnx.trans (hb2.mono hnx.size)
        go_wp2_with fail
        refine (sum_any a n1 cap l _ hl (by omega) Hn1.out (hrow.below hx2)).mono ?_
        rintro e w3 ⟨rfl, hb3⟩
        have hx3 := hx2.trans (hb3.mono hx2.size)
        cases tv with
        | true =>
          have hne : (((Crc.sum T : Nat) : Int) != ((Crc.sum l : Nat) : Int)) = true := by
            rw [bne_iff_ne]
            intro e
            have := hend.iff.1 (by omega)
            simp at this
          go_wp2_with fail
          refine (awake_any _).mono ?_
          rintro e w4 ⟨rfl, hb4⟩
          have hx4 := hx3.trans (hb4.mono hx3.size)
          go_wp2_with fail
          go_ret
          exact ⟨rfl, hx4⟩
        | false =>
          rw [hend.iff.2 rfl]
          go_wp2_with fail
          refine (awake_any _).mono ?_
          rintro e w4 ⟨rfl, hb4⟩
          have hx4 := hx3.trans (hb4.mono hx3.size)
          go_wp2_with fail
          go_ret
          exact ⟨rfl, hx4⟩

theorem lawflips_any (a : Option Addr) (n cap at' B : Nat) (l : List Nat) (w : World) (hl : ∀ n ∈ l, n < 256) (hat : at' < 65536) (hB : B < 4294967296)
    (hn : Hid (n = l.length)) (hnil : Hid (a = none → cap = 0)) (hrow : Row w a l) :
    Calls Try.prog 5 #[.slice a n cap, .int .u16 (at' : Int), .int .u32 (B : Int)] w fun e w' => e = .returned (.bool true) ∧ Below w.heap.size w w' := by
  by_cases h : ¬ 3000 < n ∧ 0 < n ∧ 0 < B
  · exact flip_main a n cap at' B l w hl hat hB hn hnil hrow (by omega) h.2.1 h.2.2
  · exact flip_else a n cap at' B w h
end Go.Proofs.Ytppboldeocjbhaa
