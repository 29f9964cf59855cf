/-
  The law LexLong, walked.
-/
import Derived.Test.YtbohnjiachnadaaDoorLdBlank
import Derived.Laws.MakeOwn
import Derived.Laws.IdiomStrings
import Derived.Deep.OwnRows
namespace Go.Proofs.YtbohnjiachnadaaDoor.Lx
open Go.RowKit

theorem infoB : (Tryd.prog.info? 5).map (fun i => (i.zero, i.size, i.bytes)) = some (some (.int .u8 0), 1, 1) := by kernel_rfl

theorem heap_set_same {w : World} {b : Nat} {c : Array Value} {e : TypeId} {fz : Nat × Nat} (h : w.heap[b]? = some (.cells c e fz)) (o : Nat) (u : Value) : (w.setCell ⟨b, o, none⟩ u).heap[b]? = some (.cells (c.setIfInBounds o u) e fz) := by
  simp only [World.setCell, Array.getElem?_modify, if_pos]
  rw [h]
  rfl

/-- a row of m bytes of the call's own, the first j of them blanks -/
def Fil (w W : World) (g m j : Nat) : Prop := ∃ cs : Array Value, W.heap[g]? = some (.cells cs 5 (0, 0)) ∧ cs.size = m ∧ (∀ i, i < j → cs[i]? = some (.int .u8 32)) ∧ Below w.heap.size w W ∧ w.heap.size ≤ g

theorem Fil.step {w W : World} {g m j : Nat} (h : Fil w W g m j) (hj : j < m) : Fil w (W.setCell ⟨g, j, none⟩ (.int .u8 32)) g m (j + 1) := by
  obtain ⟨cs, h1, h2, h3, h4, h5⟩ := h
  refine ⟨_, heap_set_same h1 j _, by simp [h2], fun i hi => ?_, h4.setCell h5 _, h5⟩
  by_cases he : i = j
  · subst he
    rw [Array.getElem?_setIfInBounds, if_pos rfl, if_pos (by omega)]
  · rw [Array.getElem?_setIfInBounds, if_neg (by omega)]
    exact h3 i (by omega)

theorem Fil.cell {w W : World} {g m j : Nat} (h : Fil w W g m j) {i : Nat} (hi : i < m) : ∃ v, W.cell? ⟨g, i, none⟩ = some v ∧ W.frozen? ⟨g, i, none⟩ = false := by
  obtain ⟨cs, h1, h2, _⟩ := h
  refine ⟨cs[i]'(by omega), ?_, ?_⟩
  · simp only [World.cell?, h1]
    simp [h2, hi]
  · simp [World.frozen?, h1]

theorem Fil.text {w W : World} {g m : Nat} (h : Fil w W g m m) : (convert 22 9 (.slice (some ⟨g, 0, none⟩) m m)).run Tryd.prog W = .ok (.string (mk (blanks m))) W := by
  obtain ⟨cs, h1, h2, h3, _⟩ := h
  have hc := run_convert_bytes_back (P := Tryd.prog) W 22 9 5 ⟨g, 0, none⟩ m (blanks m) Tryd.underlying22 Tryd.underlying5 Tryd.underlying9 (fun j hj => by
    rw [blanks_len] at hj
    rw [Go.WideShapes.add_plain]
    simp only [World.cell?, h1]
    simpa [blanks] using h3 j hj)
  rw [blanks_len] at hc
  exact hc

set_option maxRecDepth 100000 in
set_option maxHeartbeats 4000000 in
theorem lexLong_w (n : Nat) (hn : n < 256) (w : World) :
    Calls Tryd.prog 3 #[.int .u8 (n : Int)] w fun e w' => e = .returned (.bool true) ∧ Below w.heap.size w w' := by
  obtain ⟨m, hm⟩ : ∃ m : Nat, 16284 + n % 200 = m := ⟨_, rfl⟩
  have hm2 : (16284 : Int) + (n : Int) % 200 = (m : Int) := by omega
  have hm3 : 16284 ≤ m ∧ m ≤ 16500 := by omega
  clear hm
  obtain ⟨hm3, hm4⟩ := hm3
  have haw := awake_c
  have mkm := run_make_row' (P := Tryd.prog) 22 5 (.int .u8 0) 1 Tryd.underlying22 infoB rfl .i64 .i64 m (by omega) (by omega)
  have F0 : Fil w (w.alloc (.cells (madeCells #[.int .u8 0] m) 5)) w.heap.size m 0 :=
    ⟨_, heap_alloc_new w _, size_madeCells _ _, fun i hi => by omega, below_alloc _ _, Nat.le_refl _⟩
  have HF0 := Lib.hid F0
  clear F0
  go_enter Tryd.func3, Tryd.ntmps3
  go_wp2_with fail
  go_loopw [4] (fun i W' => ∃ j : Nat, i = .int .i64 j ∧ j ≤ m ∧ Hid (Fil w W' w.heap.size m j)) (fun i _ => m - (intOf i).toNat)
  case atStart => exact ⟨0, rfl, Nat.zero_le _, HF0⟩
  case round =>
    obtain ⟨j, rfl, hj, HF⟩ := hrel
    by_cases hlt : j < m
    · obtain ⟨v, hc, hfz⟩ := HF.out.cell hlt
      have HN := Lib.hid (HF.out.step hlt)
      go_wp2_with fail
      go_roundw
      case rel => exact ⟨j + 1, by go_num, by omega, HN⟩
      case measure => simp [intOf]; omega
    · obtain rfl : m = j := by omega
      have htx := HF.out.text
      obtain ⟨_, _, _, _, hbl, _⟩ := HF.out
      have HBL := Lib.hid hbl
      clear hbl
      by_cases h16 : 16384 < m
      · have hln := lines_long (blanks m) (by rw [blanks_len]; exact h16) (by rw [blanks_len]; omega) wr
        have h16i : (16384 : Int) < (m : Int) := by omega
        go_wp2_with fail
        refine hln.mono ?_
        rintro e w2 ⟨rfl, rfl⟩
        go_wp2_with fail
        refine (haw _).mono ?_
        rintro e w3 ⟨rfl, hb3⟩
        go_wp2_with fail
        go_ret
        have e1 : decide ((m : Int) ≤ 16384) = false := by simp; omega
        refine ⟨?_, below_step hb3 HBL.out⟩
        show Ending.returned (.bool (!decide ((m : Int) ≤ 16384))) = _
        rw [e1]
        rfl
      · have hln := lines_blank m (by omega) wr
        have h16i : ¬ (16384 : Int) < (m : Int) := by omega
        go_wp2_with fail
        refine hln.mono ?_
        rintro e w2 ⟨rfl, hb2⟩
        have HB2 := Lib.hid (below_step hb2 HBL.out)
        go_wp2_with fail
        refine (haw _).mono ?_
        rintro e w3 ⟨rfl, hb3⟩
        go_wp2_with fail
        go_ret
        have e1 : decide ((16384 : Int) < (m : Int)) = false := by simp; omega
        refine ⟨?_, below_step hb3 HB2.out⟩
        show Ending.returned (.bool (!decide ((16384 : Int) < (m : Int)))) = _
        rw [e1]
        rfl
end Go.Proofs.YtbohnjiachnadaaDoor.Lx
