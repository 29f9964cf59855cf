/-
  THE LAW RunsLast FOR ANY ARGUMENTS.
-/
import Derived.Test.YtmhmoaokmfplpaaLastW
namespace Go.Proofs.Ytmhmoaokmfplpaa.Rn
open Go.RowKit Go.Maps Go.ChangeShapes Go.WideShapes Go.Deep
open Go.Proofs.Ytmhmoaokmfplpaa.Cr

set_option maxRecDepth 100000

theorem runs_max {H : Type} {enc : TypeId × Value → H} {w : World} {base : Nat} {spare : Nat → Bool} {held : Bool} {v : Value} {d : DataW H} {p : List MemPlace} {r : Reach} {b0 : Nat} {L : List Run} (hv : Value.okWide Try.prog w r b0 45 v) (h : DataW.Trod enc Try.prog w base spare held 45 v d p) (hr : RunRow w v L) :
    L.length ≤ 9223372036854775807 := by
  obtain ⟨a, c, rfl, _, hle, _⟩ := hr
  obtain ⟨m, hm⟩ := h
  have hm : DataW.trod enc Try.prog w base spare held m 45 [.slice a L.length c] = some (d, p) := hm
  rcases open_slice Try.underlying45 hm with ⟨e, _⟩ | ⟨a2, len, cap, mm, n, D, Pl, e, _, hlc, hcm, hmm, _, hel⟩
  · simp only [List.cons.injEq, and_true, Value.slice.injEq] at e
    omega
  · simp only [List.cons.injEq, and_true, Value.slice.injEq] at e
    have : cap ≤ 9223372036854775807 := hcm
    omega

set_option maxRecDepth 100000 in
set_option maxHeartbeats 2000000 in
theorem last_any {w : World} {v : Value} {L : List Run} {r : Run} {vi vf : Value} (h : RunRow w v L) (hL : L.length ≤ 9223372036854775807) (hi : InRow w vi r.ins) (hf : FdRow w vf r.found) :
    Calls Try.prog 9 #[v, .agg (runC r vi vf)] w fun e w' => e = .returned (.bool true) ∧ Below w.heap.size w w' := by
  cases hall : allB L with
  | true =>
    cases hsm : lightB r with
    | true => exact last_main h hi hf hall hsm
    | false =>
      obtain ⟨W0, hW0⟩ : ∃ W, w.alloc (.cells (runC r vi vf) 25) = W := ⟨_, rfl⟩
      have hB0 : Below w.heap.size w W0 := by rw [← hW0]; exact Pk.below_alloc _ _
      have hx : W0.heap[w.heap.size]? = some (.cells (runC r vi vf) 25 (0, 0)) := by rw [← hW0]; exact heap_alloc_new _ _
      have cA := all_c (h.below hB0) hL
      rw [hall] at cA
      have HB := Lib.hid hB0
      have HX := Lib.hid hx
      have HI := Lib.hid hi
      have HF := Lib.hid hf
      have HSM := Lib.hid hsm
      obtain ⟨a, c, rfl, -, -, -⟩ := h.at
      unfold runC at hW0 ⊢
      clear hi hf hB0 hx hsm hall h
      go_enter Try.func9, Try.ntmps9
      go_wp2_with fail
      refine cA.mono ?_
      rintro e w1 ⟨rfl, hb1⟩
      have hB1 := HB.out.trans (hb1.mono HB.out.size)
      have cL := light_c (HI.out.below hB1) (HF.out.below hB1)
      rw [HSM.out] at cL
      unfold runC at cL
      obtain ⟨⟨d0, d1, d2, d3, d4, d5⟩, -⟩ := six_cells ((hb1.block _ (lt_some HX.out)).trans HX.out)
      have HB1 := Lib.hid hB1
      clear cA hb1 hB1 hW0
      go_wp2_with fail
      refine cL.mono ?_
      rintro e w2 ⟨rfl, hb2⟩
      have HB2 := Lib.hid (HB1.out.trans (hb2.mono HB1.out.size))
      clear cL hb2
      go_wp2_with fail
      go_ret
      exact ⟨rfl, HB2.out⟩
  | false =>
    obtain ⟨W0, hW0⟩ : ∃ W, w.alloc (.cells (runC r vi vf) 25) = W := ⟨_, rfl⟩
    have hB0 : Below w.heap.size w W0 := by rw [← hW0]; exact Pk.below_alloc _ _
    have cA := all_c (h.below hB0) hL
    rw [hall] at cA
    have HB := Lib.hid hB0
    obtain ⟨a, c, rfl, -, -, -⟩ := h.at
    unfold runC at hW0 ⊢
    clear hi hf hB0 hall h
    go_enter Try.func9, Try.ntmps9
    go_wp2_with fail
    refine cA.mono ?_
    rintro e w1 ⟨rfl, hb1⟩
    have HB1 := Lib.hid (HB.out.trans (hb1.mono HB.out.size))
    clear cA hb1
    go_wp2_with fail
    go_ret
    exact ⟨rfl, HB1.out⟩
end Go.Proofs.Ytmhmoaokmfplpaa.Rn
