/-
  THE LAW RunsFolds, FOR ANY ARGUMENTS.
-/
import Derived.Test.YtdijpoemimebmaaFoldsW
import Derived.Test.YtdijpoemimebmaaRnMax
namespace Go.Proofs.Ytdijpoemimebmaa.Rn
open Go.RowKit
open Go.Proofs.Ytdijpoemimebmaa.Cr

set_option maxRecDepth 100000 in
set_option maxHeartbeats 4000000 in
theorem folds_any {w : World} {v : Value} {L : List Run} {p q : Run} {vi vf vj vg : Value} (h : RunRow w v L) (hL : L.length ≤ 9223372036854775807) (hi : InRow w vi p.ins) (hf : FdRow w vf p.found) (hj : InRow w vj q.ins) (hg : FdRow w vg q.found) :
    Calls Try.prog 5 #[v, .agg (runC p vi vf), .agg (runC q vj vg)] w fun e w' => e = .returned (.bool true) ∧ Below w.heap.size w w' := by
  cases hall : allB L with
  | true =>
    cases hp : lightB p with
    | true =>
      cases hq : lightB q with
      | true => exact folds_main h hi hf hj hg hall hp hq
      | false =>
        obtain ⟨W0, hW0⟩ : ∃ W, (w.alloc (.cells (runC p vi vf) 25)).alloc (.cells (runC q vj vg) 25) = W := ⟨_, rfl⟩
        have z1 : (w.alloc (.cells (runC p vi vf) 25)).heap.size = w.heap.size + 1 := Array.size_push _
        have hB0 : Below w.heap.size w W0 := by rw [← hW0]; exact ((Below.refl _ _).alloc (Nat.le_refl _) _).alloc (by simp) _
        have hx1 : W0.heap[w.heap.size]? = some (.cells (runC p vi vf) 25 (0, 0)) := by rw [← hW0, Below.heap_alloc _ _ _ (by rw [z1]; omega)]; exact heap_alloc_new _ _
        have hx2 : W0.heap[w.heap.size + 1]? = some (.cells (runC q vj vg) 25 (0, 0)) := by rw [← hW0, ← z1]; exact heap_alloc_new _ _
        have cA := all_c (h.below hB0) hL
        rw [hall] at cA
        have HB0 := Lib.hid hB0
        have X1 := Lib.hid hx1
        have X2 := Lib.hid hx2
        have HI := Lib.hid (hi.below hB0)
        have HF := Lib.hid (hf.below hB0)
        have HJ := Lib.hid (hj.below hB0)
        have HG := Lib.hid (hg.below hB0)
        have HP := Lib.hid hp
        have HQ := Lib.hid hq
        obtain ⟨a, c, rfl, -, -, -⟩ := h.at
        unfold runC at hW0 ⊢
        clear hi hf hj hg hB0 hx1 hx2 hall h z1 hp hq
        go_enter Try.func5, Try.ntmps5
        go_wp2_with fail
        refine cA.mono ?_
        rintro e w1 ⟨rfl, hb1⟩
        have B1 := Lib.hid hb1
        clear cA hb1 hW0
        have cP := light_c (HI.out.below B1.out) (HF.out.below B1.out)
        rw [HP.out] at cP
        unfold runC at cP
        obtain ⟨⟨d0, d1, d2, d3, d4, d5⟩, -⟩ := six_cells ((B1.out.block _ (lt_some X1.out)).trans X1.out)
        go_wp2_with fail
        refine cP.mono ?_
        rintro e w2 ⟨rfl, hb2⟩
        have B2 := Lib.hid (B1.out.trans (hb2.mono B1.out.size))
        clear cP hb2 d0 d1 d2 d3 d4 d5
        have cQ := light_c (HJ.out.below B2.out) (HG.out.below B2.out)
        rw [HQ.out] at cQ
        unfold runC at cQ
        obtain ⟨⟨d0, d1, d2, d3, d4, d5⟩, -⟩ := six_cells ((B2.out.block _ (lt_some X2.out)).trans X2.out)
        go_wp2_with fail
        refine cQ.mono ?_
        rintro e w3 ⟨rfl, hb3⟩
        have B3 := Lib.hid (B2.out.trans (hb3.mono B2.out.size))
        clear cQ hb3 d0 d1 d2 d3 d4 d5
        go_wp2_with fail
        go_ret
        exact ⟨rfl, HB0.out.trans (B3.out.mono HB0.out.size)⟩
    | false =>
      obtain ⟨W0, hW0⟩ : ∃ W, (w.alloc (.cells (runC p vi vf) 25)).alloc (.cells (runC q vj vg) 25) = W := ⟨_, rfl⟩
      have z1 : (w.alloc (.cells (runC p vi vf) 25)).heap.size = w.heap.size + 1 := Array.size_push _
      have hB0 : Below w.heap.size w W0 := by rw [← hW0]; exact ((Below.refl _ _).alloc (Nat.le_refl _) _).alloc (by simp) _
      have hx1 : W0.heap[w.heap.size]? = some (.cells (runC p vi vf) 25 (0, 0)) := by rw [← hW0, Below.heap_alloc _ _ _ (by rw [z1]; omega)]; exact heap_alloc_new _ _
      have hx2 : W0.heap[w.heap.size + 1]? = some (.cells (runC q vj vg) 25 (0, 0)) := by rw [← hW0, ← z1]; exact heap_alloc_new _ _
      have cA := all_c (h.below hB0) hL
      rw [hall] at cA
      have HB0 := Lib.hid hB0
      have X1 := Lib.hid hx1
      have X2 := Lib.hid hx2
      have HI := Lib.hid (hi.below hB0)
      have HF := Lib.hid (hf.below hB0)
      have HJ := Lib.hid (hj.below hB0)
      have HG := Lib.hid (hg.below hB0)
      have HP := Lib.hid hp
      obtain ⟨a, c, rfl, -, -, -⟩ := h.at
      unfold runC at hW0 ⊢
      clear hi hf hj hg hB0 hx1 hx2 hall h z1 hp
      go_enter Try.func5, Try.ntmps5
      go_wp2_with fail
      refine cA.mono ?_
      rintro e w1 ⟨rfl, hb1⟩
      have B1 := Lib.hid hb1
      clear cA hb1 hW0
      have cP := light_c (HI.out.below B1.out) (HF.out.below B1.out)
      rw [HP.out] at cP
      unfold runC at cP
      obtain ⟨⟨d0, d1, d2, d3, d4, d5⟩, -⟩ := six_cells ((B1.out.block _ (lt_some X1.out)).trans X1.out)
      go_wp2_with fail
      refine cP.mono ?_
      rintro e w2 ⟨rfl, hb2⟩
      have B2 := Lib.hid (B1.out.trans (hb2.mono B1.out.size))
      clear cP hb2 d0 d1 d2 d3 d4 d5
      go_wp2_with fail
      go_ret
      exact ⟨rfl, HB0.out.trans (B2.out.mono HB0.out.size)⟩
  | false =>
    obtain ⟨W0, hW0⟩ : ∃ W, (w.alloc (.cells (runC p vi vf) 25)).alloc (.cells (runC q vj vg) 25) = W := ⟨_, rfl⟩
    have z1 : (w.alloc (.cells (runC p vi vf) 25)).heap.size = w.heap.size + 1 := Array.size_push _
    have hB0 : Below w.heap.size w W0 := by rw [← hW0]; exact ((Below.refl _ _).alloc (Nat.le_refl _) _).alloc (by simp) _
    have hx1 : W0.heap[w.heap.size]? = some (.cells (runC p vi vf) 25 (0, 0)) := by rw [← hW0, Below.heap_alloc _ _ _ (by rw [z1]; omega)]; exact heap_alloc_new _ _
    have hx2 : W0.heap[w.heap.size + 1]? = some (.cells (runC q vj vg) 25 (0, 0)) := by rw [← hW0, ← z1]; exact heap_alloc_new _ _
    have cA := all_c (h.below hB0) hL
    rw [hall] at cA
    have HB0 := Lib.hid hB0
    have X1 := Lib.hid hx1
    have X2 := Lib.hid hx2
    have HI := Lib.hid (hi.below hB0)
    have HF := Lib.hid (hf.below hB0)
    have HJ := Lib.hid (hj.below hB0)
    have HG := Lib.hid (hg.below hB0)
    obtain ⟨a, c, rfl, -, -, -⟩ := h.at
    unfold runC at hW0 ⊢
    clear hi hf hj hg hB0 hx1 hx2 hall h z1
    go_enter Try.func5, Try.ntmps5
    go_wp2_with fail
    refine cA.mono ?_
    rintro e w1 ⟨rfl, hb1⟩
    have B1 := Lib.hid hb1
    clear cA hb1 hW0
    go_wp2_with fail
    go_ret
    exact ⟨rfl, HB0.out.trans (B1.out.mono HB0.out.size)⟩
end Go.Proofs.Ytdijpoemimebmaa.Rn
