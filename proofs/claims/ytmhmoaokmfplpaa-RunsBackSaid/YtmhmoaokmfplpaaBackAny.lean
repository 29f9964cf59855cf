/-
  THE LAW RunsBack FOR ANY ARGUMENTS.
-/
import Derived.Test.YtmhmoaokmfplpaaBackW
namespace Go.Proofs.Ytmhmoaokmfplpaa.Rn
open Go.RowKit
open Go.Proofs.Ytmhmoaokmfplpaa.Cr

set_option maxHeartbeats 2000000 in
theorem back_any {w : World} {r : Run} {vi vf : Value} {a : Option Addr} {n c : Nat} {l : List Nat} (hi : InRow w vi r.ins) (hf : FdRow w vf r.found) (h64 : R64 r) (hrow : Pk.Row w a l) (hn : Hid (n = l.length)) (hl : ∀ x ∈ l, x < 256) :
    Calls Try.prog 6 #[.agg (runC r vi vf), .slice a n c] w fun e w' => e = .returned (.bool true) ∧ Below w.heap.size w w' := by
  cases hsm : lightB r with
  | true =>
    by_cases hlen : n ≤ 5000
    · exact back_main hi hf h64 hsm hrow hn hl hlen
    · have hlen' : (5000 : Int) < (n : Int) := by omega
      obtain ⟨W0, hW0⟩ : ∃ W, w.alloc (.cells (runC r vi vf) 25) = W := ⟨_, rfl⟩
      have hB : Below w.heap.size w W0 := by rw [← hW0]; exact Pk.below_alloc _ _
      have cL := light_c (hi.below hB) (hf.below hB)
      have hx : W0.heap[w.heap.size]? = some (.cells (runC r vi vf) 25 (0, 0)) := by rw [← hW0]; exact heap_alloc_new _ _
      obtain ⟨⟨c0, c1, c2, c3, c4, c5⟩, -⟩ := six_cells hx
      have HB := Lib.hid hB
      rw [hsm] at cL
      unfold runC at hW0 cL ⊢
      clear hi hf hrow hB hx hsm
      go_enter Try.func6, Try.ntmps6
      go_wp2_with fail
      refine cL.mono ?_
      rintro e w1 ⟨rfl, hb1⟩
      have HB1 := Lib.hid (HB.out.trans (hb1.mono HB.out.size))
      clear cL hb1
      go_wp2_with fail
      go_ret
      exact ⟨rfl, HB1.out⟩
  | false =>
    obtain ⟨W0, hW0⟩ : ∃ W, w.alloc (.cells (runC r vi vf) 25) = W := ⟨_, rfl⟩
    have hB : Below w.heap.size w W0 := by rw [← hW0]; exact Pk.below_alloc _ _
    have cL := light_c (hi.below hB) (hf.below hB)
    have hx : W0.heap[w.heap.size]? = some (.cells (runC r vi vf) 25 (0, 0)) := by rw [← hW0]; exact heap_alloc_new _ _
    obtain ⟨⟨c0, c1, c2, c3, c4, c5⟩, -⟩ := six_cells hx
    have HB := Lib.hid hB
    rw [hsm] at cL
    unfold runC at hW0 cL ⊢
    clear hi hf hrow hB hx hsm
    go_enter Try.func6, Try.ntmps6
    go_wp2_with fail
    refine cL.mono ?_
    rintro e w1 ⟨rfl, hb1⟩
    have HB1 := Lib.hid (HB.out.trans (hb1.mono HB.out.size))
    clear cL hb1
    go_wp2_with fail
    go_ret
    exact ⟨rfl, HB1.out⟩
end Go.Proofs.Ytmhmoaokmfplpaa.Rn
