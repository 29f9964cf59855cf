/-
  THE LAW RunsWrites, WALKED.
-/
import Derived.Test.YtmhmoaokmfplpaaRefWr
import Derived.Test.YtmhmoaokmfplpaaRnOf
import Derived.Test.YtmhmoaokmfplpaaRnAwake
namespace Go.Proofs.Ytmhmoaokmfplpaa.Rn
open Go.RowKit
open Go.Proofs.Ytmhmoaokmfplpaa.Cr

theorem wrB_lt (r : Run) : ∀ n ∈ wrB r, n < 256 := by
  intro n hn
  unfold wrB at hn
  split at hn
  · exact recB_lt r n hn
  · simp at hn

set_option maxRecDepth 100000 in
set_option maxHeartbeats 4000000 in
theorem writes_any {w : World} {r : Run} {vi vf : Value} (hi : InRow w vi r.ins) (hf : FdRow w vf r.found) (h64 : R64 r) :
    Calls Try.prog 3 #[.agg (runC r vi vf)] w fun e w' => e = .returned (.bool true) ∧ Below w.heap.size w w' := by
  obtain ⟨W0, hW0⟩ : ∃ W, w.alloc (.cells (runC r vi vf) 25) = W := ⟨_, rfl⟩
  have z1 : W0.heap.size = w.heap.size + 1 := by rw [← hW0]; exact Array.size_push _
  have x0 : WB w W0 r vi vf := by
    have hB : Below w.heap.size w W0 := by rw [← hW0]; exact Pk.below_alloc _ _
    exact ⟨by rw [← hW0]; exact heap_alloc_new _ _, hB, by omega⟩
  obtain ⟨⟨c0, c1, c2, c3, c4, c5⟩, -⟩ := six_cells x0.box
  have cL := light_c (hi.below x0.bel) (hf.below x0.bel)
  have S0 := Lib.hid x0
  have HI := Lib.hid hi
  have HF := Lib.hid hf
  have H64 := Lib.hid h64
  cases hsm : lightB r with
  | false =>
    rw [hsm] at cL
    unfold runC at hW0 cL ⊢
    clear hi hf h64 x0 hsm z1
    go_enter Try.func3, Try.ntmps3
    go_wp2_with fail
    refine cL.mono ?_
    rintro e w1 ⟨rfl, hb1⟩
    have S1 := Lib.hid (S0.out.next (hb1.mono S0.out.siz))
    clear cL hb1
    go_wp2_with fail
    go_ret
    exact ⟨rfl, S1.out.bel⟩
  | true =>
    have SM := Lib.hid hsm
    obtain ⟨-, -, l3, l4, -⟩ := light_parts hsm
    rw [hsm] at cL
    unfold runC at hW0 cL ⊢
    clear hi hf h64 x0 hsm z1
    go_enter Try.func3, Try.ntmps3
    go_wp2_with fail
    refine cL.mono ?_
    rintro e w1 ⟨rfl, hb1⟩
    have S1 := Lib.hid (S0.out.next (hb1.mono S0.out.siz))
    have hof := Oq.of_c (r := r) (HI.out.below S1.out.bel) (HF.out.below S1.out.bel) (by omega) (by omega)
    unfold runC at hof
    clear cL hb1 c0 c1 c2 c3 c4 c5 hW0 S0
    obtain ⟨⟨c0, c1, c2, c3, c4, c5⟩, -⟩ := six_cells S1.out.box
    go_wp2_with fail
    refine hof.mono ?_
    rintro e w2 ⟨ui, uf, rfl, hi2, hf2, hb2⟩
    have S2 := Lib.hid (S1.out.next (hb2.mono S1.out.siz))
    have hwr := write_c (r := r) hi2 hf2 (by omega) (by omega) (light_size SM.out) (parts_lt (fit_of SM.out H64.out))
    unfold runC at hwr
    clear hof hb2 hi2 hf2 c0 c1 c2 c3 c4 c5 S1
    go_wp2_with fail
    refine hwr.mono ?_
    rintro e w3 ⟨a3, n3, k3, rfl, hown3, hb3⟩
    have S3 := Lib.hid (S2.out.next (hb3.mono S2.out.siz))
    have hrw := refWrite_c (r := r) (HI.out.below S3.out.bel) (HF.out.below S3.out.bel) H64.out SM.out
    unfold runC at hrw
    obtain ⟨⟨c0, c1, c2, c3, c4, c5⟩, -⟩ := six_cells S3.out.box
    have O3 := Lib.hid hown3
    clear hwr hb3 S2 hown3
    go_wp2_with fail
    refine hrw.mono ?_
    rintro e w4 ⟨a4, n4, k4, rfl, hown4, hb4⟩
    have S4 := Lib.hid (S3.out.next (hb4.mono S3.out.siz))
    obtain ⟨hn3, hr3, -⟩ := Pk.owned_row (owns_below O3.out hb4)
    obtain ⟨hn4, hr4, -⟩ := Pk.owned_row hown4
    have v1 := Pk.conv_row hn3.out hr3 (wrB_lt r) k3
    have v2 := Pk.conv_row hn4.out hr4 (wrB_lt r) k4
    have haw := awake_c w4
    clear hrw hown4 hb4 O3 S3 hn3 hr3 hn4 hr4 c0 c1 c2 c3 c4 c5
    generalize wrB r = B at *
    generalize wrE r = E at *
    go_wp2_with fail
    refine haw.mono ?_
    rintro e w10 ⟨rfl, hb10⟩
    have S5 := Lib.hid (S4.out.next (hb10.mono S4.out.siz))
    clear haw hb10
    go_wp2_with fail
    go_ret
    exact ⟨rfl, S5.out.bel⟩
end Go.Proofs.Ytmhmoaokmfplpaa.Rn
