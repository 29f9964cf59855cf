/-
  The law PathCleans, walked.
-/
import Derived.Test.YteakcmnjmcbkhaaAwake
namespace Go.Proofs.Yteakcmnjmcbkhaa
open Go.RowKit

set_option maxHeartbeats 1000000 in
theorem cleans_w (S : ByteArray) (hS : S.size ≤ 9223372036854775807) (w : World) :
    Calls Try.prog 3 #[.string S] w fun e w' => e = .returned (.bool true) ∧ Below w.heap.size w w' := by
  obtain ⟨s, rfl⟩ : ∃ s, S = mk s := ⟨S.data.toList, (mk_of S).symm⟩
  have hz := mk_size s
  by_cases hl : 1100 < s.length
  · have hl' : 1100 < ((mk s).size : Int) := by omega
    go_enter Try.func3, Try.ntmps3
    go_wp2
    go_ret
    exact ⟨rfl, Below.refl _ _⟩
  have hl' : ¬ 1100 < ((mk s).size : Int) := by omega
  have hs : s.length ≤ 9223372036854775807 := by omega
  have hc1 := fun w1 => clean_c s hs w1
  have hc2 := fun w1 => refClean_c s hs w1
  have hc3 := fun w1 => right_c s hs w1
  have hc4 := fun w1 => refRight_c s hs w1
  obtain ⟨⟨c, e⟩, hC⟩ : ∃ C, cleanL s = C := ⟨_, rfl⟩
  simp only [hC] at hc1 hc2
  generalize rightL s = R at *
  clear hC hl
  go_enter Try.func3, Try.ntmps3
  go_wp2_with fail
  refine (hc1 w).mono ?_
  rintro e w1 ⟨rfl, hb1⟩
  go_wp2_with fail
  refine (hc2 w1).mono ?_
  rintro e w2 ⟨rfl, hb2⟩
  have hb := hb1.trans (hb2.mono hb1.size)
  clear hb1 hb2
  go_wp2_with fail
  refine (hc3 w2).mono ?_
  rintro e w3 ⟨rfl, hb3⟩
  have hb' := hb.trans (hb3.mono hb.size)
  clear hb hb3
  go_wp2_with fail
  refine (hc4 w3).mono ?_
  rintro e w4 ⟨rfl, hb4⟩
  have hb := hb'.trans (hb4.mono hb'.size)
  clear hb' hb4
  have hRR : (R == R) = true := by simp
  go_wp2_with fail
  refine (awake_c w4).mono ?_
  rintro e w5 ⟨rfl, hb5⟩
  go_wp2
  go_ret
  exact ⟨rfl, hb.trans (hb5.mono hb.size)⟩
end Go.Proofs.Yteakcmnjmcbkhaa
