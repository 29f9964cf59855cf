/-
  The law ScopeEscapes, walked.
-/
import Derived.Test.YtbohnjiachnadaaScRef
namespace Go.Proofs.Ytbohnjiachnadaa.Sc
open Go.RowKit Go.Maps

set_option maxHeartbeats 4000000 in
theorem scopeEscapes_w (A : ByteArray) (hA : A.size ≤ 9223372036854775807) (w : World) :
    Calls Try.prog 6 #[.string A] w fun e w' => e = .returned (.bool true) ∧ Below w.heap.size w w' := by
  obtain ⟨s, rfl⟩ : ∃ s, A = mk s := ⟨A.data.toList, (mk_of A).symm⟩
  have hz := mk_size s
  by_cases hl : 3000 < s.length
  · have hl' : 3000 < ((mk s).size : Int) := by omega
    go_enter Try.func6, Try.ntmps6
    go_wp2
    go_ret
    exact ⟨rfl, Below.refl _ _⟩
  have hl' : ¬ 3000 < ((mk s).size : Int) := by omega
  have h1 := escape_c s (by omega) w
  have h2 := refEscape_c s (by omega)
  have h3 := name_c s (by omega)
  have h4 := refName_c s (by omega)
  generalize esc s = E at *
  generalize nameB s = b at *
  have hbb : (b == b) = true := by cases b <;> rfl
  clear hl
  go_enter Try.func6, Try.ntmps6
  go_wp2_with fail
  refine h1.mono ?_
  rintro e w1 ⟨rfl, hb1⟩
  go_wp2_with fail
  refine (h2 _).mono ?_
  rintro e w2 ⟨rfl, rfl⟩
  go_wp2_with fail
  refine (h3 _).mono ?_
  rintro e w2 ⟨rfl, rfl⟩
  go_wp2_with fail
  refine (h4 _).mono ?_
  rintro e w2 ⟨rfl, rfl⟩
  go_wp2_with fail
  refine (awake_c _).mono ?_
  rintro e w5 ⟨rfl, hb5⟩
  go_wp2_with fail
  go_ret
  exact ⟨rfl, hb1.trans (hb5.mono hb1.size)⟩
end Go.Proofs.Ytbohnjiachnadaa.Sc
