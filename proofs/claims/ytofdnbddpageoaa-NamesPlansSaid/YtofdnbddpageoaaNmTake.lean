/-
  A BOOK's RECORDS: New, whole, takeName.
-/
import Derived.Test.YtofdnbddpageoaaNmMem
namespace Go.Proofs.Ytofdnbddpageoaa.Nm
open Go.RowKit Go.Maps

theorem new_c (w : World) : Calls Try.prog 10 #[] w fun e w' => e = .returned (.pointer (some ⟨w.heap.size, 0, Option.none⟩)) ∧ w' = w.alloc (.cells #[.slice Option.none 0 0, .map Option.none, .slice Option.none 0 0] 69) := by
  go_enter Try.func10, Try.ntmps10
  go_wp2_with fail
  go_ret
  exact ⟨rfl, rfl⟩

theorem whole_c (r g : Nat) (l : List Nat) (bad : Bool) (w : World) (h : Pk.Rd w r g l bad) :
    Calls Try.prog 50 #[.pointer (some ⟨r, 0, Option.none⟩)] w fun e w' => e = .returned (.bool (!bad && l.isEmpty)) ∧ w = w' := by
  have hr := Pk.right_any r g l bad w h
  have hl := Pk.left_any r g l bad w h
  cases bad with
  | true =>
    clear h hl
    go_enter Try.func50, Try.ntmps50
    go_wp2_with fail
    refine hr.mono ?_
    rintro e w1 ⟨rfl, rfl⟩
    go_wp2_with fail
    go_ret
    exact ⟨rfl, rfl⟩
  | false =>
    obtain ⟨z, hz⟩ : ∃ z, l.isEmpty = z := ⟨_, rfl⟩
    have e0 : ((l.length : Int) == 0) = z := by rw [← hz]; cases l <;> simp <;> omega
    rw [hz]
    clear h hz
    generalize l.length = n at *
    go_enter Try.func50, Try.ntmps50
    go_wp2_with fail
    refine hr.mono ?_
    rintro e w1 ⟨rfl, rfl⟩
    go_wp2_with fail
    refine hl.mono ?_
    rintro e w1 ⟨rfl, rfl⟩
    go_wp2_with fail
    go_ret
    exact ⟨rfl, rfl⟩
end Go.Proofs.Ytofdnbddpageoaa.Nm
