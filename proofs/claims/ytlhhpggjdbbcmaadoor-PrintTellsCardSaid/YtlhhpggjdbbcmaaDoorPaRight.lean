/-
  Right.
-/
import Derived.Test.YtlhhpggjdbbcmaaDoorPaNames
namespace Go.Proofs.YtlhhpggjdbbcmaaDoor
open Go.RowKit

theorem cleanL_len (s : Bs) : (cleanL s).1.length ≤ 100 := by
  rcases cleanL_cases s with ⟨e, h, _⟩ | ⟨_, _, _, _, h4, h⟩
  · rw [h]; simp
  · rw [h]; exact h4

theorem cmpS (a b : Bs) : ((mk a).toList == (mk b).toList) = decide (a = b) := by
  rw [mk_toList, mk_toList]
  exact Bool.eq_iff_iff.2 (by simp)

set_option maxHeartbeats 1000000 in
theorem right_c (s : Bs) (hs : s.length ≤ 9223372036854775807) (w : World) :
    Calls Tryd.prog 31 #[.string (mk s)] w fun e w' => e = .returned (.bool (rightL s)) ∧ Below w.heap.size w w' := by
  have hcl := clean_c s hs w
  have hr : rightL s = (decide ((cleanL s).2 = 0) && decide ((cleanL s).1 = s)) := rfl
  have hlen := cleanL_len s
  obtain ⟨⟨c, e⟩, hC⟩ : ∃ C, cleanL s = C := ⟨_, rfl⟩
  rw [hC] at hcl hr hlen
  have HR := Lib.hid hr
  clear hr hC
  go_enter Tryd.func31, Tryd.ntmps31
  go_wp2_with fail
  refine hcl.mono ?_
  rintro e w1 ⟨rfl, hb⟩
  go_wp2
  all_goals go_ret
  all_goals refine ⟨?_, hb⟩
  all_goals rw [HR.out]
  · rename_i h
    rw [cmpS, decide_eq_true h, Bool.true_and]
    rfl
  · rename_i h
    rw [decide_eq_false h, Bool.false_and]
    rfl

end Go.Proofs.YtlhhpggjdbbcmaaDoor
