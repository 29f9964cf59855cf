/-
  THE DOCUMENT's OWN ANSWER: is it a path; and the chapter's examples.
-/
import Derived.Test.YteakcmnjmcbkhaaRef
namespace Go.Proofs.Yteakcmnjmcbkhaa
open Go.RowKit

set_option maxHeartbeats 1000000 in
theorem refRight_c (s : Bs) (hs : s.length ≤ 9223372036854775807) (w : World) :
    Calls Try.prog 11 #[.string (mk s)] w fun e w' => e = .returned (.bool (rightL s)) ∧ Below w.heap.size w w' := by
  have hcl := refClean_c s hs w
  have hr : rightL s = (decide ((cleanL s).2 = 0) && decide ((cleanL s).1 = s)) := rfl
  have hlen := cleanL_len s
  obtain ⟨⟨c, e⟩, hC⟩ : ∃ C, cleanL s = C := ⟨_, rfl⟩
  rw [hC] at hcl hr hlen
  have HR := Lib.hid hr
  clear hr hC
  go_enter Try.func11, Try.ntmps11
  go_wp2_with fail
  refine hcl.mono ?_
  rintro e w1 ⟨rfl, hb⟩
  go_wp2
  all_goals go_ret
  all_goals refine ⟨?_, hb⟩
  all_goals rw [HR.out]
  · rename_i h
    rw [cmpS, decide_eq_true h, Bool.true_and]
    rfl
  · rename_i h
    rw [decide_eq_false h, Bool.false_and]
    rfl

theorem ex1 : cleanL [97, 47, 46, 47, 98, 47, 46, 46, 47, 99, 47, 47, 100] = ([97, 47, 99, 47, 100], 0) := by decide +kernel
theorem ex2 : cleanL [97, 47, 46, 46] = ([], 5) := by decide +kernel

set_option maxHeartbeats 1000000 in
theorem awake_c (w : World) : Calls Try.prog 12 #[] w fun e w' => e = .returned (.bool true) ∧ Below w.heap.size w w' := by
  have hc1 := clean_c [97, 47, 46, 47, 98, 47, 46, 46, 47, 99, 47, 47, 100] (by decide) w
  have hc2 := fun w1 => clean_c [97, 47, 46, 46] (by decide) w1
  rw [ex1] at hc1
  have e1 : (mk [97, 47, 99, 47, 100]).toList = [97, 47, 99, 47, 100] := mk_toList _
  simp only [ex2] at hc2
  go_enter Try.func12, Try.ntmps12
  go_wp2_with fail
  refine hc1.mono ?_
  rintro e w1 ⟨rfl, hb1⟩
  go_wp2_with fail
  refine (hc2 w1).mono ?_
  rintro e w2 ⟨rfl, hb2⟩
  go_wp2
  go_ret
  exact ⟨rfl, hb1.trans (hb2.mono hb1.size)⟩
end Go.Proofs.Yteakcmnjmcbkhaa
