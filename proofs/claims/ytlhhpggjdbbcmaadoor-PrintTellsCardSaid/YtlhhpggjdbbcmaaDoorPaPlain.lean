/-
  THE DOCUMENT's OWN ANSWER: may a byte be in a name.
-/
import Derived.Test.YtlhhpggjdbbcmaaDoorPaRight
namespace Go.Proofs.YtlhhpggjdbbcmaaDoor
open Go.RowKit

theorem plain_exp : ∀ n : Nat, n < 256 → plainN n = (decide (97 ≤ n) && decide (n ≤ 122) || decide (65 ≤ n) && decide (n ≤ 90) || decide (48 ≤ n) && decide (n ≤ 57) || decide (n = 46) || decide (n = 95) || decide (n = 45) || decide (n = 43) || decide (n = 47)) := by decide +kernel

theorem bool_ret {a b : Bool} (h : a = b) : Ending.returned (.bool a) = .returned (.bool b) := by rw [h]

set_option maxHeartbeats 1000000 in
theorem plain_c (n : Nat) (hn : n < 256) (w : World) : Calls Tryd.prog 39 #[.int .u8 (n : Int)] w fun e w' => e = .returned (.bool (plainN n)) ∧ w' = w := by
  have hp := Lib.hid (plain_exp n hn)
  go_enter Tryd.func39, Tryd.ntmps39
  go_wp2
  all_goals go_ret
  all_goals refine ⟨bool_ret ?_, rfl⟩
  all_goals rw [hp.out, Bool.eq_iff_iff]
  all_goals simp only [Bool.or_eq_true, Bool.and_eq_true, decide_eq_true_eq, beq_iff_eq, true_iff]
  all_goals omega
end Go.Proofs.YtlhhpggjdbbcmaaDoor
