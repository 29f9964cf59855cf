/-
  The methods that an interface's value of the numbers' box leads to.
-/
import Derived.Test.YtbflodefmookiaaGrRow
namespace Go.Proofs.Ytbflodefmookiaa.Gr
open Go.RowKit Go.Proofs.Ytbflodefmookiaa

theorem load_c {w : World} {p : Nat} {v : Value} {f : FuncId} (h : w.cell? ⟨p, 0, none⟩ = some v) : (do let v ← loadVar 91 ⟨p, 0, none⟩; pure (f, v) : Sem (FuncId × Value)).run Try.prog w = .ok (f, v) w := by
  simp [loadVar, Try.isAgg91, run_load, h]
theorem meth_less0 (w : World) (p : Nat) : (method 268 96 (.pointer (some ⟨p, 0, none⟩)) "Less").run Try.prog w = (do let v ← loadVar 91 ⟨p, 0, none⟩; pure (115, v)).run Try.prog w := by kernel_rfl
theorem meth_less {w : World} {p : Nat} {v : Value} (h : w.cell? ⟨p, 0, none⟩ = some v) : (method 268 96 (.pointer (some ⟨p, 0, none⟩)) "Less").run Try.prog w = .ok (115, v) w := by
  rw [meth_less0]
  exact load_c h
theorem meth_swap0 (w : World) (p : Nat) : (method 268 96 (.pointer (some ⟨p, 0, none⟩)) "Swap").run Try.prog w = (do let v ← loadVar 91 ⟨p, 0, none⟩; pure (117, v)).run Try.prog w := by kernel_rfl
theorem meth_swap {w : World} {p : Nat} {v : Value} (h : w.cell? ⟨p, 0, none⟩ = some v) : (method 268 96 (.pointer (some ⟨p, 0, none⟩)) "Swap").run Try.prog w = .ok (117, v) w := by
  rw [meth_swap0]
  exact load_c h
theorem meth_len0 (w : World) (p : Nat) : (method 268 96 (.pointer (some ⟨p, 0, none⟩)) "Len").run Try.prog w = (do let v ← loadVar 91 ⟨p, 0, none⟩; pure (47, v)).run Try.prog w := by kernel_rfl
theorem meth_len {w : World} {p : Nat} {v : Value} (h : w.cell? ⟨p, 0, none⟩ = some v) : (method 268 96 (.pointer (some ⟨p, 0, none⟩)) "Len").run Try.prog w = .ok (47, v) w := by
  rw [meth_len0]
  exact load_c h
theorem meth_pop (w : World) (p : Nat) : (method 268 96 (.pointer (some ⟨p, 0, none⟩)) "Pop").run Try.prog w = .ok (118, .pointer (some ⟨p, 0, none⟩)) w := by kernel_rfl
theorem meth_push (w : World) (p : Nat) : (method 268 96 (.pointer (some ⟨p, 0, none⟩)) "Push").run Try.prog w = .ok (119, .pointer (some ⟨p, 0, none⟩)) w := by kernel_rfl
end Go.Proofs.Ytbflodefmookiaa.Gr
