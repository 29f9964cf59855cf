/-
  A RECORD, PIECE BY PIECE: what the document's Write puts together.
-/
import Derived.Test.YtdijpoemimebmaaRnBk
namespace Go.Proofs.Ytdijpoemimebmaa.Rn
open Go.RowKit
open Go.Proofs.Ytdijpoemimebmaa.Cr

def X0 (r : Run) : List Nat := Pk.le (Crc.hash (Pk.sb r.cmd)) 8
def X1 (r : Run) : List Nat := X0 r ++ (Pk.le r.out.size 2 ++ Pk.sb r.out)
def X2 (r : Run) : List Nat := X1 r ++ (Pk.le r.cmd.size 2 ++ Pk.sb r.cmd)
def X3 (r : Run) : List Nat := X2 r ++ Pk.le r.time.toNat 8
def X4 (r : Run) : List Nat := X3 r ++ Pk.le r.mark.toNat 8
def X5 (r : Run) : List Nat := X4 r ++ Pk.le r.ins.length 4
def X6 (r : Run) (j : Nat) : List Nat := X5 r ++ bytes (insP (r.ins.take j))
def X7 (r : Run) : List Nat := X6 r r.ins.length ++ Pk.le r.found.length 4
def X8 (r : Run) (j : Nat) : List Nat := X7 r ++ bytes ((r.found.take j).map .M)

theorem X6_0 (r : Run) : X6 r 0 = X5 r := by simp [X6, insP, bytes]
theorem X8_0 (r : Run) : X8 r 0 = X7 r := by simp [X8, bytes]
theorem X8_all (r : Run) : X8 r r.found.length = recB r := by
  unfold X8 X7 X6 X5 X4 X3 X2 X1 X0 recB
  rw [bytes_parts, List.take_length, List.take_length]
  simp [tx]

theorem X6_next {r : Run} {j : Nat} {x : In} (hx : r.ins[j]? = some x) : X6 r j ++ (Pk.le x.name.size 2 ++ Pk.sb x.name) ++ Pk.le x.time.toNat 8 = X6 r (j + 1) := by
  unfold X6
  rw [List.take_add_one, hx]
  show _ = X5 r ++ bytes (insP (r.ins.take j ++ [x]))
  rw [insP_snoc]
  simp [tx]

theorem X8_next {r : Run} {j : Nat} {x : Int} (hx : r.found[j]? = some x) : X8 r j ++ Pk.le x.toNat 8 = X8 r (j + 1) := by
  unfold X8
  rw [List.take_add_one, hx]
  show _ = X7 r ++ bytes ((r.found.take j ++ [x]).map .M)
  rw [fdP_snoc, List.append_assoc]

theorem insP_app (a b : List In) : insP (a ++ b) = insP a ++ insP b := by simp [insP]

theorem size_take (L : List In) (j : Nat) : size (insP (L.take j)) ≤ size (insP L) := by
  conv => rhs; rw [← List.take_append_drop j L]
  rw [insP_app, size_app]
  omega

theorem len_X5 (r : Run) : (X5 r).length = 32 + r.out.size + r.cmd.size := by
  unfold X5 X4 X3 X2 X1 X0
  simp [Pk.le_length, Pk.sb_length]
  omega

theorem len_X {r : Run} (hs : sizeR r ≤ 4096) : (X0 r).length ≤ 4096 ∧ (X1 r).length ≤ 4096 ∧ (X2 r).length ≤ 4096 ∧ (X3 r).length ≤ 4096 ∧ (X4 r).length ≤ 4096 ∧ (X5 r).length ≤ 4096 ∧ (∀ j, (X6 r j).length ≤ 4096) ∧ (X7 r).length ≤ 4096 ∧ ∀ j, j ≤ r.found.length → (X8 r j).length ≤ 4096 := by
  have h := parts_size r
  have h5 := len_X5 r
  have hf := size_fds r.found
  unfold sizeR at hs
  have h4 : (X5 r).length = (X4 r).length + 4 := by unfold X5; rw [List.length_append, Pk.le_length]
  have h3 : (X4 r).length = (X3 r).length + 8 := by unfold X4; rw [List.length_append, Pk.le_length]
  have h2 : (X3 r).length = (X2 r).length + 8 := by unfold X3; rw [List.length_append, Pk.le_length]
  have h1 : (X2 r).length = (X1 r).length + (2 + r.cmd.size) := by unfold X2; simp [Pk.le_length, Pk.sb_length]
  have h0 : (X1 r).length = (X0 r).length + (2 + r.out.size) := by unfold X1; simp [Pk.le_length, Pk.sb_length]
  have h6 : ∀ j, (X6 r j).length = (X5 r).length + size (insP (r.ins.take j)) := fun j => by unfold X6; rw [List.length_append, bytes_length]
  have h7 : (X7 r).length = (X6 r r.ins.length).length + 4 := by unfold X7; rw [List.length_append, Pk.le_length]
  have e6 := h6 r.ins.length
  rw [List.take_length] at e6
  refine ⟨by omega, by omega, by omega, by omega, by omega, by omega, fun j => ?_, by omega, fun j hj => ?_⟩
  · have := size_take r.ins j
    rw [h6]
    omega
  · have : (X8 r j).length = (X7 r).length + j * 8 := by
      unfold X8
      rw [List.length_append, bytes_length, size_fds, List.length_take, Nat.min_eq_left hj]
    omega

def ngI (L : List In) : Bool := L.any fun i => decide (i.time < 0)
def ngF (L : List Int) : Bool := L.any fun t => decide (t < 0)
theorem ngI_next {L : List In} {j : Nat} {x : In} (hx : L[j]? = some x) : ngI (L.take (j + 1)) = (ngI (L.take j) || decide (x.time < 0)) := by
  rw [List.take_add_one, hx]
  simp [ngI]
theorem ngF_next {L : List Int} {j : Nat} {x : Int} (hx : L[j]? = some x) : ngF (L.take (j + 1)) = (ngF (L.take j) || decide (x < 0)) := by
  rw [List.take_add_one, hx]
  simp [ngF]
theorem szI_next {L : List In} {j : Nat} {x : In} (hx : L[j]? = some x) : size (insP (L.take (j + 1))) = size (insP (L.take j)) + (10 + x.name.size) := by
  rw [List.take_add_one, hx]
  show size (insP (L.take j ++ [x])) = _
  rw [insP_app, size_app]
  simp [insP, size, psz]
  omega

theorem neg_split (r : Run) : negR r = (((decide (r.time < 0) || decide (r.mark < 0)) || ngI r.ins) || ngF r.found) := by
  unfold negR neg parts ngI ngF
  simp only [List.any_append, List.any_cons, List.any_nil, List.any_flatMap, List.any_map, pneg, Bool.false_or, Bool.or_false, Function.comp_def]

theorem szR_split (r : Run) : sizeR r = ((36 + r.out.size + r.cmd.size) + size (insP r.ins)) + r.found.length * 8 := by
  have h := parts_size r
  have hf := size_fds r.found
  unfold sizeR
  omega

theorem nat_time {z : Int} (h0 : 0 ≤ z) (h : z < 9223372036854775808) : ∃ n : Nat, z = (n : Int) ∧ z.toNat = n ∧ n < 9223372036854775808 := ⟨z.toNat, by omega, rfl, by omega⟩
end Go.Proofs.Ytdijpoemimebmaa.Rn
