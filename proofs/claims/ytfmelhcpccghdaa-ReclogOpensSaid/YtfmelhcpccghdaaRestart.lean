/-
  A RESTART.
-/
import Derived.Test.YtfmelhcpccghdaaMeth
namespace Go.Proofs.Ytfmelhcpccghdaa
open Go.RowKit Go.Maps

variable {X : Nat → Prop} {K : Nat} {w : World} {p : Nat} {q : Pl} {d : Ds}

theorem lost_now (d : Ds) (i : Nat) (t : Int) : (lost d i t).now = d.now := by unfold lost; dsimp only; split <;> rfl
theorem lost_sure (d : Ds) (i : Nat) (t : Int) : (lost d i t).sure = d.sure := by unfold lost; dsimp only; split <;> rfl
theorem lost_changes (d : Ds) (i : Nat) (t : Int) : (lost d i t).changes = d.changes := by unfold lost; dsimp only; split <;> rfl
theorem lost_clock (d : Ds) (i : Nat) (t : Int) : (lost d i t).clock ≤ d.clock + 1 := by unfold lost; dsimp only; split; exact Nat.le_refl _; exact Nat.le_succ _
theorem ref_lost {d : Ds} {i j : Nat} {t : Int} : Ref (lost d i t) j ↔ Ref d j := by unfold Ref; rw [lost_now, lost_sure, lost_changes]

theorem lost_lt {d : Ds} {i : Nat} {t : Int} (h : t < ((d.files i).bytes.length : Int) - (d.files i).sure) : lost d i t = setF (ticked d) i ⟨(d.files i).bytes.take ((d.files i).sure + t.toNat), (d.files i).sure + t.toNat, d.clock⟩ := if_pos h
theorem lost_ge {d : Ds} {i : Nat} {t : Int} (h : ¬ t < ((d.files i).bytes.length : Int) - (d.files i).sure) : lost d i t = setF d i ⟨(d.files i).bytes, (d.files i).bytes.length, (d.files i).time⟩ := if_neg h

theorem tailOf_nn (ts : List Int) (i : Nat) : 0 ≤ tailOf ts i := by unfold tailOf; split <;> omega

theorem lostAll_cons {ts : List Int} {k i : Nat} {n : List UInt8} {ns : List (List UInt8)} {d : Ds} (h : d.now n = some i) : lostAll ts k (n :: ns) d = lostAll ts (k + 1) ns (lost d i (tailOf ts k)) := by
  show lostAll ts (k + 1) ns (match d.now n with | some i => lost d i (tailOf ts k) | none => d) = _
  rw [h]

theorem strV_at {ns : List (List UInt8)} {j : Nat} {l : List UInt8} (h : ns[j]? = some l) : (strV ns)[j]? = some (.string (mk l)) := by simp [strV, h]

end Go.Proofs.Ytfmelhcpccghdaa
