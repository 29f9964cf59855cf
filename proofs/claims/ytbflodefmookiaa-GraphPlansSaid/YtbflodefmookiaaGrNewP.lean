/-
  WHO MAKES WHAT, edge by edge, output by output; none where a file is made twice. No program, no world.
-/
import Derived.Test.YtbflodefmookiaaGrNewM
namespace Go.Proofs.Ytbflodefmookiaa.Gr
open Go.Proofs.Ytbflodefmookiaa.Pr
def updB (f : Bs → Option Nat) (s : Bs) (x : Nat) : Bs → Option Nat := fun y => if y = s then some x else f y
def addOuts (x : Nat) : List Bs → (Bs → Option Nat) → Option (Bs → Option Nat)
  | [], f => some f
  | s :: r, f => if (f s).isSome then none else addOuts x r (updB f s x)
def addAll : Nat → List Ed → (Bs → Option Nat) → Option (Bs → Option Nat)
  | _, [], f => some f
  | x, e :: r, f => match addOuts x e.outs f with
    | none => none
    | some g => addAll (x + 1) r g
/-- the makers of a manifest, if no file is made twice -/
def makers (L : List Ed) : Option (Bs → Option Nat) := addAll 0 L fun _ => none
theorem addOuts_to {x n : Nat} : ∀ (K : List Bs) (f g : Bs → Option Nat), addOuts x K f = some g → x < n → (∀ s k, f s = some k → k < n) → ∀ s k, g s = some k → k < n
  | [], f, g, h, _, hf => by cases h; exact hf
  | s :: r, f, g, h, hx, hf => by
    unfold addOuts at h
    split at h
    · cases h
    · refine addOuts_to r _ g h hx fun y k hy => ?_
      unfold updB at hy
      split at hy
      · cases hy; exact hx
      · exact hf y k hy
theorem addAll_to {n : Nat} : ∀ (x : Nat) (L : List Ed) (f g : Bs → Option Nat), addAll x L f = some g → x + L.length ≤ n → (∀ s k, f s = some k → k < n) → ∀ s k, g s = some k → k < n
  | _, [], f, g, h, _, hf => by cases h; exact hf
  | x, e :: r, f, g, h, hx, hf => by
    unfold addAll at h
    split at h
    · cases h
    · rename_i g1 hg1
      simp only [List.length_cons] at hx
      exact addAll_to (x + 1) r g1 g h (by omega) (addOuts_to e.outs f g1 hg1 (by omega) hf)
theorem makers_to {L : List Ed} {g : Bs → Option Nat} (h : makers L = some g) : ∀ s k, g s = some k → k < L.length :=
  addAll_to 0 L _ g h (by omega) (fun _ _ h => by cases h)
/-- the loops: what is left of the outputs, what is left of the edges -/
theorem addAll_drop {L : List Ed} {j : Nat} {e : Ed} {f : Bs → Option Nat} (h : L[j]? = some e) : addAll j (L.drop j) f = match addOuts j e.outs f with | none => none | some g => addAll (j + 1) (L.drop (j + 1)) g := by
  obtain ⟨hj, he⟩ := List.getElem?_eq_some_iff.1 h
  rw [List.drop_eq_getElem_cons hj, he]
  rfl
theorem addOuts_drop {x : Nat} {K : List Bs} {i : Nat} {s : Bs} {f : Bs → Option Nat} (h : K[i]? = some s) : addOuts x (K.drop i) f = if (f s).isSome then none else addOuts x (K.drop (i + 1)) (updB f s x) := by
  obtain ⟨hj, he⟩ := List.getElem?_eq_some_iff.1 h
  rw [List.drop_eq_getElem_cons hj, he]
  rfl
end Go.Proofs.Ytbflodefmookiaa.Gr
