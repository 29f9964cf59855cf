/-
  YtofdnbddpageoaaS THAT ARE KNOWN, and names that come: plain lists.
-/
import Derived.Test.YtofdnbddpageoaaNmTold
namespace Go.Proofs.Ytofdnbddpageoaa.Nm
open Go.RowKit

/-- names that are known need no record -/
theorem tell_known {N : List ByteArray} {l : List ByteArray} (h : ∀ s ∈ l, s ∈ N) : (tellAll N l).M = N ∧ (tellAll N l).recs = [] := by
  refine snoc_ind (P := fun l => (∀ s ∈ l, s ∈ N) → (tellAll N l).M = N ∧ (tellAll N l).recs = []) ?_ ?_ l h
  · intro _; exact ⟨rfl, rfl⟩
  · intro l x ih h
    obtain ⟨h1, h2⟩ := ih fun s hs => h s (by simp [hs])
    obtain ⟨i, hi⟩ := ixOf_mem (h x (by simp))
    rw [tellAll_snoc]
    unfold Tl.tell
    rw [h1, hi]
    exact ⟨rfl, h2⟩

theorem plan_again {N : List ByteArray} {out : ByteArray} {time : Nat} {deps : List ByteArray} (h : ∀ s ∈ out :: deps, s ∈ N) : (plan N out time deps).length = 1 := by
  unfold plan
  simp [(tell_known h).2]

theorem told_mem (N l : List ByteArray) : ∀ s ∈ l, s ∈ (tellAll N l).M := fun s hs => by
  obtain ⟨j, hj⟩ := List.mem_iff_getElem?.1 hs
  obtain ⟨i, _, h⟩ := told_ix N l j s hj
  exact List.mem_of_getElem? (ixOf_get h)

theorem once_plan {d : Dp} (hE : dpE d = 0) (hd : d.deps.length ≤ 50) (t : Nat) : (planD (toldB [d]).N ⟨d.out, (t : Int), d.deps⟩).length = 1 := by
  have e : toldB [d] = stepB ⟨[], []⟩ d := rfl
  obtain ⟨B', h3, -, -, h5, -⟩ := plan_fin (B := ⟨[], []⟩) hE okB_nil (by simp)
  have e2 : (toldB [d]).N = (tellAll [] (d.out :: d.deps)).M := by
    rw [e]
    unfold stepB
    rw [if_pos hE, h3]
    exact h5
  rw [e2]
  exact plan_again (told_mem [] (d.out :: d.deps))
theorem once_none {d : Dp} (hE : ¬ dpE d = 0) : toldB [d] = ⟨[], []⟩ := if_neg hE
theorem once_e {d : Dp} (hE : dpE d = 0) {t : Nat} (ht : t < 4611686018427387904) : dpE ⟨d.out, (t : Int), d.deps⟩ = 0 := by
  unfold dpE planE at *
  split at hE
  · cases hE
  · split at hE
    · cases hE
    · rename_i h
      rw [if_neg (by show ¬ ((t : Int) < 0 ∨ 4611686018427387904 ≤ (t : Int)); omega), if_neg h]

/-! ### names that come -/
def growB (N : List ByteArray) : Bo := ⟨N, List.replicate N.length Option.none⟩
def withL (N : List ByteArray) (s : ByteArray) : List ByteArray := match ixOf N s with
  | some _ => N
  | Option.none => N ++ [s]
theorem takeB_known {B : Bo} {s : ByteArray} (hs : s.size ≤ 65535) {i : Nat} (hn : ixOf B.N s = some i) : takeB B (recN s) = Option.none := by
  obtain ⟨h1, h2, h3⟩ := Pk.tx_le s [] hs
  rw [List.append_nil] at h1 h2 h3
  unfold recN
  rw [takeB_1]
  unfold takeN
  rw [h1, h2, h3, Pk.str_sb, if_neg (fun h => by rw [hn] at h; cases h.2.2)]
theorem grow_take {N : List ByteArray} {s : ByteArray} (hs : s.size ≤ 100) : (takeB (growB N) (recN s)).getD (growB N) = growB (withL N s) ∧ ((takeB (growB N) (recN s)).isSome = decide (N.length < (withL N s).length)) := by
  unfold withL
  cases h : ixOf N s with
  | some i =>
    rw [takeB_known (B := growB N) (by omega) h]
    exact ⟨rfl, by simp⟩
  | none =>
    rw [takeB_name (B := growB N) (by omega) h]
    refine ⟨?_, by simp⟩
    show (⟨N ++ [s], List.replicate N.length Option.none ++ [Option.none]⟩ : Bo) = ⟨N ++ [s], List.replicate (N ++ [s]).length Option.none⟩
    congr 1
    rw [List.length_append, List.length_singleton, List.replicate_succ']
theorem recN_small {s : ByteArray} (hs : s.size ≤ 100) : recN s = [1, s.size, 0] ++ Pk.sb s := by
  unfold recN Pk.le
  have e : List.range 2 = [0, 1] := rfl
  rw [e]
  simp
  omega
end Go.Proofs.Ytofdnbddpageoaa.Nm
