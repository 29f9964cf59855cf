/-
  WHO MAKES WHAT (pure): a file's maker is the one edge that has it.
-/
import Derived.Test.YtbflodefmookiaaGrTc
import Derived.Test.YtbflodefmookiaaGrNewP
namespace Go.Proofs.Ytbflodefmookiaa.Gr
open Go.Proofs.Ytbflodefmookiaa Go.Proofs.Ytbflodefmookiaa.Pr
theorem addOuts_some {x : Nat} : ∀ (K : List Bs) (f g : Bs → Option Nat), addOuts x K f = some g → K.Nodup ∧ (∀ s ∈ K, f s = none) ∧ ∀ s, g s = if s ∈ K then some x else f s
  | [], f, g, h => by cases h; exact ⟨List.nodup_nil, by simp, by simp⟩
  | a :: r, f, g, h => by
    unfold addOuts at h
    split at h
    · cases h
    · rename_i hn
      have ha : f a = none := by cases hf : f a <;> simp_all
      obtain ⟨h1, h2, h3⟩ := addOuts_some r _ g h
      have har : a ∉ r := fun hm => by
        have := h2 a hm
        simp [updB] at this
      refine ⟨List.nodup_cons.2 ⟨har, h1⟩, fun s hs => ?_, fun s => ?_⟩
      · rcases List.mem_cons.1 hs with rfl | hs
        · exact ha
        · have := h2 s hs
          unfold updB at this
          split at this
          · cases this
          · exact this
      · rw [h3]
        by_cases hs : s ∈ r
        · simp [hs]
        · by_cases e : s = a
          · subst e; simp [hs, updB]
          · simp [hs, e, updB]
theorem addOuts_none {x : Nat} : ∀ (K : List Bs) (f : Bs → Option Nat), addOuts x K f = none → ¬ (K.Nodup ∧ ∀ s ∈ K, f s = none)
  | [], f, h => by cases h
  | a :: r, f, h => by
    unfold addOuts at h
    split at h
    · rename_i hs
      intro ⟨_, h2⟩
      have := h2 a (by simp)
      rw [this] at hs
      cases hs
    · intro ⟨h1, h2⟩
      refine addOuts_none r _ h ⟨(List.nodup_cons.1 h1).2, fun s hs => ?_⟩
      have : s ≠ a := fun e => (List.nodup_cons.1 h1).1 (e ▸ hs)
      unfold updB
      rw [if_neg this]
      exact h2 s (by simp [hs])
abbrev allOuts (L : List Ed) : List Bs := L.flatMap fun e => e.outs
theorem addAll_some : ∀ (L : List Ed) (x : Nat) (f g : Bs → Option Nat), addAll x L f = some g → (allOuts L).Nodup ∧ (∀ s ∈ allOuts L, f s = none) ∧ ∀ s n, g s = some n ↔ f s = some n ∨ ∃ j e, L[j]? = some e ∧ s ∈ e.outs ∧ n = x + j
  | [], x, f, g, h => by cases h; exact ⟨by simp, by simp, fun s n => by simp⟩
  | a :: r, x, f, g, h => by
    unfold addAll at h
    cases ho : addOuts x a.outs f with
    | none => rw [ho] at h; cases h
    | some f1 =>
      rw [ho] at h
      obtain ⟨a1, a2, a3⟩ := addOuts_some a.outs f f1 ho
      obtain ⟨b1, b2, b3⟩ := addAll_some r (x + 1) f1 g h
      have hdis : ∀ s ∈ allOuts r, s ∉ a.outs ∧ f s = none := fun s hs => by
        have := b2 s hs
        rw [a3] at this
        by_cases hm : s ∈ a.outs
        · rw [if_pos hm] at this; cases this
        · rw [if_neg hm] at this; exact ⟨hm, this⟩
      refine ⟨?_, fun s hs => ?_, fun s n => ?_⟩
      · rw [allOuts, List.flatMap_cons]
        exact List.nodup_append.2 ⟨a1, b1, fun p hp q hq e => (hdis q hq).1 (e ▸ hp)⟩
      · rw [allOuts, List.flatMap_cons, List.mem_append] at hs
        rcases hs with hs | hs
        · exact a2 s hs
        · exact (hdis s hs).2
      · rw [b3, a3]
        constructor
        · rintro (h1 | ⟨j, e, h1, h2, rfl⟩)
          · by_cases hm : s ∈ a.outs
            · rw [if_pos hm] at h1
              cases h1
              exact .inr ⟨0, a, rfl, hm, rfl⟩
            · rw [if_neg hm] at h1
              exact .inl h1
          · exact .inr ⟨j + 1, e, h1, h2, by omega⟩
        · rintro (h1 | ⟨j, e, h1, h2, rfl⟩)
          · have hm : s ∉ a.outs := fun hm => by rw [a2 s hm] at h1; cases h1
            rw [if_neg hm]
            exact .inl h1
          · cases j with
            | zero =>
              cases h1
              rw [if_pos h2]
              exact .inl rfl
            | succ j => exact .inr ⟨j, e, h1, h2, by omega⟩
theorem addAll_none : ∀ (L : List Ed) (x : Nat) (f : Bs → Option Nat), addAll x L f = none → ¬ ((allOuts L).Nodup ∧ ∀ s ∈ allOuts L, f s = none)
  | [], x, f, h => by cases h
  | a :: r, x, f, h => by
    unfold addAll at h
    intro ⟨h1, h2⟩
    rw [allOuts, List.flatMap_cons] at h1 h2
    obtain ⟨n1, n2, n3⟩ := List.nodup_append.1 h1
    cases ho : addOuts x a.outs f with
    | none => exact addOuts_none a.outs f ho ⟨n1, fun s hs => h2 s (List.mem_append.2 (.inl hs))⟩
    | some f1 =>
      rw [ho] at h
      obtain ⟨a1, a2, a3⟩ := addOuts_some a.outs f f1 ho
      refine addAll_none r (x + 1) f1 h ⟨n2, fun s hs => ?_⟩
      rw [a3, if_neg fun hm => n3 s hm s hs rfl]
      exact h2 s (List.mem_append.2 (.inr hs))
section
variable {L : List Ed} {mkr : Bs → Option Nat}
theorem makers_nd (h : makers L = some mkr) : (allOuts L).Nodup := (addAll_some L 0 _ _ h).1
theorem makers_iff (h : makers L = some mkr) (s : Bs) (n : Nat) : mkr s = some n ↔ ∃ e, L[n]? = some e ∧ s ∈ e.outs := by
  rw [(addAll_some L 0 _ _ h).2.2]
  constructor
  · rintro (h | ⟨j, e, h1, h2, rfl⟩)
    · cases h
    · exact ⟨e, by rwa [Nat.zero_add], h2⟩
  · rintro ⟨e, h1, h2⟩
    exact .inr ⟨n, e, h1, h2, by omega⟩
theorem makers_dup (h : makers L = none) : ¬ (allOuts L).Nodup := fun hn => addAll_none L 0 _ h ⟨hn, fun _ _ => rfl⟩
theorem makers_ex (h : (allOuts L).Nodup) : ∃ mkr, makers L = some mkr := by
  cases hm : makers L with
  | none => exact absurd h (makers_dup hm)
  | some m => exact ⟨m, rfl⟩
theorem makers_out (h : makers L = some mkr) (s : Bs) : (mkr s).isSome = true ↔ s ∈ allOuts L := by
  rw [Option.isSome_iff_exists, List.mem_flatMap]
  constructor
  · rintro ⟨n, hn⟩
    obtain ⟨e, h1, h2⟩ := (makers_iff h s n).1 hn
    exact ⟨e, List.mem_of_getElem? h1, h2⟩
  · rintro ⟨e, he, hs⟩
    obtain ⟨j, hj⟩ := List.getElem?_of_mem he
    exact ⟨j, (makers_iff h s j).2 ⟨e, hj, hs⟩⟩
theorem deps_lt (h : makers L = some mkr) (i : Nat) : ∀ j ∈ depsL mkr L i, j < L.length := fun j hj => by
  unfold depsL at hj
  split at hj
  · obtain ⟨s, _, hs⟩ := List.mem_filterMap.1 hj
    obtain ⟨e, h1, _⟩ := (makers_iff h s j).1 hs
    exact (List.getElem?_eq_some_iff.1 h1).1
  · cases hj
theorem range_rising (n : Nat) : (List.range n).Pairwise (· < ·) := List.pairwise_lt_range
/-- an error's number of a manifest: as New and the document tell it -/
def Wr (L : List Ed) (n : Nat) : Prop := (makers L = none ∧ n = 11) ∨ ∃ mkr, makers L = some mkr ∧ ((n = 12 ∧ ∃ i, i < L.length ∧ Tc (depsL mkr L) i i) ∨ (n = 0 ∧ ∀ i, i < L.length → ¬ Tc (depsL mkr L) i i))
theorem order_full (h : makers L = some mkr) : (order (depsL mkr L) (List.range L.length)).length = L.length ↔ ∀ i, i < L.length → ¬ Tc (depsL mkr L) i i := by
  have h1 := order_len (deps := depsL mkr L) (range_rising L.length) fun u _ d hd => List.mem_range.2 (deps_lt h u d hd)
  rw [List.length_range] at h1
  rw [h1]
  simp [List.mem_range]
end
end Go.Proofs.Ytbflodefmookiaa.Gr
