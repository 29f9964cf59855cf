/-
  WHAT STANDS ABOVE SOME FILES (pure): who makes them, and whatever makes what these need.
-/
import Derived.Test.YtbflodefmookiaaGrFam
namespace Go.Proofs.Ytbflodefmookiaa.Gr
open Go.RowKit Go.Maps Go.Proofs.Ytbflodefmookiaa Go.Proofs.Ytbflodefmookiaa.Pr

inductive Reach (mkr : Bs → Option Nat) (L : List Ed) (K : List Bs) : Nat → Prop
  | base {s : Bs} {n : Nat} : s ∈ K → mkr s = some n → Reach mkr L K n
  | step {m n : Nat} : Reach mkr L K m → n ∈ depsL mkr L m → Reach mkr L K n

def meet1 (mkr : Bs → Option Nat) (S : List Nat) (s : Bs) : List Nat := match mkr s with
  | some n => if n ∈ S then S else S ++ [n]
  | none => S
def meetL (mkr : Bs → Option Nat) (S : List Nat) (K : List Bs) : List Nat := K.foldl (meet1 mkr) S
section
variable {mkr : Bs → Option Nat} {L : List Ed} {K A : List Bs} {S : List Nat} {s : Bs} {n j d m : Nat}
theorem meetL_take (h : K[j]? = some s) : meetL mkr S (K.take (j + 1)) = meet1 mkr (meetL mkr S (K.take j)) s := by
  unfold meetL
  rw [List.take_add_one, h, List.foldl_append]
  rfl
theorem meet1_none (h : mkr s = none) : meet1 mkr S s = S := by unfold meet1; rw [h]
theorem meet1_old (h : mkr s = some n) (hn : n ∈ S) : meet1 mkr S s = S := by unfold meet1; rw [h]; exact if_pos hn
theorem meet1_new (h : mkr s = some n) (hn : n ∉ S) : meet1 mkr S s = S ++ [n] := by unfold meet1; rw [h]; exact if_neg hn
theorem meet1_pre : ∃ T, meet1 mkr S s = S ++ T := by
  cases h : mkr s with
  | none => exact ⟨[], by rw [meet1_none h, List.append_nil]⟩
  | some n =>
    by_cases hn : n ∈ S
    · exact ⟨[], by rw [meet1_old h hn, List.append_nil]⟩
    · exact ⟨[n], meet1_new h hn⟩
theorem meet1_mem {x : Nat} : x ∈ meet1 mkr S s ↔ x ∈ S ∨ mkr s = some x := by
  cases h : mkr s with
  | none => rw [meet1_none h]; simp
  | some n =>
    by_cases hn : n ∈ S
    · rw [meet1_old h hn]
      constructor
      · exact .inl
      · rintro (h1 | h1)
        · exact h1
        · cases h1; exact hn
    · rw [meet1_new h hn]
      simp [eq_comm]
theorem meet1_nodup (h : S.Nodup) : (meet1 mkr S s).Nodup := by
  cases hm : mkr s with
  | none => rw [meet1_none hm]; exact h
  | some n =>
    by_cases hn : n ∈ S
    · rw [meet1_old hm hn]; exact h
    · rw [meet1_new hm hn]
      refine List.nodup_append.2 ⟨h, by simp, fun a ha b hb => ?_⟩
      rw [List.mem_singleton.1 hb]
      exact fun e => hn (e ▸ ha)
theorem meetL_pre : ∃ T, meetL mkr S K = S ++ T := by
  induction K generalizing S with
  | nil => exact ⟨[], by simp [meetL]⟩
  | cons s K ih =>
    obtain ⟨T1, h1⟩ := @meet1_pre mkr S s
    obtain ⟨T2, h2⟩ := @ih (meet1 mkr S s)
    exact ⟨T1 ++ T2, by rw [show meetL mkr S (s :: K) = meetL mkr (meet1 mkr S s) K from rfl, h2, h1, List.append_assoc]⟩
theorem meetL_mem {x : Nat} : x ∈ meetL mkr S K ↔ x ∈ S ∨ ∃ s ∈ K, mkr s = some x := by
  induction K generalizing S with
  | nil => simp [meetL]
  | cons s K ih =>
    rw [show meetL mkr S (s :: K) = meetL mkr (meet1 mkr S s) K from rfl, ih, meet1_mem]
    simp [or_assoc]
theorem meetL_nodup (h : S.Nodup) : (meetL mkr S K).Nodup := by
  induction K generalizing S with
  | nil => exact h
  | cons s K ih => exact ih (meet1_nodup h)

/-- what is met so far: d of them are walked -/
structure Bfs (mkr : Bs → Option Nat) (L : List Ed) (K : List Bs) (S : List Nat) (d : Nat) : Prop where
  nd : S.Nodup
  snd : ∀ n ∈ S, Reach mkr L K n
  base : ∀ s n, s ∈ K → mkr s = some n → n ∈ S
  closed : ∀ i m, i < d → S[i]? = some m → ∀ n ∈ depsL mkr L m, n ∈ S
  le : d ≤ S.length
theorem Bfs.start : Bfs mkr L K (meetL mkr [] K) 0 :=
  ⟨meetL_nodup List.nodup_nil, fun n hn => by
    rcases meetL_mem.1 hn with h | ⟨s, hs, h⟩
    · cases h
    · exact .base hs h, fun s n hs h => meetL_mem.2 (.inr ⟨s, hs, h⟩), fun i m h => by omega, Nat.zero_le _⟩
theorem Bfs.next (h : Bfs mkr L K S d) (hm : S[d]? = some m) {x : Ed} (hx : L[m]? = some x) : Bfs mkr L K (meetL mkr S (needsL x)) (d + 1) := by
  have hdep : ∀ n, n ∈ depsL mkr L m ↔ ∃ s ∈ needsL x, mkr s = some n := fun n => by
    unfold depsL
    rw [hx]
    exact List.mem_filterMap
  obtain ⟨T, hT⟩ := @meetL_pre mkr (needsL x) S
  have hd : d < S.length := (List.getElem?_eq_some_iff.1 hm).1
  refine ⟨meetL_nodup h.nd, fun n hn => ?_, fun s n hs e => meetL_mem.2 (.inl (h.base s n hs e)), fun i m2 hi hm2 n hn => ?_, ?_⟩
  · rcases meetL_mem.1 hn with h1 | h1
    · exact h.snd n h1
    · exact .step (h.snd m (List.mem_of_getElem? hm)) ((hdep n).2 h1)
  · rw [hT, List.getElem?_append_left (by omega)] at hm2
    by_cases e : i = d
    · subst e
      rw [hm] at hm2
      cases hm2
      exact meetL_mem.2 (.inr ((hdep n).1 hn))
    · exact meetL_mem.2 (.inl (h.closed i m2 (by omega) hm2 n hn))
  · rw [hT, List.length_append]; omega
theorem Bfs.fin (h : Bfs mkr L K S S.length) {n : Nat} : n ∈ S ↔ Reach mkr L K n := by
  refine ⟨h.snd n, fun hr => ?_⟩
  induction hr with
  | base hs e => exact h.base _ _ hs e
  | step _ hd ih =>
    obtain ⟨i, hi⟩ := List.getElem?_of_mem ih
    exact h.closed i _ (List.getElem?_eq_some_iff.1 hi).1 hi _ hd
theorem Reach.lt (hto : ∀ s k, mkr s = some k → k < L.length) (h : Reach mkr L K n) : n < L.length := by
  cases h with
  | base _ e => exact hto _ _ e
  | step _ hd =>
    unfold depsL at hd
    split at hd
    · obtain ⟨s, _, e⟩ := List.mem_filterMap.1 hd
      exact hto _ _ e
    · cases hd
end
end Go.Proofs.Ytbflodefmookiaa.Gr
