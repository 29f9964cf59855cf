/-
  WHAT THE LOOPS OF THE DOCUMENT's Below KEEP (pure).
-/
import Derived.Test.YtbflodefmookiaaGrMx
namespace Go.Proofs.Ytbflodefmookiaa.Gr
open Go.Proofs.Ytbflodefmookiaa Go.Proofs.Ytbflodefmookiaa.Pr
section
variable {deps : Nat → List Nat} {n k i j t : Nat} {B : Nat → Nat → Bool} {mkr : Bs → Option Nat} {K : List Bs}
/-- the first t rows are as the edges tell -/
def Wl (deps : Nat → List Nat) (t : Nat) (B : Nat → Nat → Bool) : Prop := ∀ a b, a < t → (B a b = true ↔ b ∈ deps a)
/-- and of the next one the first m needs are told -/
structure Wm (deps : Nat → List Nat) (mkr : Bs → Option Nat) (t : Nat) (K : List Bs) (m : Nat) (B : Nat → Nat → Bool) : Prop where
  old : ∀ a b, a < t → (B a b = true ↔ b ∈ deps a)
  now : ∀ b, B t b = true ↔ ∃ s ∈ K.take m, mkr s = some b
theorem Wm.start (h : Wl deps t B) : Wm deps mkr t K 0 (fun a b => if a = t then false else B a b) :=
  ⟨fun a b ha => by
    have e : ¬ a = t := by omega
    simp only [if_neg e]
    exact h a b ha, fun b => by simp⟩
theorem Wm.skip {s : Bs} {m : Nat} (h : Wm deps mkr t K m B) (hs : K[m]? = some s) (hm : mkr s = none) : Wm deps mkr t K (m + 1) B :=
  ⟨h.old, fun b => by
    rw [h.now, List.take_add_one, hs]
    constructor
    · rintro ⟨x, hx, e⟩
      exact ⟨x, List.mem_append.2 (.inl hx), e⟩
    · rintro ⟨x, hx, e⟩
      rcases List.mem_append.1 hx with hx | hx
      · exact ⟨x, hx, e⟩
      · simp at hx
        subst hx
        rw [hm] at e
        cases e⟩
theorem Wm.put {s : Bs} {m d : Nat} (h : Wm deps mkr t K m B) (hs : K[m]? = some s) (hm : mkr s = some d) : Wm deps mkr t K (m + 1) (setB B t d) :=
  ⟨fun a b ha => by
    have e : ¬ (a = t ∧ b = d) := fun h => by omega
    unfold setB
    rw [if_neg e]
    exact h.old a b ha, fun b => by
    rw [List.take_add_one, hs]
    unfold setB
    by_cases e : b = d
    · subst e
      simp only [and_self, if_true, true_iff]
      exact ⟨s, by simp, hm⟩
    · have e2 : ¬ (t = t ∧ b = d) := fun h => e h.2
      rw [if_neg e2, h.now]
      constructor
      · rintro ⟨x, hx, e⟩
        exact ⟨x, List.mem_append.2 (.inl hx), e⟩
      · rintro ⟨x, hx, e3⟩
        rcases List.mem_append.1 hx with hx | hx
        · exact ⟨x, hx, e3⟩
        · simp at hx
          subst hx
          rw [hm] at e3
          cases e3
          exact absurd rfl e⟩
theorem Wm.fin {L : List Ed} {x : Ed} (h : Wm (depsL mkr L) mkr t (needsL x) (needsL x).length B) (hx : L[t]? = some x) : Wl (depsL mkr L) (t + 1) B := fun a b ha => by
  by_cases e : a = t
  · subst e
    rw [h.now, List.take_length]
    unfold depsL
    rw [hx]
    exact List.mem_filterMap.symm
  · exact h.old a b (by omega)

structure Wq (deps : Nat → List Nat) (n k i j : Nat) (B : Nat → Nat → Bool) : Prop where
  snd : ∀ a b, a < n → b < n → B a b = true → Tc deps a b
  bas : ∀ a b, a < n → b < n → Pk deps k a b → B a b = true
  nxt : ∀ a b, a < n → b < n → (a < i ∨ (a = i ∧ b < j)) → Pk deps (k + 1) a b → B a b = true
theorem Wq.start (h : Wl deps n B) : Wq deps n 0 0 0 B :=
  ⟨fun a b ha _ hb => .one ((h a b ha).1 hb), fun a b ha _ hp => (h a b ha).2 hp, fun a b _ _ h => by omega⟩
theorem Wq.put (h : Wq deps n k i j B) (hk : k < n) (hi : i < n) (hj : j < n) (h1 : B i k = true) (h2 : B k j = true) : Wq deps n k i (j + 1) (setB B i j) := by
  have hset : ∀ a b, B a b = true → setB B i j a b = true := fun a b h => by
    unfold setB
    split
    · rfl
    · exact h
  refine ⟨fun a b ha hb hh => ?_, fun a b ha hb hp => hset a b (h.bas a b ha hb hp), fun a b ha hb hab hp => ?_⟩
  · unfold setB at hh
    split at hh
    · rename_i e
      obtain ⟨rfl, rfl⟩ := e
      exact (h.snd a k hi hk h1).trans (h.snd k b hk hj h2)
    · exact h.snd a b ha hb hh
  · by_cases e : a = i ∧ b = j
    · unfold setB
      rw [if_pos e]
    · exact hset a b (h.nxt a b ha hb (by omega) hp)
theorem Wq.skip (h : Wq deps n k i j B) (hk : k < n) (hn : (B i k && B k j) = false) : Wq deps n k i (j + 1) B := by
  refine ⟨h.snd, h.bas, fun a b ha hb hab hp => ?_⟩
  by_cases e : a = i ∧ b = j
  · obtain ⟨rfl, rfl⟩ := e
    rcases hp with hp | ⟨h1, h2⟩
    · exact h.bas a b ha hb hp
    · rw [h.bas a k ha hk h1, h.bas k b hk hb h2] at hn
      cases hn
  · exact h.nxt a b ha hb (by omega) hp
theorem Wq.line (h : Wq deps n k i n B) : Wq deps n k (i + 1) 0 B := ⟨h.snd, h.bas, fun a b ha hb hab hp => h.nxt a b ha hb (by omega) hp⟩
theorem Wq.phase (h : Wq deps n k n 0 B) : Wq deps n (k + 1) 0 0 B := ⟨h.snd, fun a b ha hb hp => h.nxt a b ha hb (by omega) hp, fun a b _ _ h => by omega⟩
theorem Wq.fin (h : Wq deps n n 0 0 B) (hl : ∀ i, ∀ j ∈ deps i, j < n) (a b : Nat) (ha : a < n) (hb : b < n) : B a b = true ↔ Tc deps a b := ⟨h.snd a b ha hb, fun ht => h.bas a b ha hb (Pk.complete hl ht)⟩
end
end Go.Proofs.Ytbflodefmookiaa.Gr
