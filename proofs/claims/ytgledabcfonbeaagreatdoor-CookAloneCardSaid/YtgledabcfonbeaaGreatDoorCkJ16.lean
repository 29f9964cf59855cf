/-
  Lines, one by one, as the document's Puts goes through them: no world.
-/
import Derived.Test.YtgledabcfonbeaaGreatDoorCkJ15
namespace Go.Proofs.YtgledabcfonbeaaGreatDoor.Df
open Go.Proofs.YtgledabcfonbeaaGreatDoor

theorem line_parts (r : Bs) : ∃ p, (10 : UInt8) ∉ p ∧ ((∃ q, r = p ++ 10 :: q ∧ linesA r = (p ++ [10]) :: linesA q) ∨ (r = p ∧ linesA r = [p])) := by
  by_cases h : (10 : UInt8) ∈ r
  · obtain ⟨p, q, e, hp⟩ := List.eq_append_cons_of_mem h
    exact ⟨p, hp, .inl ⟨q, e, by rw [e, linesA_at p q hp]⟩⟩
  · exact ⟨r, h, .inr ⟨rfl, linesA_none r h⟩⟩
theorem pre_nl (p : Bs) : incP.isPrefixOf (p ++ [10]) = incP.isPrefixOf p := by
  apply Bool.eq_iff_iff.2
  rw [List.isPrefixOf_iff_prefix, List.isPrefixOf_iff_prefix]
  constructor
  · rintro ⟨t, ht⟩
    rcases List.eq_nil_or_concat t with rfl | ⟨t2, x, rfl⟩
    · exfalso
      rw [List.append_nil] at ht
      have := congrArg List.getLast? ht
      rw [List.getLast?_append] at this
      simp [incP] at this
    · rw [List.concat_eq_append, ← List.append_assoc] at ht
      exact ⟨t2, (List.append_inj' ht rfl).1⟩
  · rintro ⟨t, ht⟩
    exact ⟨t ++ [10], by rw [← List.append_assoc, ht]⟩
theorem cutP_nl (p : Bs) : cutP (p ++ [10]) = (cutP p).map (· ++ [10]) := by
  unfold cutP
  rw [pre_nl]
  cases hq : incP.isPrefixOf p with
  | false => rfl
  | true =>
    obtain ⟨t, rfl⟩ := List.isPrefixOf_iff_prefix.1 hq
    show some ((incP ++ t ++ [10]).drop 9) = some ((incP ++ t).drop 9 ++ [10])
    rw [List.append_assoc, show (9 : Nat) = incP.length from rfl, List.drop_left, List.drop_left]
theorem trimE_nl (x : Bs) : trimE (x ++ [10]) = x := by
  unfold trimE
  rw [if_pos (by rw [List.getLast?_append]; rfl), List.dropLast_concat]
theorem trimE_no {x : Bs} (h : (10 : UInt8) ∉ x) : trimE x = x := by
  unfold trimE
  rw [if_neg]
  intro e
  exact h (List.mem_of_getLast? e)
theorem cutP_sub {p x : Bs} (h : cutP p = some x) : (∀ c, c ∈ x → c ∈ p) ∧ x.length ≤ p.length := by
  unfold cutP at h
  split at h
  · cases h
    exact ⟨fun c hc => List.mem_of_mem_drop hc, by rw [List.length_drop]; omega⟩
  · cases h

/-- a line l, whose bytes ahead of its newline are p -/
def lineR (F : Bs → Option Bs) (f : Option (Bs → Kst → Option Kst)) (p l : Bs) (s : Kst) : Option Kst :=
  match cutP p with
  | none => (growO s.whole l).map fun w => ⟨w, s.n, s.found⟩
  | some nm => match f with
    | none => none
    | some f => (inclO F nm s).bind fun q => f q.1 q.2
theorem lineR_nl {F : Bs → Option Bs} {f : Option (Bs → Kst → Option Kst)} (p : Bs) (s : Kst) : lineO F f (p ++ [10]) s = lineR F f p (p ++ [10]) s := by
  unfold lineO lineR
  rw [cutP_nl]
  cases cutP p with
  | none => rfl
  | some x =>
    cases f with
    | none => rfl
    | some f =>
      show (inclO F (trimE (x ++ [10])) s).bind _ = _
      rw [trimE_nl]
theorem lineR_no {F : Bs → Option Bs} {f : Option (Bs → Kst → Option Kst)} {p : Bs} (hp : (10 : UInt8) ∉ p) (s : Kst) : lineO F f p s = lineR F f p p s := by
  unfold lineO lineR
  cases hc : cutP p with
  | none => rfl
  | some x =>
    cases f with
    | none => rfl
    | some f =>
      show (inclO F (trimE x) s).bind _ = _
      rw [trimE_no (fun h => hp ((cutP_sub hc).1 _ h))]
/-- where the lines stand -/
def PS (F : Bs → Option Bs) (f : Option (Bs → Kst → Option Kst)) (b : Bs) (i : Nat) (cur t : Kst) : Prop := (i < b.length → foldO (lineO F f) (linesA (b.drop i)) cur = some t) ∧ (¬ i < b.length → cur = t)
theorem foldO_nil {F : Bs → Option Bs} {f : Option (Bs → Kst → Option Kst)} {cur t : Kst} (h : foldO (lineO F f) (linesA []) cur = some t) : cur = t := by
  have h2 : (growO cur.whole []).map (fun w => (⟨w, cur.n, cur.found⟩ : Kst)) = some t := by
    have h3 : (lineO F f [] cur).bind (foldO (lineO F f) []) = some t := h
    have h4 : lineO F f [] cur = (growO cur.whole []).map fun w => (⟨w, cur.n, cur.found⟩ : Kst) := rfl
    rw [h4] at h3
    cases hg : growO cur.whole [] with
    | none => rw [hg] at h3; cases h3
    | some w => rw [hg] at h3; exact h3
  unfold growO at h2
  split at h2
  · rw [List.append_nil] at h2
    cases h2
    rfl
  · cases h2
theorem PS.start {F : Bs → Option Bs} {f : Option (Bs → Kst → Option Kst)} {b : Bs} {cur t : Kst} (h : foldO (lineO F f) (linesA b) cur = some t) : PS F f b 0 cur t := by
  refine ⟨fun _ => h, fun h0 => ?_⟩
  have : b = [] := List.eq_nil_of_length_eq_zero (by omega)
  rw [this] at h
  exact foldO_nil h
theorem foldO_one {S : Type} {f : Bs → S → Option S} {l : Bs} {L : List Bs} {s t : S} (h : foldO f (l :: L) s = some t) : ∃ u, f l s = some u ∧ foldO f L u = some t := by
  rw [foldO] at h
  cases hu : f l s with
  | none => rw [hu] at h; cases h
  | some u => rw [hu] at h; exact ⟨u, rfl, h⟩
theorem PS.next {F : Bs → Option Bs} {f : Option (Bs → Kst → Option Kst)} {b : Bs} {i : Nat} {cur t : Kst} (hi : i < b.length) (h : PS F f b i cur t) :
    ∃ (m : Nat) (p : Bs) (cur' : Kst), i ≤ m ∧ m ≤ b.length ∧ (b.take m).drop i = p ∧ (∀ j x, i ≤ j → j < m → b[j]? = some x → x ≠ 10) ∧ (m < b.length → b[m]? = some 10) ∧
      lineR F f p ((b.take (min (m + 1) b.length)).drop i) cur = some cur' ∧ PS F f b (min (m + 1) b.length) cur' t := by
  have h0 := h.1 hi
  obtain ⟨p, hp, hc⟩ := line_parts (b.drop i)
  have hlen : (b.drop i).length = b.length - i := List.length_drop
  have hat : ∀ j x, i ≤ j → b[j]? = some x → (b.drop i)[j - i]? = some x := fun j x hij hx => by
    rw [List.getElem?_drop, show i + (j - i) = j by omega]
    exact hx
  rcases hc with ⟨q, e, el⟩ | ⟨e, el⟩
  · have hl : p.length + 1 + q.length = b.length - i := by rw [← hlen, e]; simp; omega
    have hd : b.drop (i + p.length + 1) = q := by
      have h1 : b.drop (i + p.length + 1) = (b.drop i).drop (p.length + 1) := by rw [List.drop_drop, Nat.add_assoc]
      rw [h1, e, show p ++ 10 :: q = (p ++ [10]) ++ q by simp, show p.length + 1 = (p ++ [10]).length by simp, List.drop_left]
    have htk : ∀ k, (b.take (i + k)).drop i = (b.drop i).take k := fun k => by rw [List.drop_take]; congr 1; omega
    rw [el] at h0
    obtain ⟨u, hu, h1⟩ := foldO_one h0
    rw [lineR_nl] at hu
    refine ⟨i + p.length, p, u, by omega, by omega, ?_, ?_, ?_, ?_, ?_⟩
    · rw [htk, e, List.take_left]
    · intro j x h1 h2 h3 h4
      have := hat j x h1 h3
      rw [e, List.getElem?_append_left (by omega), h4] at this
      exact hp (List.mem_of_getElem? this)
    · intro _
      have h5 : (b.drop i)[p.length]? = some 10 := by rw [e, List.getElem?_append_right (Nat.le_refl _), Nat.sub_self]; rfl
      rw [List.getElem?_drop] at h5
      exact h5
    · rw [Nat.min_eq_left (by omega), show i + p.length + 1 = i + (p.length + 1) by omega, htk, e, show p ++ 10 :: q = (p ++ [10]) ++ q by simp, show p.length + 1 = (p ++ [10]).length by simp, List.take_left]
      exact hu
    · rw [Nat.min_eq_left (by omega)]
      refine ⟨fun _ => by rw [hd]; exact h1, fun h2 => ?_⟩
      have hq : q = [] := List.eq_nil_of_length_eq_zero (by omega)
      rw [hq] at h1
      exact foldO_nil h1
  · have hl : p.length = b.length - i := by rw [← hlen, e]
    rw [el] at h0
    obtain ⟨u, hu, h1⟩ := foldO_one h0
    have h1 : u = t := by cases h1; rfl
    rw [lineR_no hp] at hu
    refine ⟨b.length, p, u, by omega, Nat.le_refl _, ?_, ?_, fun h => absurd h (by omega), ?_, ?_⟩
    · rw [List.take_length, e]
    · intro j x h1 h2 h3 h4
      have := hat j x h1 h3
      rw [e, h4] at this
      exact hp (List.mem_of_getElem? this)
    · rw [Nat.min_eq_right (by omega), List.take_length, e]
      exact hu
    · rw [Nat.min_eq_right (by omega)]
      exact ⟨fun h => absurd h (by omega), fun _ => h1⟩
end Go.Proofs.YtgledabcfonbeaaGreatDoor.Df

/-! What the verbs make, where they do not fail: no world. -/
namespace Go.Proofs.YtgledabcfonbeaaGreatDoor.Df
open Go.RowKit Go.Maps Go.Proofs.YtgledabcfonbeaaGreatDoor

theorem joinS_snoc (x : Bs) : ∀ K : List Bs, K ≠ [] → joinS (K ++ [x]) = joinS K ++ 32 :: x
  | [], h => absurd rfl h
  | [p], _ => by
    show joinS (p :: x :: []) = _
    rw [joinS_cons, joinS_one, joinS_one]
  | p :: q :: r, _ => by
    have ih := joinS_snoc x (q :: r) (by simp)
    show joinS (p :: q :: (r ++ [x])) = _
    rw [joinS_cons, joinS_cons]
    have : joinS (q :: (r ++ [x])) = joinS (q :: r) ++ 32 :: x := ih
    rw [this]
    simp
theorem cat_all {decl : List Bs} {F : Bs → Option Bs} : ∀ (A : List Bs) (s b : Bs), catO decl F A s = some b → allO decl F A s = some b := fun A s b h =>
  foldO_mono A s b (fun a _ s u hu => by
    cases hx : argO decl F a with
    | none => rw [hx] at hu; cases hu
    | some y =>
      rw [hx] at hu
      have h2 : growO s y = some u := hu
      unfold growO at h2
      split at h2
      · cases h2; rfl
      · cases h2) h
theorem one_all {decl : List Bs} {F : Bs → Option Bs} {a x : Bs} (h : argO decl F a = some x) : allO decl F [a] [] = some x := by
  unfold allO
  rw [foldO, h]
  rfl
theorem grow_nil {x r : Bs} (h : growO [] x = some r) : r = x := by
  unfold growO at h
  split at h
  · cases h; rfl
  · cases h
/-- a verb that did not fail -/
theorem done_cases {H : Bs → Bs} {decl : List Bs} {F : Bs → Option Bs} {verb : Bs} {A : List Bs} {b : Bs} {f : List Bs} (h : doneO H decl F verb A = some (b, f)) :
    (verb = wCat ∧ allO decl F A [] = some b ∧ f = []) ∨ (verb = wRev ∧ ∃ a x, A = [a] ∧ allO decl F A [] = some x ∧ b = x.reverse ∧ f = []) ∨ (verb = wSum ∧ A ≠ [] ∧ ∃ x, allO decl F A [] = some x ∧ b = H x ∧ f = []) ∨
    (verb = wPut ∧ b = joinS A ++ [10] ∧ f = []) ∨ (verb = wInc ∧ ∃ a x t, A = [a] ∧ allO decl F A [] = some x ∧ putO F 10 x ⟨[], 0, []⟩ = some t ∧ b = t.whole ∧ f = t.found) := by
  have mapS : ∀ {o : Option Bs}, o.map (fun r => (r, ([] : List Bs))) = some (b, f) → o = some b ∧ f = [] := by
    intro o h
    cases o with
    | none => cases h
    | some r => cases h; exact ⟨rfl, rfl⟩
  unfold doneO at h
  split at h
  · obtain ⟨h1, h2⟩ := mapS h
    exact .inl ⟨‹_›, cat_all A [] b h1, h2⟩
  split at h
  · obtain ⟨h1, h2⟩ := mapS h
    refine .inr (.inl ⟨‹_›, ?_⟩)
    unfold revO at h1
    split at h1
    · rename_i a
      cases hx : argO decl F a with
      | none => rw [hx] at h1; cases h1
      | some x =>
        rw [hx] at h1
        have h3 : (growO [] x).map List.reverse = some b := h1
        cases hg : growO [] x with
        | none => rw [hg] at h3; cases h3
        | some r =>
          rw [hg, grow_nil hg] at h3
          cases h3
          exact ⟨a, x, rfl, one_all hx, rfl, h2⟩
    · cases h1
  split at h
  · obtain ⟨h1, h2⟩ := mapS h
    refine .inr (.inr (.inl ⟨‹_›, ?_⟩))
    unfold sumO at h1
    split at h1
    · cases h1
    · rename_i hne
      cases hx : allO decl F A [] with
      | none => rw [hx] at h1; cases h1
      | some x => rw [hx] at h1; cases h1; exact ⟨hne, x, rfl, rfl, h2⟩
  split at h
  · obtain ⟨h1, h2⟩ := mapS h
    exact .inr (.inr (.inr (.inl ⟨‹_›, grow_nil h1, h2⟩)))
  split at h
  · refine .inr (.inr (.inr (.inr ⟨‹_›, ?_⟩)))
    unfold incO at h
    split at h
    · rename_i a
      cases hx : argO decl F a with
      | none => rw [hx] at h; cases h
      | some x =>
        rw [hx] at h
        cases hq : putO F 10 x ⟨[], 0, []⟩ with
        | none => simp only [Option.bind_some, hq] at h; cases h
        | some t =>
          simp only [Option.bind_some, hq] at h
          cases h
          exact ⟨a, x, t, rfl, one_all hx, hq, rfl, rfl⟩
    · cases h
  · cases h
/-- the files so far -/
theorem all_at {decl : List Bs} {F : Bs → Option Bs} {A : List Bs} {all acc a : Bs} {j : Nat} (h : allO decl F A [] = some all) (hx : A[j]? = some a) (hj : allO decl F (A.take j) [] = some acc) :
    ∃ own, F a = some own ∧ decl.contains a = true ∧ allO decl F (A.take (j + 1)) [] = some (acc ++ own) := by
  have hs : allO decl F (A.take (j + 1)) [] = (argO decl F a).map fun b => acc ++ b := foldO_snoc hx hj
  cases ha : argO decl F a with
  | none =>
    rw [ha] at hs
    have : allO decl F A [] = none := foldO_fail (j := j + 1) hs
    rw [h] at this
    cases this
  | some own =>
    rw [ha] at hs
    unfold argO at ha
    split at ha
    · exact ⟨own, ha, ‹_›, hs⟩
    · cases ha
end Go.Proofs.YtgledabcfonbeaaGreatDoor.Df
