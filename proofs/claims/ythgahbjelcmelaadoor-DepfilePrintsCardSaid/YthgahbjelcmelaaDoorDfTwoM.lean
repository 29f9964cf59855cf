/-
  WHAT STANDS BEHIND A TEXT THAT TELLS SOMETHING: plain lists.
-/
import Derived.Test.YthgahbjelcmelaaDoorDfParse
namespace Go.Proofs.YthgahbjelcmelaaDoor.Df
open Go.Proofs.YthgahbjelcmelaaDoor

theorem rep_app : ∀ (t u : Bs), ¬ (t.getLast? = some 92 ∧ u.head? = some 10) → rep (t ++ u) = rep t ++ rep u := by
  intro t
  induction t using rep.induct with
  | case1 => intro u _; rfl
  | case2 c =>
    intro u h
    show rep (c :: u) = c :: rep u
    exact rep_no fun e => h ⟨by rw [e.1]; rfl, e.2⟩
  | case3 c d r hcd ih =>
    intro u h
    obtain ⟨rfl, rfl⟩ := hcd
    show rep (92 :: 10 :: (r ++ u)) = _
    rw [rep_hit, rep_hit, ih u]
    · rfl
    · rintro ⟨h1, h2⟩
      refine h ⟨?_, h2⟩
      cases r with
      | nil => cases h1
      | cons x r => rw [List.getLast?_cons_cons, List.getLast?_cons_cons]; exact h1
  | case4 c d r hcd ih =>
    intro u h
    have hno : ¬ (c = 92 ∧ (d :: r).head? = some 10) := fun e => hcd ⟨e.1, Option.some.inj e.2⟩
    have hno2 : ¬ (c = 92 ∧ (d :: (r ++ u)).head? = some 10) := fun e => hcd ⟨e.1, Option.some.inj e.2⟩
    show rep (c :: d :: (r ++ u)) = _
    rw [rep_no hno, rep_no hno2]
    have := ih u fun e => h ⟨by rw [List.getLast?_cons_cons]; exact e.1, e.2⟩
    show c :: rep (d :: (r ++ u)) = c :: rep (d :: r) ++ rep u
    rw [List.cons_append, ← this]
    rfl

theorem spl_snoc (c : UInt8) {v : Bs} (hv : c ∉ v) : ∀ (x cur : Bs), ∃ I l, splS c cur x = I ++ [l] ∧ splS c cur (x ++ v) = I ++ [l ++ v]
  | [], cur => ⟨[], cur, rfl, by rw [List.nil_append, splS_plain c v cur hv]; rfl⟩
  | b :: r, cur => by
    rw [List.cons_append, splS, splS]
    by_cases hb : b = c
    · obtain ⟨I, l, h1, h2⟩ := spl_snoc c hv r []
      rw [if_pos hb, if_pos hb, h1, h2]
      exact ⟨cur :: I, l, rfl, rfl⟩
    · obtain ⟨I, l, h1, h2⟩ := spl_snoc c hv r (cur ++ [b])
      rw [if_neg hb, if_neg hb]
      exact ⟨I, l, h1, h2⟩
theorem spl_more (c : UInt8) (v : Bs) : ∀ (x cur : Bs), splS c cur (x ++ c :: v) = splS c cur x ++ splS c [] v
  | [], cur => by
    show (if c = c then cur :: splS c [] v else splS c (cur ++ [c]) v) = [cur] ++ splS c [] v
    rw [if_pos rfl]
    rfl
  | b :: r, cur => by
    rw [List.cons_append, splS, splS]
    by_cases hb : b = c
    · rw [if_pos hb, if_pos hb, spl_more c v r []]; rfl
    · rw [if_neg hb, if_neg hb, spl_more c v r _]
theorem first_at {c : UInt8} {a b a' b' : Bs} (h : a ++ c :: b = a' ++ c :: b') (h1 : c ∉ a) (h2 : c ∉ a') : a = a' ∧ b = b' := by
  have key : ∀ x y : Bs, c ∉ x → (x ++ c :: y).takeWhile (· != c) = x := fun x y hx => by
    rw [List.takeWhile_append_of_pos (fun z hz => by simp; rintro rfl; exact hx hz)]
    simp
  have e : a = a' := by rw [← key a b h1, ← key a' b' h2, h]
  subst e
  exact ⟨rfl, by simpa using h⟩
theorem cutB_at {c : UInt8} {a b : Bs} (h : c ∉ a) : cutB c (a ++ c :: b) = some (a, b) := by
  obtain ⟨a', b', h1, h2, h3⟩ := cutB_some (c := c) (l := a ++ c :: b) (by simp)
  obtain ⟨rfl, rfl⟩ := first_at h2 h h3
  exact h1
theorem words_blank : ∀ (b cur r : Bs), words cur (b ++ 32 :: r) = words cur b ++ words [] r
  | [], cur, r => by
    show words cur (32 :: r) = fl cur ++ words [] r
    rw [words, if_pos rfl]
  | x :: b, cur, r => by
    rw [List.cons_append, words, words]
    split
    · rw [words_blank b [] r]; simp
    · exact words_blank b _ r
theorem cleanAll_bad {ws : List Bs} {x : Bs} (h : x ∈ ws) (hx : (cleanL x).2 ≠ 0) : cleanAll ws = none := by
  unfold cleanAll
  refine if_neg fun e => ?_
  exact hx (of_decide_eq_true (List.all_eq_true.1 e x h))
theorem tellA_bad {a b x : Bs} (h : x ∈ words [] b) (hx : (cleanL x).2 ≠ 0) : tellA a b = none := by
  show pairP (cleanAll (words [] a)) (cleanAll (words [] b)) = none
  rw [cleanAll_bad h hx]
  match cleanAll (words [] a) with
  | none => rfl
  | some [] => rfl
  | some [_] => rfl
  | some (_ :: _ :: _) => rfl
theorem tellA_badA {a b x : Bs} (h : x ∈ words [] a) (hx : (cleanL x).2 ≠ 0) : tellA a b = none := by
  show pairP (cleanAll (words [] a)) (cleanAll (words [] b)) = none
  rw [cleanAll_bad h hx]
  rfl

/-- a text that tells something -/
theorem parse_some {t : Bs} (h : parseP t ≠ none) : ∃ line a b, nb (splS 10 [] (rep t)) = [line] ∧ line = a ++ 58 :: b ∧ 58 ∉ a ∧ tellA a b ≠ none ∧ blank line = false := by
  unfold parseP at h
  split at h
  · exact absurd rfl h
  have hL : tellL (onlyL (splS 10 [] (rep t))) ≠ none := h
  have hon : onlyL (splS 10 [] (rep t)) ≠ [] := fun e => by rw [e] at hL; exact hL rfl
  match hn : nb (splS 10 [] (rep t)) with
  | [] => exact absurd (by rw [only_le (by rw [hn]; simp), hn]; rfl) hon
  | x :: y :: r => exact absurd (only_ge (by rw [hn]; simp)) hon
  | [line] =>
    have e : onlyL (splS 10 [] (rep t)) = line := by rw [only_le (by rw [hn]; simp), hn]; rfl
    rw [e] at hL
    unfold tellL at hL
    by_cases h58 : 58 ∈ line
    · obtain ⟨a, b, h1, h2, h3⟩ := cutB_some h58
      rw [h1] at hL
      have hm : line ∈ nb (splS 10 [] (rep t)) := by rw [hn]; simp
      unfold nb at hm
      exact ⟨line, a, b, rfl, h2, h3, hL, by simpa using (List.mem_filter.1 hm).2⟩
    · rw [cutB_none h58] at hL
      exact absurd rfl hL

/-- .. and something behind its last line -/
theorem two_line {t v : Bs} (h : parseP t ≠ none) (hr : rep (t ++ v) = rep t ++ v) (hv : 10 ∉ v) (hb : blank v = false) (hbad : ∀ a b, tellA a (b ++ v) = none) : parseP (t ++ v) = none := by
  obtain ⟨line, a, b, h1, h2, h3, h4, h5⟩ := parse_some h
  obtain ⟨I, l, e1, e2⟩ := spl_snoc 10 hv (rep t) []
  unfold parseP
  split
  · rfl
  rw [hr, e2]
  show tellL (onlyL (I ++ [l ++ v])) = none
  rw [e1, nb_snoc] at h1
  have hbl : blank (l ++ v) = false := by
    unfold blank at hb ⊢
    rw [List.all_append, hb, Bool.and_false]
  have hn : nb (I ++ [l ++ v]) = nb I ++ [l ++ v] := by rw [nb_snoc, hbl]; rfl
  cases hl : blank l with
  | true =>
    rw [hl, if_pos rfl, List.append_nil] at h1
    rw [only_ge (by rw [hn, h1]; simp)]
    rfl
  | false =>
    rw [hl, if_neg (by simp)] at h1
    have hI : nb I = [] := by
      cases hi : nb I with
      | nil => rfl
      | cons x r => rw [hi] at h1; simp at h1
    rw [hI] at h1 hn
    have hll : l = line := by simpa using h1
    have e3 : onlyL (I ++ [l ++ v]) = a ++ 58 :: (b ++ v) := by
      rw [only_le (by rw [hn]; simp), hn, hll, h2]
      simp
    rw [e3]
    unfold tellL
    rw [cutB_at h3]
    exact hbad a b

theorem two_nl {t : Bs} (h : parseP t ≠ none) : parseP (t ++ [10, 120]) = none := by
  obtain ⟨line, a, b, h1, h2, h3, h4, h5⟩ := parse_some h
  have hlast : t.getLast? ≠ some 92 := fun e => by
    obtain ⟨t', rfl⟩ : ∃ t', t = t' ++ [92] := by
      rcases List.eq_nil_or_concat t with rfl | ⟨K, x, rfl⟩
      · cases e
      · rw [List.concat_eq_append, List.getLast?_concat] at e
        cases e
        exact ⟨K, List.concat_eq_append⟩
    have hr : rep (t' ++ [92]) = rep t' ++ [92] := rep_app t' [92] (fun e => by have := e.2; simp at this)
    obtain ⟨I, l, e1, e2⟩ := spl_snoc 10 (v := [92]) (by decide) (rep t') []
    rw [hr, e2, nb_snoc] at h1
    have hbl : blank (l ++ [92]) = false := by
      unfold blank
      rw [List.all_append]
      simp
    rw [hbl, if_neg (by simp)] at h1
    have hll : line = l ++ [92] := by
      cases hi : nb I with
      | nil => rw [hi] at h1; simpa using h1.symm
      | cons x r => rw [hi] at h1; simp at h1
    have hm : (92 : UInt8) ∈ a ++ 58 :: b := by rw [← h2, hll]; simp
    rcases List.mem_append.1 hm with hm | hm
    · obtain ⟨x, hx, hc⟩ := words_has (c := 92) (by decide) a [] (.inr hm)
      exact h4 (tellA_badA hx (clean_bad hc (by decide)))
    · have hm : (92 : UInt8) ∈ b := by simpa using hm
      obtain ⟨x, hx, hc⟩ := words_has (c := 92) (by decide) b [] (.inr hm)
      exact h4 (tellA_bad hx (clean_bad hc (by decide)))
  have hr : rep (t ++ [10, 120]) = rep t ++ 10 :: [120] := rep_app t [10, 120] (fun e => hlast e.1)
  unfold parseP
  split
  · rfl
  rw [hr, spl_more]
  show tellL (onlyL (splS 10 [] (rep t) ++ [[120]])) = none
  rw [only_ge (by
    rw [nb_snoc, h1]
    simp [blank])]
  rfl
theorem two_colon {t : Bs} (h : parseP t ≠ none) : parseP (t ++ [32, 121, 58, 32, 122]) = none :=
  two_line h (rep_app t _ (fun e => by have := e.2; simp at this)) (by decide) (by decide) fun a b => by
    obtain ⟨x, hx, hc⟩ := words_has (c := 58) (by decide) (b ++ [32, 121, 58, 32, 122]) [] (.inr (by simp))
    exact tellA_bad hx (clean_bad hc (by decide))
theorem two_slash {t : Bs} (h : parseP t ≠ none) : parseP (t ++ [32, 47, 121]) = none :=
  two_line h (rep_app t _ (fun e => by have := e.2; simp at this)) (by decide) (by decide) fun a b => by
    refine tellA_bad (x := [47, 121]) ?_ (by decide)
    rw [words_blank]
    exact List.mem_append_right _ (by decide)
theorem some_0 : parseP [] = none := by decide
theorem some_1 : parseP [97, 32, 98] = none := by decide
theorem some_2 : parseP [58, 32, 97] = none := by decide
theorem some_3 : parseP [111, 58, 32, 97, 32, 92, 10, 32, 98, 47, 46, 46, 47, 99] = some ([111], [[97], [99]]) := by decide
end Go.Proofs.YthgahbjelcmelaaDoor.Df
