/-
  WHAT THE PROGRAM READS IS WHAT THE DOCUMENT READS: plain lists.
-/
import Derived.Test.YtgledabcfonbeaaGreatDoorDfMath
namespace Go.Proofs.YtgledabcfonbeaaGreatDoor.Df
open Go.Proofs.YtgledabcfonbeaaGreatDoor

theorem tok_sep {b : UInt8} (hb : sepB b = true) (r : Bs) : ∀ (p cur : Bs), tok cur (p ++ b :: r) = tok cur p ++ tk b ++ tok [] r
  | [], cur => by
    show tok cur (b :: r) = fl cur ++ tk b ++ tok [] r
    rw [tok.eq_2, if_pos hb]
  | c :: p, cur => by
    rw [List.cons_append, tok, tok]
    by_cases hc : sepB c = true
    · rw [if_pos hc, if_pos hc, tok_sep hb r p []]
      simp
    · rw [if_neg hc, if_neg hc, tok_sep hb r p _]

/-- the tokens of lines -/
def jn : List Bs → List Bs
  | [] => []
  | [x] => tok [] x
  | x :: y :: r => tok [] x ++ [10] :: jn (y :: r)
theorem jn_cons (x : Bs) {L : List Bs} (h : L ≠ []) : jn (x :: L) = tok [] x ++ [10] :: jn L := by
  cases L with
  | nil => exact absurd rfl h
  | cons y r => rfl
theorem splS_ne (c : UInt8) : ∀ (l cur : Bs), splS c cur l ≠ []
  | [], cur => by simp [splS]
  | b :: r, cur => by
    rw [splS]
    split
    · simp
    · exact splS_ne c r _
theorem jn_spl : ∀ (l p : Bs), jn (splS 10 p l) = tok [] (p ++ l)
  | [], p => by rw [splS, List.append_nil]; rfl
  | b :: r, p => by
    rw [splS]
    by_cases hb : b = 10
    · subst hb
      rw [if_pos rfl, jn_cons _ (splS_ne _ _ _), jn_spl r [], tok_sep (by decide)]
      simp [tk]
    · rw [if_neg hb, jn_spl r (p ++ [b])]
      simp
theorem jn_snoc (x : Bs) : ∀ {L : List Bs}, L ≠ [] → jn (L ++ [x]) = jn L ++ [10] :: tok [] x
  | [], h => absurd rfl h
  | [y], _ => rfl
  | y :: z :: r, _ => by
    have h1 := jn_snoc x (L := z :: r) (by simp)
    show tok [] y ++ [10] :: jn ((z :: r) ++ [x]) = (tok [] y ++ [10] :: jn (z :: r)) ++ [10] :: tok [] x
    rw [h1]
    simp
theorem spl_no (c : UInt8) : ∀ (l cur : Bs), c ∉ cur → ∀ x ∈ splS c cur l, c ∉ x
  | [], cur, h, x, hx => by
    rw [splS, List.mem_singleton] at hx
    rw [hx]
    exact h
  | b :: r, cur, h, x, hx => by
    rw [splS] at hx
    split at hx
    · rcases List.mem_cons.1 hx with rfl | hx
      · exact h
      · exact spl_no c r [] (by simp) x hx
    · rename_i hb
      exact spl_no c r _ (by simp [h, Ne.symm hb]) x hx

/-! ### tokens -/
theorem tok_blank : ∀ x : Bs, blank x = true → tok [] x = []
  | [], _ => rfl
  | b :: r, h => by
    unfold blank at h
    rw [List.all_cons, Bool.and_eq_true, beq_iff_eq] at h
    obtain ⟨rfl, h⟩ := h
    rw [tok, if_pos (by decide), tok_blank r h]
    rfl
theorem fl_mem {cur x : Bs} (h : x ∈ fl cur) : x = cur ∧ cur ≠ [] := by
  unfold fl at h
  split at h
  · cases h
  · exact ⟨List.mem_singleton.1 h, by assumption⟩
theorem tok_mem : ∀ (p cur : Bs), 10 ∉ p → 10 ∉ cur → ∀ x ∈ tok cur p, x ≠ [10]
  | [], cur, _, hc, x, hx => by
    rw [tok] at hx
    obtain ⟨rfl, _⟩ := fl_mem hx
    rintro rfl
    exact hc (by simp)
  | b :: r, cur, hp, hc, x, hx => by
    have hb : b ≠ 10 := fun e => hp (by simp [e])
    have hr : 10 ∉ r := fun e => hp (by simp [e])
    rw [tok] at hx
    split at hx
    · rcases List.mem_append.1 hx with hx | hx
      · rcases List.mem_append.1 hx with hx | hx
        · obtain ⟨rfl, _⟩ := fl_mem hx
          rintro rfl
          exact hc (by simp)
        · unfold tk at hx
          split at hx
          · cases hx
          · rw [List.mem_singleton.1 hx]
            simpa using hb
      · exact tok_mem r [] hr (by simp) x hx
    · exact tok_mem r _ hr (by simp [hc, Ne.symm hb]) x hx
theorem tok_cur : ∀ (p cur : Bs), cur ≠ [] → tok cur p ≠ []
  | [], cur, h => by rw [tok, fl, if_neg h]; simp
  | b :: r, cur, h => by
    rw [tok]
    split
    · rw [fl, if_neg h]; simp
    · exact tok_cur r _ (by simp)
theorem tok_some : ∀ x : Bs, blank x = false → tok [] x ≠ []
  | [], h => by simp [blank] at h
  | b :: r, h => by
    rw [tok]
    by_cases hb : b = 32
    · subst hb
      have h : blank r = false := by simpa [blank] using h
      rw [if_pos (by decide)]
      simp [tok_some r h]
    · split
      · simp [tk, hb]
      · exact tok_cur r _ (by simp)

/-! ### lines that do not count, at both ends -/
theorem drop_head {w : List Bs} (h : dropNL w ≠ []) : ∃ x r, dropNL w = x :: r ∧ x ≠ [10] := by
  cases e : dropNL w with
  | nil => exact absurd e h
  | cons x r =>
    refine ⟨x, r, rfl, fun hx => ?_⟩
    have := List.head_dropWhile_not (· == ([10] : Bs)) (l := w) (by show dropNL w ≠ []; exact h)
    have e2 : (List.dropWhile (· == ([10] : Bs)) w) = x :: r := e
    simp only [e2, List.head_cons, hx] at this
    simp at this
theorem drop_jn : ∀ L : List Bs, (∀ x ∈ L, 10 ∉ x) → dropNL (jn L) = jn (L.dropWhile blank)
  | [], _ => rfl
  | [x], h => by
    cases hx : blank x with
    | true => rw [List.dropWhile_cons_of_pos hx]; show dropNL (tok [] x) = _; rw [tok_blank x hx]; rfl
    | false =>
      rw [List.dropWhile_cons_of_neg (by simp [hx])]
      show dropNL (tok [] x) = tok [] x
      cases e : tok [] x with
      | nil => rfl
      | cons y r =>
        have hy := tok_mem x [] (h x (by simp)) (by simp) y (by rw [e]; simp)
        exact List.dropWhile_cons_of_neg (by simpa using hy)
  | x :: y :: L, h => by
    have ih := drop_jn (y :: L) fun z hz => h z (List.mem_cons_of_mem _ hz)
    rw [jn_cons x (by simp)]
    cases hx : blank x with
    | true =>
      rw [List.dropWhile_cons_of_pos hx, ← ih, tok_blank x hx]
      rfl
    | false =>
      rw [List.dropWhile_cons_of_neg (by simp [hx]), jn_cons x (by simp)]
      cases e : tok [] x with
      | nil => exact absurd e (tok_some x hx)
      | cons z r =>
        have hy := tok_mem x [] (h x (by simp)) (by simp) z (by rw [e]; simp)
        exact List.dropWhile_cons_of_neg (by simpa using hy)
theorem trim_jn (L : List Bs) (h : ∀ x ∈ L, 10 ∉ x) : ∀ n, L.length ≤ n → (dropNL (jn L).reverse).reverse = jn (L.reverse.dropWhile blank).reverse := by
  intro n
  induction n generalizing L with
  | zero => intro hn; obtain rfl : L = [] := List.eq_nil_of_length_eq_zero (by omega); rfl
  | succ n ih =>
    intro hn
    rcases List.eq_nil_or_concat L with rfl | ⟨K, x, rfl⟩
    · rfl
    rw [List.concat_eq_append] at h hn ⊢
    have hx10 := h x (by simp)
    have hK : ∀ y ∈ K, 10 ∉ y := fun y hy => h y (by simp [hy])
    rw [List.reverse_append, List.reverse_singleton, List.singleton_append]
    have hne : ∀ {z : Bs} {r : List Bs}, tok [] x = r ++ [z] → z ≠ [10] := fun e => tok_mem x [] hx10 (by simp) _ (by rw [e]; simp)
    cases hx : blank x with
    | true =>
      rw [List.dropWhile_cons_of_pos hx, ← ih K hK (by simp at hn; omega)]
      by_cases hk : K = []
      · subst hk
        show (dropNL (tok [] x).reverse).reverse = _
        rw [tok_blank x hx]
        rfl
      · rw [jn_snoc x hk, tok_blank x hx, List.reverse_append]
        rfl
    | false =>
      rw [List.dropWhile_cons_of_neg (by simp [hx]), List.reverse_cons, List.reverse_reverse]
      rcases List.eq_nil_or_concat (tok [] x) with e | ⟨r, z, e⟩
      · exact absurd e (tok_some x hx)
      rw [List.concat_eq_append] at e
      have hz := hne e
      have key : ∀ A : List Bs, (dropNL (A ++ (r ++ [z])).reverse).reverse = A ++ (r ++ [z]) := fun A => by
        rw [← List.append_assoc, List.reverse_append, List.reverse_singleton, List.singleton_append]
        unfold dropNL
        rw [List.dropWhile_cons_of_neg (by simpa using hz), List.reverse_cons, List.reverse_reverse]
      by_cases hk : K = []
      · subst hk
        show (dropNL (tok [] x).reverse).reverse = tok [] x
        rw [e]
        exact key []
      · rw [jn_snoc x hk, e]
        have := key (jn K ++ [[10]])
        simpa using this
/-- the lines that count, and those between them -/
def core (L : List Bs) : List Bs := ((L.dropWhile blank).reverse.dropWhile blank).reverse
theorem trim_core (L : List Bs) (h : ∀ x ∈ L, 10 ∉ x) : trimNL (jn L) = jn (core L) := by
  unfold trimNL core
  rw [drop_jn L h]
  exact trim_jn _ (fun x hx => h x (List.dropWhile_subset _ hx)) _ (Nat.le_refl _)

theorem filter_drop (L : List Bs) : (L.dropWhile blank).filter (fun l => !blank l) = L.filter (fun l => !blank l) := by
  induction L with
  | nil => rfl
  | cons x L ih =>
    cases hx : blank x with
    | true => rw [List.dropWhile_cons_of_pos hx, ih, List.filter_cons_of_neg (by simp [hx])]
    | false => rw [List.dropWhile_cons_of_neg (by simp [hx])]
theorem filter_core (L : List Bs) : (core L).filter (fun l => !blank l) = L.filter (fun l => !blank l) := by
  unfold core
  rw [List.filter_reverse, filter_drop, List.filter_reverse, filter_drop, List.reverse_reverse]
theorem dw_nil {α : Type} {p : α → Bool} : ∀ {l : List α}, l.dropWhile p = [] → ∀ x ∈ l, p x = true
  | [], _, x, hx => by cases hx
  | a :: l, h, x, hx => by
    cases ha : p a with
    | false => rw [List.dropWhile_cons_of_neg (by simp [ha])] at h; cases h
    | true =>
      rw [List.dropWhile_cons_of_pos ha] at h
      rcases List.mem_cons.1 hx with rfl | hx
      · exact ha
      · exact dw_nil h x hx
theorem core_ends (L : List Bs) : core L = [] ∨ ∃ x, blank x = false ∧ (core L = [x] ∨ ∃ M y, blank y = false ∧ core L = x :: (M ++ [y])) := by
  unfold core
  generalize hK : L.dropWhile blank = K
  have hhead : ∀ x r, K = x :: r → blank x = false := fun x r e => by
    have := List.head_dropWhile_not blank (l := L) (by rw [hK, e]; simp)
    simp only [hK, e, List.head_cons] at this
    exact this
  cases K with
  | nil => exact .inl rfl
  | cons x r =>
    have hx := hhead x r rfl
    right
    refine ⟨x, hx, ?_⟩
    rcases List.eq_nil_or_concat ((x :: r).reverse.dropWhile blank).reverse with e | ⟨M, y, e⟩
    · have e2 : (x :: r).reverse.dropWhile blank = [] := by simpa using e
      have := dw_nil e2 x (by simp)
      rw [hx] at this
      cases this
    · rw [List.concat_eq_append] at e
      have hy : blank y = false := by
        have e3 : (x :: r).reverse.dropWhile blank = y :: M.reverse := by
          have := congrArg List.reverse e
          simpa using this
        have := List.head_dropWhile_not blank (l := (x :: r).reverse) (by rw [e3]; simp)
        simp only [e3, List.head_cons] at this
        exact this
      have hpre : M ++ [y] <+: x :: r := by
        have h1 : (x :: r).reverse.dropWhile blank <:+ (x :: r).reverse := List.dropWhile_suffix _
        have h2 := List.reverse_prefix.2 h1
        rw [e, List.reverse_reverse] at h2
        exact h2
      rw [e]
      cases M with
      | nil =>
        left
        obtain ⟨t, ht⟩ := hpre
        have : y = x := by simpa using congrArg List.head? ht
        rw [this]
        rfl
      | cons m M =>
        right
        obtain ⟨t, ht⟩ := hpre
        have : m = x := by simpa using congrArg List.head? ht
        exact ⟨M, y, hy, by rw [this]; rfl⟩
theorem trim_head (w : List Bs) {x : Bs} {r : List Bs} (h : trimNL w = x :: r) : x ≠ [10] := by
  unfold trimNL at h
  by_cases hd : dropNL w = []
  · rw [hd] at h; simp [dropNL] at h
  obtain ⟨y, t, e, hy⟩ := drop_head hd
  have h2 : dropNL (dropNL w).reverse = r.reverse ++ [x] := by
    have := congrArg List.reverse h
    simpa using this
  have h1 : dropNL (dropNL w).reverse <:+ (dropNL w).reverse := List.dropWhile_suffix _
  rw [h2, e, List.reverse_cons] at h1
  obtain ⟨u, hu⟩ := h1
  have hu2 : (u ++ r.reverse) ++ [x] = t.reverse ++ [y] := by simpa using hu
  have := (List.append_inj' hu2 rfl).2
  have : x = y := by simpa using this
  rw [this]
  exact hy
theorem tell_nl {w : List Bs} (h10 : [10] ∈ w) (hh : ∀ x r, w = x :: r → x ≠ [10]) : tellW w = none := by
  match w, h10, hh with
  | [], h, _ => rfl
  | [x], _, _ => rfl
  | o :: c :: ds, h, hh =>
    unfold tellW
    have ho := hh o _ rfl
    refine if_neg fun e => ?_
    rcases List.mem_cons.1 h with h | h
    · exact ho h.symm
    rcases List.mem_cons.1 h with h | h
    · rw [e.2.1] at h; simp at h
    · have := List.all_eq_true.1 e.2.2.2 _ h
      simp [okTok] at this
end Go.Proofs.YtgledabcfonbeaaGreatDoor.Df
