/-
  DEPFILES AS LISTS OF BYTES: lines, words, names; what a text tells. No program, no world.
-/
import Derived.Test.YtgledabcfonbeaaGreatDoorPaMath
import Derived.Lib.Replace
import Derived.Lib.TrimByte
namespace Go.Proofs.YtgledabcfonbeaaGreatDoor.Df
open Go.Proofs.YtgledabcfonbeaaGreatDoor

/-! ### broken lines, put together -/
def rep : Bs → Bs
  | [] => []
  | [c] => [c]
  | c :: d :: r => if c = 92 ∧ d = 10 then 32 :: rep r else c :: rep (d :: r)

theorem rep_hit (r : Bs) : rep (92 :: 10 :: r) = 32 :: rep r := by rw [rep, if_pos ⟨rfl, rfl⟩]
theorem rep_no {c : UInt8} {r : Bs} (h : ¬ (c = 92 ∧ r.head? = some 10)) : rep (c :: r) = c :: rep r := by
  cases r with
  | nil => rfl
  | cons d r => rw [rep, if_neg (fun e => h ⟨e.1, by simp [e.2]⟩)]

theorem occ0 (c : UInt8) (r : Bs) : Lib.occAt (c :: r) [92, 10] 0 = decide (c = 92 ∧ r.head? = some 10) := by
  unfold Lib.occAt
  cases r with
  | nil => simp [List.isPrefixOf]
  | cons d r =>
    show ((92 : UInt8) == c && ((10 : UInt8) == d && true)) = _
    rw [Bool.and_true, Bool.eq_iff_iff, Bool.and_eq_true, beq_iff_eq, beq_iff_eq, decide_eq_true_iff]
    show (92 : UInt8) = c ∧ (10 : UInt8) = d ↔ c = 92 ∧ some d = some 10
    rw [Option.some.injEq, eq_comm, @eq_comm _ (10 : UInt8)]
theorem occS (c : UInt8) (r : Bs) (j : Nat) : Lib.occAt (c :: r) [92, 10] (j + 1) = Lib.occAt r [92, 10] j := by simp [Lib.occAt]

theorem rep_none : ∀ s : Bs, (∀ j, j ≤ s.length → Lib.occAt s [92, 10] j = false) → rep s = s
  | [], _ => rfl
  | c :: r, h => by
    have h0 := h 0 (Nat.zero_le _)
    rw [occ0] at h0
    rw [rep_no (of_decide_eq_false h0), rep_none r fun j hj => by
      have := h (j + 1) (by simp; omega)
      rwa [occS] at this]
theorem rep_at : ∀ (a r : Bs), (∀ j, j < a.length → Lib.occAt (a ++ 92 :: 10 :: r) [92, 10] j = false) → rep (a ++ 92 :: 10 :: r) = a ++ 32 :: rep r
  | [], r, _ => rep_hit r
  | c :: a, r, h => by
    have h0 := h 0 (by simp)
    rw [List.cons_append, occ0] at h0
    rw [List.cons_append, rep_no (of_decide_eq_false h0), rep_at a r fun j hj => by
      have := h (j + 1) (by simp; omega)
      rwa [List.cons_append, occS] at this]
    rfl

theorem occ_parts {s : Bs} {i : Nat} (h : Lib.occAt s [92, 10] i = true) : s = s.take i ++ 92 :: 10 :: s.drop (i + 2) := by
  unfold Lib.occAt at h
  have h1 := List.isPrefixOf_iff_prefix.1 h
  obtain ⟨t, ht⟩ := h1
  have h2 : s.drop (i + 2) = t := by
    have : s.drop (i + 2) = (s.drop i).drop 2 := by rw [List.drop_drop]
    rw [this, ← ht]
    rfl
  rw [h2]
  have h3 := (List.take_append_drop i s).symm
  rw [← ht] at h3
  exact h3

theorem repK : ∀ (n : Nat) (s : Bs), s.length ≤ n → Lib.replaceK [92, 10] [32] (Lib.count s [92, 10]) s = rep s := by
  intro n
  induction n with
  | zero =>
    intro s hs
    obtain rfl : s = [] := List.eq_nil_of_length_eq_zero (by omega)
    decide
  | succ n ih =>
    intro s hs
    rcases Lib.index_spec s [92, 10] with ⟨h1, h2⟩ | ⟨i, h1, h2, h3, h4⟩
    · rw [Lib.count_miss h1, rep_none s h2]
      rfl
    · have hp := occ_parts h3
      have hlen : i + 2 ≤ s.length := by
        have := congrArg List.length hp
        simp at this
        omega
      have hc : Lib.count s [92, 10] = Lib.count (s.drop (i + 2)) [92, 10] + 1 := by
        rw [Lib.count_hit (by simp) h1]
        show 1 + _ = _ + 1
        rw [Nat.add_comm]
        rfl
      rw [hc, Lib.replaceK_hit _ _ _ _ i h1]
      show s.take i ++ [32] ++ Lib.replaceK _ _ _ (s.drop (i + 2)) = _
      rw [ih (s.drop (i + 2)) (by rw [List.length_drop]; omega)]
      have hr := rep_at (s.take i) (s.drop (i + 2)) fun j hj => by
        rw [← hp]
        exact h4 j (by rw [List.length_take] at hj; omega)
      rw [← hp] at hr
      rw [hr]
      simp
theorem rep_all (s : Bs) : Lib.replaceAll s [92, 10] [32] = rep s := by
  unfold Lib.replaceAll Lib.replace Lib.replaceNum
  rw [if_neg (by decide), if_pos (.inl (by decide))]
  exact repK s.length s (Nat.le_refl _)
theorem rep_len : ∀ s : Bs, (rep s).length ≤ s.length := by
  intro s
  induction s using rep.induct with
  | case1 => simp [rep]
  | case2 c => simp [rep]
  | case3 c d r h ih => rw [rep, if_pos h]; simp; omega
  | case4 c d r h ih => rw [rep, if_neg h]; simp at ih ⊢; omega

/-! ### lines, words -/
def splS (c : UInt8) : Bs → Bs → List Bs
  | cur, [] => [cur]
  | cur, b :: r => if b = c then cur :: splS c [] r else splS c (cur ++ [b]) r
def fl (cur : Bs) : List Bs := if cur = [] then [] else [cur]
def words : Bs → Bs → List Bs
  | cur, [] => fl cur
  | cur, b :: r => if b = 32 then fl cur ++ words [] r else words (cur ++ [b]) r
def blank (l : Bs) : Bool := l.all (· == 32)
def onlyL (L : List Bs) : Bs := match L.filter (fun l => !blank l) with
  | [l] => l
  | _ => []
def cutB (c : UInt8) (l : Bs) : Option (Bs × Bs) := match Lib.indexByte l c with
  | .ofNat i => some (l.take i, l.drop (i + 1))
  | .negSucc _ => none
def cleanAll (ws : List Bs) : Option (List Bs) := if ws.all (fun w => decide ((cleanL w).2 = 0)) then some (ws.map fun w => (cleanL w).1) else none
def onceL (l : List Bs) : List Bs := l.foldl (fun acc x => if acc.contains x then acc else acc ++ [x]) []
def parseP (t : Bs) : Option (Bs × List Bs) :=
  if 16384 < t.length then none else
  match cutB 58 (onlyL (splS 10 [] (rep t))) with
  | none => none
  | some (a, b) => match cleanAll (words [] a), cleanAll (words [] b) with
    | some [o], some ds => some (o, onceL ds)
    | _, _ => none

/-! ### the document's -/
def sepB (b : UInt8) : Bool := b == 32 || b == 10 || b == 58
def tk (b : UInt8) : List Bs := if b = 32 then [] else [[b]]
def tokR : Bs → Bs → List Bs
  | cur, [] => fl cur
  | cur, [b] => if sepB b then fl cur ++ tk b else fl (cur ++ [b])
  | cur, b :: d :: r => if b = 92 ∧ d = 10 then fl cur ++ tokR [] r else if sepB b then fl cur ++ tk b ++ tokR [] (d :: r) else tokR (cur ++ [b]) (d :: r)
def tok : Bs → Bs → List Bs
  | cur, [] => fl cur
  | cur, b :: r => if sepB b then fl cur ++ tk b ++ tok [] r else tok (cur ++ [b]) r
theorem tok_rep (t cur : Bs) : tokR cur t = tok cur (rep t) := by
  induction cur, t using tokR.induct with
  | case1 cur => rfl
  | case2 cur b h =>
    have e : tok cur (rep [b]) = fl cur ++ tk b ++ tok [] [] := by
      show (if sepB b then _ else _) = _
      rw [if_pos h]
    rw [tokR, if_pos h, e]
    simp [tok, fl]
  | case3 cur b h =>
    have e : tok cur (rep [b]) = tok (cur ++ [b]) [] := by
      show (if sepB b then _ else _) = _
      rw [if_neg h]
    rw [tokR, if_neg h, e]
    rfl
  | case4 cur b d r h ih =>
    rw [tokR, if_pos h, rep, if_pos h, tok, if_pos (by decide), ih]
    simp [tk]
  | case5 cur b d r h1 h2 ih =>
    rw [tokR, if_neg h1, if_pos h2, rep, if_neg h1, tok, if_pos h2, ih]
  | case6 cur b d r h1 h2 ih =>
    rw [tokR, if_neg h1, if_neg h2, rep, if_neg h1, tok, if_neg h2, ih]

def dropNL (w : List Bs) : List Bs := w.dropWhile (· == [10])
def trimNL (w : List Bs) : List Bs := (dropNL (dropNL w).reverse).reverse
def okTok (x : Bs) : Bool := x != [58] && x != [10] && decide ((cleanL x).2 = 0)
def tellW : List Bs → Option (Bs × List Bs)
  | o :: c :: ds => if o ≠ [58] ∧ c = [58] ∧ (cleanL o).2 = 0 ∧ ds.all okTok = true then some ((cleanL o).1, onceL (ds.map fun w => (cleanL w).1)) else none
  | _ => none
def refP (t : Bs) : Option (Bs × List Bs) := if 16384 < t.length then none else tellW (trimNL (tokR [] t))
end Go.Proofs.YtgledabcfonbeaaGreatDoor.Df

/-! WHAT THE PROGRAM READS IS WHAT THE DOCUMENT READS: plain lists. -/
namespace Go.Proofs.YtgledabcfonbeaaGreatDoor.Df
open Go.Proofs.YtgledabcfonbeaaGreatDoor

theorem tok_sep {b : UInt8} (hb : sepB b = true) (r : Bs) : ∀ (p cur : Bs), tok cur (p ++ b :: r) = tok cur p ++ tk b ++ tok [] r
  | [], cur => by
    show tok cur (b :: r) = fl cur ++ tk b ++ tok [] r
    rw [tok.eq_2, if_pos hb]
  | c :: p, cur => by
    rw [List.cons_append, tok, tok]
    by_cases hc : sepB c = true
    · rw [if_pos hc, if_pos hc, tok_sep hb r p []]
      simp
    · rw [if_neg hc, if_neg hc, tok_sep hb r p _]

/-- the tokens of lines -/
def jn : List Bs → List Bs
  | [] => []
  | [x] => tok [] x
  | x :: y :: r => tok [] x ++ [10] :: jn (y :: r)
theorem jn_cons (x : Bs) {L : List Bs} (h : L ≠ []) : jn (x :: L) = tok [] x ++ [10] :: jn L := by
  cases L with
  | nil => exact absurd rfl h
  | cons y r => rfl
theorem splS_ne (c : UInt8) : ∀ (l cur : Bs), splS c cur l ≠ []
  | [], cur => by simp [splS]
  | b :: r, cur => by
    rw [splS]
    split
    · simp
    · exact splS_ne c r _
theorem jn_spl : ∀ (l p : Bs), jn (splS 10 p l) = tok [] (p ++ l)
  | [], p => by rw [splS, List.append_nil]; rfl
  | b :: r, p => by
    rw [splS]
    by_cases hb : b = 10
    · subst hb
      rw [if_pos rfl, jn_cons _ (splS_ne _ _ _), jn_spl r [], tok_sep (by decide)]
      simp [tk]
    · rw [if_neg hb, jn_spl r (p ++ [b])]
      simp
theorem jn_snoc (x : Bs) : ∀ {L : List Bs}, L ≠ [] → jn (L ++ [x]) = jn L ++ [10] :: tok [] x
  | [], h => absurd rfl h
  | [y], _ => rfl
  | y :: z :: r, _ => by
    have h1 := jn_snoc x (L := z :: r) (by simp)
    show tok [] y ++ [10] :: jn ((z :: r) ++ [x]) = (tok [] y ++ [10] :: jn (z :: r)) ++ [10] :: tok [] x
    rw [h1]
    simp
theorem spl_no (c : UInt8) : ∀ (l cur : Bs), c ∉ cur → ∀ x ∈ splS c cur l, c ∉ x
  | [], cur, h, x, hx => by
    rw [splS, List.mem_singleton] at hx
    rw [hx]
    exact h
  | b :: r, cur, h, x, hx => by
    rw [splS] at hx
    split at hx
    · rcases List.mem_cons.1 hx with rfl | hx
      · exact h
      · exact spl_no c r [] (by simp) x hx
    · rename_i hb
      exact spl_no c r _ (by simp [h, Ne.symm hb]) x hx

/-! ### tokens -/
theorem tok_blank : ∀ x : Bs, blank x = true → tok [] x = []
  | [], _ => rfl
  | b :: r, h => by
    unfold blank at h
    rw [List.all_cons, Bool.and_eq_true, beq_iff_eq] at h
    obtain ⟨rfl, h⟩ := h
    rw [tok, if_pos (by decide), tok_blank r h]
    rfl
theorem fl_mem {cur x : Bs} (h : x ∈ fl cur) : x = cur ∧ cur ≠ [] := by
  unfold fl at h
  split at h
  · cases h
  · exact ⟨List.mem_singleton.1 h, by assumption⟩
theorem tok_mem : ∀ (p cur : Bs), 10 ∉ p → 10 ∉ cur → ∀ x ∈ tok cur p, x ≠ [10]
  | [], cur, _, hc, x, hx => by
    rw [tok] at hx
    obtain ⟨rfl, _⟩ := fl_mem hx
    rintro rfl
    exact hc (by simp)
  | b :: r, cur, hp, hc, x, hx => by
    have hb : b ≠ 10 := fun e => hp (by simp [e])
    have hr : 10 ∉ r := fun e => hp (by simp [e])
    rw [tok] at hx
    split at hx
    · rcases List.mem_append.1 hx with hx | hx
      · rcases List.mem_append.1 hx with hx | hx
        · obtain ⟨rfl, _⟩ := fl_mem hx
          rintro rfl
          exact hc (by simp)
        · unfold tk at hx
          split at hx
          · cases hx
          · rw [List.mem_singleton.1 hx]
            simpa using hb
      · exact tok_mem r [] hr (by simp) x hx
    · exact tok_mem r _ hr (by simp [hc, Ne.symm hb]) x hx
theorem tok_cur : ∀ (p cur : Bs), cur ≠ [] → tok cur p ≠ []
  | [], cur, h => by rw [tok, fl, if_neg h]; simp
  | b :: r, cur, h => by
    rw [tok]
    split
    · rw [fl, if_neg h]; simp
    · exact tok_cur r _ (by simp)
theorem tok_some : ∀ x : Bs, blank x = false → tok [] x ≠ []
  | [], h => by simp [blank] at h
  | b :: r, h => by
    rw [tok]
    by_cases hb : b = 32
    · subst hb
      have h : blank r = false := by simpa [blank] using h
      rw [if_pos (by decide)]
      simp [tok_some r h]
    · split
      · simp [tk, hb]
      · exact tok_cur r _ (by simp)

/-! ### lines that do not count, at both ends -/
theorem drop_head {w : List Bs} (h : dropNL w ≠ []) : ∃ x r, dropNL w = x :: r ∧ x ≠ [10] := by
  cases e : dropNL w with
  | nil => exact absurd e h
  | cons x r =>
    refine ⟨x, r, rfl, fun hx => ?_⟩
    have := List.head_dropWhile_not (· == ([10] : Bs)) (l := w) (by show dropNL w ≠ []; exact h)
    have e2 : (List.dropWhile (· == ([10] : Bs)) w) = x :: r := e
    simp only [e2, List.head_cons, hx] at this
    simp at this
theorem drop_jn : ∀ L : List Bs, (∀ x ∈ L, 10 ∉ x) → dropNL (jn L) = jn (L.dropWhile blank)
  | [], _ => rfl
  | [x], h => by
    cases hx : blank x with
    | true => rw [List.dropWhile_cons_of_pos hx]; show dropNL (tok [] x) = _; rw [tok_blank x hx]; rfl
    | false =>
      rw [List.dropWhile_cons_of_neg (by simp [hx])]
      show dropNL (tok [] x) = tok [] x
      cases e : tok [] x with
      | nil => rfl
      | cons y r =>
        have hy := tok_mem x [] (h x (by simp)) (by simp) y (by rw [e]; simp)
        exact List.dropWhile_cons_of_neg (by simpa using hy)
  | x :: y :: L, h => by
    have ih := drop_jn (y :: L) fun z hz => h z (List.mem_cons_of_mem _ hz)
    rw [jn_cons x (by simp)]
    cases hx : blank x with
    | true =>
      rw [List.dropWhile_cons_of_pos hx, ← ih, tok_blank x hx]
      rfl
    | false =>
      rw [List.dropWhile_cons_of_neg (by simp [hx]), jn_cons x (by simp)]
      cases e : tok [] x with
      | nil => exact absurd e (tok_some x hx)
      | cons z r =>
        have hy := tok_mem x [] (h x (by simp)) (by simp) z (by rw [e]; simp)
        exact List.dropWhile_cons_of_neg (by simpa using hy)
theorem trim_jn (L : List Bs) (h : ∀ x ∈ L, 10 ∉ x) : ∀ n, L.length ≤ n → (dropNL (jn L).reverse).reverse = jn (L.reverse.dropWhile blank).reverse := by
  intro n
  induction n generalizing L with
  | zero => intro hn; obtain rfl : L = [] := List.eq_nil_of_length_eq_zero (by omega); rfl
  | succ n ih =>
    intro hn
    rcases List.eq_nil_or_concat L with rfl | ⟨K, x, rfl⟩
    · rfl
    rw [List.concat_eq_append] at h hn ⊢
    have hx10 := h x (by simp)
    have hK : ∀ y ∈ K, 10 ∉ y := fun y hy => h y (by simp [hy])
    rw [List.reverse_append, List.reverse_singleton, List.singleton_append]
    have hne : ∀ {z : Bs} {r : List Bs}, tok [] x = r ++ [z] → z ≠ [10] := fun e => tok_mem x [] hx10 (by simp) _ (by rw [e]; simp)
    cases hx : blank x with
    | true =>
      rw [List.dropWhile_cons_of_pos hx, ← ih K hK (by simp at hn; omega)]
      by_cases hk : K = []
      · subst hk
        show (dropNL (tok [] x).reverse).reverse = _
        rw [tok_blank x hx]
        rfl
      · rw [jn_snoc x hk, tok_blank x hx, List.reverse_append]
        rfl
    | false =>
      rw [List.dropWhile_cons_of_neg (by simp [hx]), List.reverse_cons, List.reverse_reverse]
      rcases List.eq_nil_or_concat (tok [] x) with e | ⟨r, z, e⟩
      · exact absurd e (tok_some x hx)
      rw [List.concat_eq_append] at e
      have hz := hne e
      have key : ∀ A : List Bs, (dropNL (A ++ (r ++ [z])).reverse).reverse = A ++ (r ++ [z]) := fun A => by
        rw [← List.append_assoc, List.reverse_append, List.reverse_singleton, List.singleton_append]
        unfold dropNL
        rw [List.dropWhile_cons_of_neg (by simpa using hz), List.reverse_cons, List.reverse_reverse]
      by_cases hk : K = []
      · subst hk
        show (dropNL (tok [] x).reverse).reverse = tok [] x
        rw [e]
        exact key []
      · rw [jn_snoc x hk, e]
        have := key (jn K ++ [[10]])
        simpa using this
/-- the lines that count, and those between them -/
def core (L : List Bs) : List Bs := ((L.dropWhile blank).reverse.dropWhile blank).reverse
theorem trim_core (L : List Bs) (h : ∀ x ∈ L, 10 ∉ x) : trimNL (jn L) = jn (core L) := by
  unfold trimNL core
  rw [drop_jn L h]
  exact trim_jn _ (fun x hx => h x (List.dropWhile_subset _ hx)) _ (Nat.le_refl _)

theorem filter_drop (L : List Bs) : (L.dropWhile blank).filter (fun l => !blank l) = L.filter (fun l => !blank l) := by
  induction L with
  | nil => rfl
  | cons x L ih =>
    cases hx : blank x with
    | true => rw [List.dropWhile_cons_of_pos hx, ih, List.filter_cons_of_neg (by simp [hx])]
    | false => rw [List.dropWhile_cons_of_neg (by simp [hx])]
theorem filter_core (L : List Bs) : (core L).filter (fun l => !blank l) = L.filter (fun l => !blank l) := by
  unfold core
  rw [List.filter_reverse, filter_drop, List.filter_reverse, filter_drop, List.reverse_reverse]
theorem dw_nil {α : Type} {p : α → Bool} : ∀ {l : List α}, l.dropWhile p = [] → ∀ x ∈ l, p x = true
  | [], _, x, hx => by cases hx
  | a :: l, h, x, hx => by
    cases ha : p a with
    | false => rw [List.dropWhile_cons_of_neg (by simp [ha])] at h; cases h
    | true =>
      rw [List.dropWhile_cons_of_pos ha] at h
      rcases List.mem_cons.1 hx with rfl | hx
      · exact ha
      · exact dw_nil h x hx
theorem core_ends (L : List Bs) : core L = [] ∨ ∃ x, blank x = false ∧ (core L = [x] ∨ ∃ M y, blank y = false ∧ core L = x :: (M ++ [y])) := by
  unfold core
  generalize hK : L.dropWhile blank = K
  have hhead : ∀ x r, K = x :: r → blank x = false := fun x r e => by
    have := List.head_dropWhile_not blank (l := L) (by rw [hK, e]; simp)
    simp only [hK, e, List.head_cons] at this
    exact this
  cases K with
  | nil => exact .inl rfl
  | cons x r =>
    have hx := hhead x r rfl
    right
    refine ⟨x, hx, ?_⟩
    rcases List.eq_nil_or_concat ((x :: r).reverse.dropWhile blank).reverse with e | ⟨M, y, e⟩
    · have e2 : (x :: r).reverse.dropWhile blank = [] := by simpa using e
      have := dw_nil e2 x (by simp)
      rw [hx] at this
      cases this
    · rw [List.concat_eq_append] at e
      have hy : blank y = false := by
        have e3 : (x :: r).reverse.dropWhile blank = y :: M.reverse := by
          have := congrArg List.reverse e
          simpa using this
        have := List.head_dropWhile_not blank (l := (x :: r).reverse) (by rw [e3]; simp)
        simp only [e3, List.head_cons] at this
        exact this
      have hpre : M ++ [y] <+: x :: r := by
        have h1 : (x :: r).reverse.dropWhile blank <:+ (x :: r).reverse := List.dropWhile_suffix _
        have h2 := List.reverse_prefix.2 h1
        rw [e, List.reverse_reverse] at h2
        exact h2
      rw [e]
      cases M with
      | nil =>
        left
        obtain ⟨t, ht⟩ := hpre
        have : y = x := by simpa using congrArg List.head? ht
        rw [this]
        rfl
      | cons m M =>
        right
        obtain ⟨t, ht⟩ := hpre
        have : m = x := by simpa using congrArg List.head? ht
        exact ⟨M, y, hy, by rw [this]; rfl⟩
theorem trim_head (w : List Bs) {x : Bs} {r : List Bs} (h : trimNL w = x :: r) : x ≠ [10] := by
  unfold trimNL at h
  by_cases hd : dropNL w = []
  · rw [hd] at h; simp [dropNL] at h
  obtain ⟨y, t, e, hy⟩ := drop_head hd
  have h2 : dropNL (dropNL w).reverse = r.reverse ++ [x] := by
    have := congrArg List.reverse h
    simpa using this
  have h1 : dropNL (dropNL w).reverse <:+ (dropNL w).reverse := List.dropWhile_suffix _
  rw [h2, e, List.reverse_cons] at h1
  obtain ⟨u, hu⟩ := h1
  have hu2 : (u ++ r.reverse) ++ [x] = t.reverse ++ [y] := by simpa using hu
  have := (List.append_inj' hu2 rfl).2
  have : x = y := by simpa using this
  rw [this]
  exact hy
theorem tell_nl {w : List Bs} (h10 : [10] ∈ w) (hh : ∀ x r, w = x :: r → x ≠ [10]) : tellW w = none := by
  match w, h10, hh with
  | [], h, _ => rfl
  | [x], _, _ => rfl
  | o :: c :: ds, h, hh =>
    unfold tellW
    have ho := hh o _ rfl
    refine if_neg fun e => ?_
    rcases List.mem_cons.1 h with h | h
    · exact ho h.symm
    rcases List.mem_cons.1 h with h | h
    · rw [e.2.1] at h; simp at h
    · have := List.all_eq_true.1 e.2.2.2 _ h
      simp [okTok] at this
end Go.Proofs.YtgledabcfonbeaaGreatDoor.Df
