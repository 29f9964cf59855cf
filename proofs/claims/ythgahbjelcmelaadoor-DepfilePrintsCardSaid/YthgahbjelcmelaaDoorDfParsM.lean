/-
  THE DOCUMENT'S READING OF A TEXT: its words, a step at a time; what is around them cut.
-/
import Derived.Test.YthgahbjelcmelaaDoorDfTwoW
namespace Go.Proofs.YthgahbjelcmelaaDoor.Df
open Go.RowKit Go.Proofs.YthgahbjelcmelaaDoor

theorem tokR_step (c : UInt8) (r cur : Bs) : tokR cur (c :: r) = if c = 92 ∧ r.head? = some 10 then fl cur ++ tokR [] (r.drop 1) else if sepB c then fl cur ++ tk c ++ tokR [] r else tokR (cur ++ [c]) r := by
  cases r with
  | nil =>
    rw [if_neg (by simp)]
    show (if sepB c then fl cur ++ tk c else fl (cur ++ [c])) = _
    split
    · simp [tokR, fl]
    · rfl
  | cons d r =>
    show (if c = 92 ∧ d = 10 then fl cur ++ tokR [] r else if sepB c then fl cur ++ tk c ++ tokR [] (d :: r) else tokR (cur ++ [c]) (d :: r)) = _
    by_cases h : c = 92 ∧ d = 10
    · rw [if_pos h, if_pos ⟨h.1, by simp [h.2]⟩]; rfl
    · have hn : ¬ (c = 92 ∧ (d :: r).head? = some 10) := fun e => h ⟨e.1, Option.some.inj e.2⟩
      rw [if_neg h, if_neg hn]

/-- where the reading stands -/
def TI (s : Bs) (j : Nat) (W : List Bs) (cur : Bs) : Prop :=
  (j ≤ s.length → tokR [] s = W ++ tokR cur (s.drop j)) ∧ (s.length < j → tokR [] s = W)
section
variable {s : Bs} {j : Nat} {W : List Bs} {cur : Bs} {c : UInt8}
theorem TI.start : TI s 0 [] [] := ⟨fun _ => by simp, fun h => by omega⟩
theorem TI.last (h : TI s s.length W cur) : TI s (s.length + 1) (W ++ fl cur) [] := ⟨fun h => by omega, fun _ => by
  have := h.1 (Nat.le_refl _)
  rw [List.drop_length] at this
  exact this⟩
theorem drop_at (h : s[j]? = some c) : s.drop j = c :: s.drop (j + 1) ∧ j < s.length := by
  obtain ⟨hj, e⟩ := List.getElem?_eq_some_iff.1 h
  exact ⟨by rw [List.drop_eq_getElem_cons hj, e], hj⟩
theorem TI.cont (h : TI s j W cur) (h1 : s[j]? = some 92) (h2 : s[j + 1]? = some 10) : TI s (j + 2) (W ++ fl cur) [] := by
  obtain ⟨e1, l1⟩ := drop_at h1
  obtain ⟨e2, l2⟩ := drop_at h2
  refine ⟨fun _ => ?_, fun h => by omega⟩
  rw [h.1 (by omega), e1, tokR_step, if_pos ⟨rfl, by rw [e2]; rfl⟩, e2, List.append_assoc]
  rfl
theorem TI.sep (h : TI s j W cur) (h1 : s[j]? = some c) (hs : sepB c = true) : TI s (j + 1) (W ++ fl cur ++ tk c) [] := by
  obtain ⟨e1, l1⟩ := drop_at h1
  refine ⟨fun _ => ?_, fun h => by omega⟩
  have hc : ¬ (c = 92 ∧ (s.drop (j + 1)).head? = some 10) := fun e => by rw [e.1] at hs; exact absurd hs (by decide)
  rw [h.1 (by omega), e1, tokR_step, if_neg hc, if_pos hs]
  simp
theorem TI.chr (h : TI s j W cur) (h1 : s[j]? = some c) (hc : ¬ (c = 92 ∧ s[j + 1]? = some 10)) (hs : sepB c = false) : TI s (j + 1) W (cur ++ [c]) := by
  obtain ⟨e1, l1⟩ := drop_at h1
  refine ⟨fun _ => ?_, fun h => by omega⟩
  have hc : ¬ (c = 92 ∧ (s.drop (j + 1)).head? = some 10) := fun e => hc ⟨e.1, by rw [← e.2]; simp⟩
  rw [h.1 (by omega), e1, tokR_step, if_neg hc, if_neg (by rw [hs]; decide)]
end

theorem tokR_mem : ∀ (t cur : Bs), ∀ x ∈ tokR cur t, x.length ≤ cur.length + t.length + 1 := by
  intro t
  induction h : t.length using Nat.strongRecOn generalizing t with
  | _ n ih =>
    intro cur x hx
    subst h
    have hfl : ∀ (cur : Bs), x ∈ fl cur → x.length ≤ cur.length := fun cur h => by rw [(fl_mem h).1]; exact Nat.le_refl _
    cases t with
    | nil =>
      have := hfl cur hx
      omega
    | cons c r =>
      rw [tokR_step] at hx
      simp only [List.length_cons]
      split at hx
      · rcases List.mem_append.1 hx with hx | hx
        · have := hfl cur hx; omega
        · have := ih (r.drop 1).length (by simp; omega) (r.drop 1) rfl [] x hx
          rw [List.length_drop] at this
          simp at this
          omega
      · split at hx
        · rcases List.mem_append.1 hx with hx | hx
          · rcases List.mem_append.1 hx with hx | hx
            · have := hfl cur hx; omega
            · unfold tk at hx
              split at hx
              · cases hx
              · rw [List.mem_singleton.1 hx]; simp
          · have := ih r.length (by simp) r rfl [] x hx
            simp at this
            omega
        · have := ih r.length (by simp) r rfl _ x hx
          simp at this
          omega

/-! ### what is around the words, cut -/
theorem dropNL_step {w : List Bs} : dropNL ([10] :: w) = dropNL w := by
  unfold dropNL; rw [List.dropWhile_cons_of_pos (by rfl)]
theorem dropNL_stop {w : List Bs} (h : w.head? ≠ some [10]) : dropNL w = w := by
  cases w with
  | nil => rfl
  | cons x r =>
    unfold dropNL
    rw [List.dropWhile_cons_of_neg]
    intro e
    exact h (by rw [eq_of_beq e]; rfl)
theorem nl_at {T : List Bs} {a : Nat} (h : T[a]? = some [10]) (h0 : dropNL T = dropNL (T.drop a)) : dropNL T = dropNL (T.drop (a + 1)) := by
  obtain ⟨hj, e⟩ := List.getElem?_eq_some_iff.1 h
  rw [h0, List.drop_eq_getElem_cons hj, e, dropNL_step]
theorem nl_end {T : List Bs} {a : Nat} (h : T[a]? ≠ some [10]) (h0 : dropNL T = dropNL (T.drop a)) : dropNL T = T.drop a := by
  rw [h0, dropNL_stop (by rw [List.head?_drop]; exact h)]
/-- .. from behind: of the words a .. b -/
theorem bk_at {T : List Bs} {a b : Nat} (hab : a < b) (h : T[b - 1]? = some [10]) (h0 : trimNL T = (dropNL ((T.take b).drop a).reverse).reverse) : trimNL T = (dropNL ((T.take (b - 1)).drop a).reverse).reverse := by
  obtain ⟨hj, e⟩ := List.getElem?_eq_some_iff.1 h
  have h1 : T.take b = T.take (b - 1) ++ [[10]] := by
    have : b = (b - 1) + 1 := by omega
    rw [this, List.take_add_one, h]
    simp
  rw [h0, h1, List.drop_append_of_le_length (by rw [List.length_take]; omega), List.reverse_append]
  rw [List.reverse_singleton, List.singleton_append, dropNL_step]
theorem bk_end {T : List Bs} {a b : Nat} (hb : b ≤ T.length) (h : a < b → T[b - 1]? ≠ some [10]) (h0 : trimNL T = (dropNL ((T.take b).drop a).reverse).reverse) : trimNL T = (T.take b).drop a := by
  rw [h0, dropNL_stop, List.reverse_reverse]
  rw [List.head?_reverse, List.getLast?_drop, List.getLast?_take]
  split
  · simp
  · rename_i hl
    rw [List.length_take, Nat.min_eq_left hb] at hl
    have hab : a < b := by omega
    rw [if_neg (by omega)]
    have := h hab
    cases hx : T[b - 1]? with
    | none =>
      have := List.getElem?_eq_none_iff.1 hx
      omega
    | some y => rw [hx] at this; simpa using this
theorem bk_start {T : List Bs} {a : Nat} (h0 : dropNL T = T.drop a) : trimNL T = (dropNL ((T.take T.length).drop a).reverse).reverse := by
  unfold trimNL
  rw [h0, List.take_length]

/-! ### what the words tell -/
theorem tell_short {V : List Bs} (h : V.length < 2) : tellW V = none := by
  match V, h with
  | [], _ => rfl
  | [_], _ => rfl
theorem tell_bad {V : List Bs} {o c : Bs} (h0 : V[0]? = some o) (h1 : V[1]? = some c) (h : o = [58] ∨ c ≠ [58] ∨ (cleanL o).2 ≠ 0) : tellW V = none := by
  match V, h0, h1 with
  | _ :: _ :: ds, h0, h1 =>
    cases h0
    cases h1
    rw [tellW_two, if_neg]
    rintro ⟨e1, e2, e3, _⟩
    rcases h with h | h | h
    · exact e1 h
    · exact h e2
    · exact h e3
theorem tell_badD {V : List Bs} {i : Nat} {x : Bs} (hi : 2 ≤ i) (h0 : V[i]? = some x) (h : okTok x = false) : tellW V = none := by
  match V, h0 with
  | [], h0 => simp at h0
  | [_], h0 => rw [List.getElem?_eq_none (by simp; omega)] at h0; cases h0
  | o :: c :: ds, h0 =>
    rw [tellW_two, if_neg]
    rintro ⟨_, _, _, e4⟩
    have hm : x ∈ ds := by
      obtain ⟨k, rfl⟩ : ∃ k, i = k + 2 := ⟨i - 2, by omega⟩
      exact List.mem_of_getElem? (by simpa using h0)
    have := List.all_eq_true.1 e4 x hm
    rw [h] at this
    cases this
theorem tell_good {V : List Bs} {o : Bs} (h0 : V[0]? = some o) (h1 : V[1]? = some [58]) (hn : o ≠ [58]) (hc : (cleanL o).2 = 0) (ha : (V.drop 2).all okTok = true) : tellW V = some ((cleanL o).1, onceL ((V.drop 2).map fun w => (cleanL w).1)) := by
  match V, h0, h1 with
  | _ :: _ :: ds, h0, h1 =>
    cases h0
    cases h1
    rw [tellW_two, if_pos ⟨hn, rfl, hc, ha⟩]
    rfl
/-- the names of the words behind the first two, as far as i -/
def dp (V : List Bs) (i : Nat) : List Bs := onceL (((V.take i).drop 2).map fun w => (cleanL w).1)
theorem dp_two (V : List Bs) : dp V 2 = [] := by
  unfold dp
  rw [List.drop_of_length_le (by rw [List.length_take]; omega)]
  rfl
theorem dp_step {V : List Bs} {i : Nat} {x : Bs} (hi : 2 ≤ i) (h : V[i]? = some x) : dp V (i + 1) = if (dp V i).contains (cleanL x).1 then dp V i else dp V i ++ [(cleanL x).1] := by
  obtain ⟨hj, e⟩ := List.getElem?_eq_some_iff.1 h
  unfold dp
  rw [List.take_add_one, h]
  show onceL (((V.take i ++ [x]).drop 2).map _) = _
  rw [List.drop_append_of_le_length (by rw [List.length_take]; omega), List.map_append]
  exact once_snoc _ _
theorem dp_all (V : List Bs) : dp V V.length = onceL ((V.drop 2).map fun w => (cleanL w).1) := by unfold dp; rw [List.take_length]
theorem dp_len (V : List Bs) (i : Nat) : (dp V i).length ≤ i := by
  unfold dp
  refine Nat.le_trans (once_len _ _ rfl) ?_
  simp
  omega
theorem all_step {V : List Bs} {i : Nat} {x : Bs} (hi : 2 ≤ i) (h : V[i]? = some x) (hx : okTok x = true) (h0 : ((V.take i).drop 2).all okTok = true) : ((V.take (i + 1)).drop 2).all okTok = true := by
  obtain ⟨hj, e⟩ := List.getElem?_eq_some_iff.1 h
  rw [List.take_add_one, h]
  show ((V.take i ++ [x]).drop 2).all okTok = true
  rw [List.drop_append_of_le_length (by rw [List.length_take]; omega), List.all_append, h0]
  simp [hx]
end Go.Proofs.YthgahbjelcmelaaDoor.Df
