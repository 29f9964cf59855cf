/-
  THE WORDS OF A LINE, as lists of bytes.
-/
import Derived.WalkKit
namespace Go.Proofs.YtbohnjiachnadaaDoor.Lx

abbrev Bs := List UInt8

/-- a word, if it has a byte -/
def fl (cur : Bs) : List Bs := if cur = [] then [] else [cur]

/-- the words of a text behind these bytes of a word -/
def W : Bs → Bs → List Bs
  | cur, [] => fl cur
  | cur, [c] => if c = 32 then fl cur else if c = 58 ∨ c = 124 then fl cur ++ [[c]] else fl (cur ++ [c])
  | cur, c :: d :: r =>
    if c = 36 then W (cur ++ [c, d]) r
    else if c = 32 then fl cur ++ W [] (d :: r)
    else if c = 58 then fl cur ++ [58] :: W [] (d :: r)
    else if c = 124 then (if d = 124 then fl cur ++ [124, 124] :: W [] r else fl cur ++ [124] :: W [] (d :: r))
    else W (cur ++ [c]) (d :: r)

def words (s : Bs) : List Bs := W [] s

theorem W_end (cur : Bs) : W cur [] = fl cur := by rw [W]
theorem W_esc (cur r : Bs) : W cur (36 :: r) = W (cur ++ 36 :: r.take 1) (r.drop 1) := by
  cases r with
  | nil => simp [W]
  | cons d r => simp [W]
theorem W_blank (cur r : Bs) : W cur (32 :: r) = fl cur ++ W [] r := by
  cases r with
  | nil => simp [W, fl]
  | cons d r => simp [W]
theorem W_colon (cur r : Bs) : W cur (58 :: r) = fl cur ++ [58] :: W [] r := by
  cases r with
  | nil => simp [W, fl]
  | cons d r => simp [W]
theorem W_bar2 (cur r : Bs) : W cur (124 :: 124 :: r) = fl cur ++ [124, 124] :: W [] r := by simp [W]
theorem W_bar1 (cur r : Bs) (h : r.head? ≠ some 124) : W cur (124 :: r) = fl cur ++ [124] :: W [] r := by
  cases r with
  | nil => simp [W, fl]
  | cons d r =>
    have hd : d ≠ 124 := fun e => h (by rw [e]; rfl)
    simp [W, hd]
theorem W_plain (cur r : Bs) (c : UInt8) (h0 : c ≠ 36) (h1 : c ≠ 32) (h2 : c ≠ 58) (h3 : c ≠ 124) : W cur (c :: r) = W (cur ++ [c]) r := by
  cases r with
  | nil => simp [W, h1, h2, h3]
  | cons d r => simp [W, h0, h1, h2, h3]

theorem fl_nil : fl [] = [] := rfl
theorem fl_ne {cur : Bs} (h : cur ≠ []) : fl cur = [cur] := if_neg h

def isSign (w : Bs) : Bool := decide (w = [58] ∨ w = [124] ∨ w = [124, 124])

/-- what is put ahead of a text is a part of the word ahead -/
def Closed (w : Bs) : Prop := ∀ cur r, W cur (w ++ r) = W (cur ++ w) r

theorem Closed.nil : Closed [] := fun cur r => by simp
theorem Closed.app {a b : Bs} (ha : Closed a) (hb : Closed b) : Closed (a ++ b) := fun cur r => by
  rw [List.append_assoc, ha, hb, List.append_assoc]
theorem Closed.esc (d : UInt8) : Closed [36, d] := fun cur r => by
  rw [show [36, d] ++ r = 36 :: (d :: r) from rfl, W_esc]; simp
theorem Closed.plain {c : UInt8} (h0 : c ≠ 36) (h1 : c ≠ 32) (h2 : c ≠ 58) (h3 : c ≠ 124) : Closed [c] := fun cur r => W_plain cur r c h0 h1 h2 h3

def Good (w : Bs) : Prop := w ≠ [] ∧ (isSign w = true ∨ Closed w ∨ w.getLast? = some 36)

theorem good_fl {cur : Bs} (h : Closed cur) : ∀ w ∈ fl cur, Good w := by
  intro w hw
  unfold fl at hw
  split at hw
  · cases hw
  · rename_i hne
    rw [List.mem_singleton.1 hw]
    exact ⟨hne, .inr (.inl h)⟩

theorem good_fl36 (cur : Bs) : ∀ w ∈ fl (cur ++ [36]), Good w := by
  intro w hw
  rw [fl_ne (by simp)] at hw
  rw [List.mem_singleton.1 hw]
  exact ⟨by simp, .inr (.inr (by simp))⟩

theorem good_sign {w : Bs} (h : isSign w = true) : Good w := by
  refine ⟨?_, .inl h⟩
  rintro rfl
  exact absurd h (by decide)

theorem good_W : ∀ (n : Nat) (s cur : Bs), s.length ≤ n → Closed cur → ∀ w ∈ W cur s, Good w
  | _, [], cur, _, hc, w, hw => by rw [W_end] at hw; exact good_fl hc w hw
  | 0, c :: r, cur, hn, _, w, _ => by simp at hn
  | n + 1, c :: r, cur, hn, hc, w, hw => by
    simp only [List.length_cons] at hn
    have hr : r.length ≤ n := by omega
    by_cases h0 : c = 36
    · subst h0
      rw [W_esc] at hw
      cases r with
      | nil =>
        simp only [List.take_nil, List.drop_nil] at hw
        rw [W_end] at hw
        exact good_fl36 cur w hw
      | cons d r =>
        simp only [List.take_succ_cons, List.take_zero, List.drop_succ_cons, List.drop_zero] at hw
        simp only [List.length_cons] at hr
        exact good_W n r _ (by omega) (hc.app (Closed.esc d)) w hw
    by_cases h1 : c = 32
    · subst h1
      rw [W_blank] at hw
      rcases List.mem_append.1 hw with h | h
      · exact good_fl hc w h
      · exact good_W n r _ hr Closed.nil w h
    by_cases h2 : c = 58
    · subst h2
      rw [W_colon] at hw
      rcases List.mem_append.1 hw with h | h
      · exact good_fl hc w h
      rcases List.mem_cons.1 h with h | h
      · rw [h]; exact good_sign (by decide)
      · exact good_W n r _ hr Closed.nil w h
    by_cases h3 : c = 124
    · subst h3
      by_cases hh : r.head? = some 124
      · obtain ⟨t, rfl⟩ : ∃ t, r = 124 :: t := by cases r with | nil => cases hh | cons a t => exact ⟨t, by cases hh; rfl⟩
        rw [W_bar2] at hw
        rcases List.mem_append.1 hw with h | h
        · exact good_fl hc w h
        rcases List.mem_cons.1 h with h | h
        · rw [h]; exact good_sign (by decide)
        · simp only [List.length_cons] at hr
          exact good_W n t _ (by omega) Closed.nil w h
      · rw [W_bar1 _ _ hh] at hw
        rcases List.mem_append.1 hw with h | h
        · exact good_fl hc w h
        rcases List.mem_cons.1 h with h | h
        · rw [h]; exact good_sign (by decide)
        · exact good_W n r _ hr Closed.nil w h
    rw [W_plain _ _ _ h0 h1 h2 h3] at hw
    exact good_W n r _ hr (hc.app (Closed.plain h0 h1 h2 h3)) w hw

theorem good_words {s w : Bs} (h : w ∈ words s) : Good w := good_W s.length s [] (Nat.le_refl _) Closed.nil w h

/-- words with a blank ahead of each -/
def joinB : List Bs → Bs
  | [] => []
  | w :: ws => 32 :: w ++ joinB ws

theorem joinB_head (ws : List Bs) : (joinB ws).head? ≠ some 124 := by cases ws <;> simp [joinB]
theorem joinB_app (a b : List Bs) : joinB (a ++ b) = joinB a ++ joinB b := by
  induction a with
  | nil => rfl
  | cons w ws ih => simp [joinB, ih]
theorem W_join (w : Bs) (hw : w ≠ []) (ws : List Bs) : W w (joinB ws) = w :: W [] (joinB ws) := by
  cases ws with
  | nil => rw [joinB, W_end, W_end, fl_ne hw]; rfl
  | cons v vs =>
    show W w (32 :: (v ++ joinB vs)) = w :: W [] (32 :: (v ++ joinB vs))
    rw [W_blank, W_blank, fl_ne hw]; rfl

theorem words_join : ∀ ws : List Bs, (∀ w ∈ ws, Good w ∧ w.getLast? ≠ some 36) → words (joinB ws) = ws
  | [], _ => rfl
  | w :: ws, h => by
    have ih := words_join ws fun v hv => h v (List.mem_cons_of_mem _ hv)
    obtain ⟨⟨hne, hg⟩, hl⟩ := h w (List.mem_cons_self ..)
    unfold words at ih ⊢
    show W [] (32 :: (w ++ joinB ws)) = _
    rw [W_blank, fl_nil, List.nil_append]
    rcases hg with hs | hc | hb
    · have hs' : w = [58] ∨ w = [124] ∨ w = [124, 124] := of_decide_eq_true hs
      rcases hs' with rfl | rfl | rfl
      · show W [] (58 :: joinB ws) = _
        rw [W_colon, ih]; rfl
      · show W [] (124 :: joinB ws) = _
        rw [W_bar1 _ _ (joinB_head ws), ih]; rfl
      · show W [] (124 :: 124 :: joinB ws) = _
        rw [W_bar2, ih]; rfl
    · rw [hc, List.nil_append, W_join w hne, ih]
    · exact absurd hb hl

theorem words_again {s : Bs} (h : ∀ w ∈ words s, w.getLast? ≠ some 36) : words (joinB (words s)) = words s :=
  words_join _ fun w hw => ⟨good_words hw, h w hw⟩

theorem fl_len (cur : Bs) : (fl cur).length ≤ cur.length := by
  unfold fl
  split
  · simp
  · rename_i h; cases cur with | nil => exact absurd rfl h | cons a r => simp

/-- words are no longer than the text -/
theorem W_lens : ∀ (n : Nat) (s cur : Bs), s.length ≤ n → ((W cur s).map List.length).sum ≤ cur.length + s.length
  | _, [], cur, _ => by rw [W_end]; unfold fl; split <;> simp
  | 0, c :: r, cur, hn => by simp at hn
  | n + 1, c :: r, cur, hn => by
    simp only [List.length_cons] at hn ⊢
    have hr : r.length ≤ n := by omega
    have hfl : ((fl cur).map List.length).sum ≤ cur.length := by unfold fl; split <;> simp
    by_cases h0 : c = 36
    · subst h0
      rw [W_esc]
      cases r with
      | nil =>
        rw [List.take_nil, List.drop_nil, W_end, fl_ne (by simp)]
        simp
      | cons d r =>
        simp only [List.length_cons] at hr ⊢
        have := W_lens n r (cur ++ [36, d]) (by omega)
        simp only [List.take_succ_cons, List.take_zero, List.drop_succ_cons, List.drop_zero]
        simp only [List.length_append, List.length_cons, List.length_nil] at this
        omega
    by_cases h1 : c = 32
    · subst h1
      rw [W_blank, List.map_append, List.sum_append]
      have := W_lens n r [] hr
      simp at this ⊢
      omega
    by_cases h2 : c = 58
    · subst h2
      rw [W_colon, List.map_append, List.sum_append]
      have := W_lens n r [] hr
      simp at this ⊢
      omega
    by_cases h3 : c = 124
    · subst h3
      by_cases hh : r.head? = some 124
      · obtain ⟨t, rfl⟩ : ∃ t, r = 124 :: t := by cases r with | nil => cases hh | cons a t => exact ⟨t, by cases hh; rfl⟩
        rw [W_bar2, List.map_append, List.sum_append]
        simp only [List.length_cons] at hr
        have := W_lens n t [] (by omega)
        simp at this ⊢
        omega
      · rw [W_bar1 _ _ hh, List.map_append, List.sum_append]
        have := W_lens n r [] hr
        simp at this ⊢
        omega
    rw [W_plain _ _ _ h0 h1 h2 h3]
    have := W_lens n r (cur ++ [c]) hr
    simp at this
    omega
theorem words_lens (s : Bs) : ((words s).map List.length).sum ≤ s.length := by
  have := W_lens s.length s [] (Nat.le_refl _)
  rw [List.length_nil, Nat.zero_add] at this
  exact this

theorem length_le_sum : ∀ ws : List Bs, (∀ w ∈ ws, w ≠ []) → ws.length ≤ (ws.map List.length).sum
  | [], _ => by simp
  | w :: ws, h => by
    have ih := length_le_sum ws fun v hv => h v (List.mem_cons_of_mem _ hv)
    have : 0 < w.length := List.length_pos_iff.2 (h w (List.mem_cons_self ..))
    simp
    omega

theorem words_count (s : Bs) : (words s).length ≤ s.length :=
  Nat.le_trans (length_le_sum _ fun _ hw => (good_words hw).1) (words_lens s)

theorem mem_len (ws : List Bs) {w : Bs} (h : w ∈ ws) : w.length ≤ (ws.map List.length).sum := by
  induction ws with
  | nil => cases h
  | cons v vs ih =>
    rcases List.mem_cons.1 h with rfl | h
    · simp
    · have := ih h
      simp
      omega

theorem word_len {s w : Bs} (h : w ∈ words s) : w.length ≤ s.length := Nat.le_trans (mem_len _ h) (words_lens s)
end Go.Proofs.YtbohnjiachnadaaDoor.Lx
