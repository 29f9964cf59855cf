/-
  THE LAW LexBlanks: its words, and the lines that they make.
-/
import Derived.Test.YtbohnjiachnadaaDoorLdWalk
namespace Go.Proofs.YtbohnjiachnadaaDoor.Lx
open Go.RowKit
set_option linter.unusedVariables false

def wd : Nat → Bs
  | 0 => [97]
  | 1 => [98, 99]
  | 2 => [100, 36, 32, 101]
  | 3 => [102, 36, 36]
  | 4 => [58]
  | 5 => [124]
  | 6 => [124, 124]
  | 7 => [36, 103]
  | _ => [104, 36, 58, 105]

theorem W_wd : ∀ (k : Nat) (r : Bs), W [] (wd k ++ 32 :: r) = wd k :: W [] r
  | 0, r => by
    show W [] (97 :: 32 :: r) = _
    rw [W_plain _ _ _ (by decide) (by decide) (by decide) (by decide), W_blank]; rfl
  | 1, r => by
    show W [] (98 :: 99 :: 32 :: r) = _
    rw [W_plain _ _ _ (by decide) (by decide) (by decide) (by decide), W_plain _ _ _ (by decide) (by decide) (by decide) (by decide), W_blank]; rfl
  | 2, r => by
    show W [] (100 :: 36 :: 32 :: 101 :: 32 :: r) = _
    rw [W_plain _ _ _ (by decide) (by decide) (by decide) (by decide), W_esc]
    show W [100, 36, 32] (101 :: 32 :: r) = _
    rw [W_plain _ _ _ (by decide) (by decide) (by decide) (by decide), W_blank]; rfl
  | 3, r => by
    show W [] (102 :: 36 :: 36 :: 32 :: r) = _
    rw [W_plain _ _ _ (by decide) (by decide) (by decide) (by decide), W_esc]
    show W [102, 36, 36] (32 :: r) = _
    rw [W_blank]; rfl
  | 4, r => by
    show W [] (58 :: 32 :: r) = _
    rw [W_colon, W_blank]; rfl
  | 5, r => by
    show W [] (124 :: 32 :: r) = _
    rw [W_bar1 _ _ (by simp), W_blank]; rfl
  | 6, r => by
    show W [] (124 :: 124 :: 32 :: r) = _
    rw [W_bar2, W_blank]; rfl
  | 7, r => by
    show W [] (36 :: 103 :: 32 :: r) = _
    rw [W_esc]
    show W [36, 103] (32 :: r) = _
    rw [W_blank]; rfl
  | k + 8, r => by
    show W [] (104 :: 36 :: 58 :: 105 :: 32 :: r) = _
    rw [W_plain _ _ _ (by decide) (by decide) (by decide) (by decide), W_esc]
    show W [104, 36, 58] (105 :: 32 :: r) = _
    rw [W_plain _ _ _ (by decide) (by decide) (by decide) (by decide), W_blank]; rfl

theorem W_skip (r : Bs) : W [] (32 :: r) = W [] r := by rw [W_blank, fl_nil]; rfl

/-- the words of these, parted by blanks, one z behind -/
def pl (ks : List Nat) : Bs := (ks.flatMap fun k => wd k ++ [32]) ++ [122]
def wi (ks : List Nat) : Bs := (ks.flatMap fun k => wd k ++ [32, 32, 32, 32]) ++ [122]
theorem pl_cons (k : Nat) (ks : List Nat) : pl (k :: ks) = wd k ++ 32 :: pl ks := by simp [pl]
theorem wi_cons (k : Nat) (ks : List Nat) : wi (k :: ks) = wd k ++ 32 :: 32 :: 32 :: 32 :: wi ks := by simp [wi]
theorem words_pl : ∀ ks : List Nat, words (pl ks) = ks.map wd ++ [[122]]
  | [] => by decide
  | k :: ks => by
    unfold words
    rw [pl_cons, W_wd]
    show wd k :: words (pl ks) = _
    rw [words_pl ks]
    rfl
theorem words_wi : ∀ ks : List Nat, words (wi ks) = ks.map wd ++ [[122]]
  | [] => by decide
  | k :: ks => by
    unfold words
    rw [wi_cons, W_wd, W_skip, W_skip, W_skip]
    show wd k :: words (wi ks) = _
    rw [words_wi ks]
    rfl

theorem wd_head : ∀ k, ∃ c r, wd k = c :: r ∧ c ≠ 32 ∧ c ≠ 35
  | 0 => ⟨_, _, rfl, by decide, by decide⟩
  | 1 => ⟨_, _, rfl, by decide, by decide⟩
  | 2 => ⟨_, _, rfl, by decide, by decide⟩
  | 3 => ⟨_, _, rfl, by decide, by decide⟩
  | 4 => ⟨_, _, rfl, by decide, by decide⟩
  | 5 => ⟨_, _, rfl, by decide, by decide⟩
  | 6 => ⟨_, _, rfl, by decide, by decide⟩
  | 7 => ⟨_, _, rfl, by decide, by decide⟩
  | k + 8 => ⟨_, _, rfl, by decide, by decide⟩

theorem dropW_ne {c : UInt8} {r : Bs} (h : c ≠ 32) : (c :: r).dropWhile (· == (32 : UInt8)) = c :: r := by
  have : (c == (32 : UInt8)) = false := by simpa using h
  rw [List.dropWhile_cons, if_neg (by rw [this]; decide)]
theorem dropW_bl (r : Bs) : ((32 : UInt8) :: r).dropWhile (· == 32) = r.dropWhile (· == (32 : UInt8)) := by
  rw [List.dropWhile_cons, if_pos (by decide)]
theorem pl_head (ks : List Nat) : ∃ c r, pl ks = c :: r ∧ c ≠ 32 ∧ c ≠ 35 := by
  cases ks with
  | nil => exact ⟨_, _, rfl, by decide, by decide⟩
  | cons k ks =>
    obtain ⟨c, r, h, h1, h2⟩ := wd_head k
    exact ⟨c, _, by rw [pl_cons, h]; rfl, h1, h2⟩
theorem wi_head (ks : List Nat) : ∃ c r, wi ks = c :: r ∧ c ≠ 32 ∧ c ≠ 35 := by
  cases ks with
  | nil => exact ⟨_, _, rfl, by decide, by decide⟩
  | cons k ks =>
    obtain ⟨c, r, h, h1, h2⟩ := wd_head k
    exact ⟨c, _, by rw [wi_cons, h]; rfl, h1, h2⟩

theorem esc_z (x : Bs) {c : UInt8} (hc : c ≠ 36) : escT (x ++ [c]) = false := by
  have e : Lib.trimRightB (x ++ [c]) 36 = x ++ [c] := by
    unfold Lib.trimRightB
    have : (c == (36 : UInt8)) = false := by simpa using hc
    rw [List.reverse_append, List.reverse_singleton, List.singleton_append, List.dropWhile_cons, if_neg (by rw [this]; decide)]
    simp
  unfold escT
  rw [e, Nat.sub_self]
  rfl
theorem esc_dollar (x : Bs) {c : UInt8} (hc : c ≠ 36) : escT (x ++ [c, 36]) = true := by
  have e : Lib.trimRightB (x ++ [c, 36]) 36 = x ++ [c] := by
    unfold Lib.trimRightB
    have : (c == (36 : UInt8)) = false := by simpa using hc
    rw [show x ++ [c, 36] = (x ++ [c]) ++ [36] by simp, List.reverse_append, List.reverse_singleton, List.singleton_append, List.dropWhile_cons, if_pos (by decide), List.reverse_append, List.reverse_singleton, List.singleton_append, List.dropWhile_cons, if_neg (by rw [this]; decide)]
    simp
  unfold escT
  rw [e]
  simp
theorem trimR_z (x : Bs) : Lib.trimRightB (x ++ [122]) 32 = x ++ [122] := by
  unfold Lib.trimRightB
  rw [List.reverse_append, List.reverse_singleton, List.singleton_append, List.dropWhile_cons, if_neg (by decide)]
  simp
theorem trimR_bl (x : Bs) : Lib.trimRightB (x ++ [32]) 32 = Lib.trimRightB x 32 := by
  unfold Lib.trimRightB
  rw [List.reverse_append, List.reverse_singleton, List.singleton_append, List.dropWhile_cons, if_pos (by decide)]

theorem trim_pl (ks : List Nat) : trimT (pl ks) = pl ks := by
  obtain ⟨c, r, h, h1, _⟩ := pl_head ks
  have hd : (pl ks).dropWhile (· == 32) = pl ks := by rw [h, dropW_ne h1]
  unfold trimT
  rw [hd, show Lib.trimRightB (pl ks) 32 = pl ks from trimR_z _]
  simp only
  rw [show escT (pl ks) = false from esc_z _ (by decide)]
  rfl
theorem trim_wi (ks : List Nat) : trimT ([32, 32, 32] ++ wi ks ++ [32, 32]) = wi ks := by
  obtain ⟨c, r, h, h1, _⟩ := wi_head ks
  have hd : ([32, 32, 32] ++ wi ks ++ [32, 32]).dropWhile (· == 32) = wi ks ++ [32, 32] := by
    show ((32 : UInt8) :: 32 :: 32 :: (wi ks ++ [32, 32])).dropWhile (· == 32) = _
    rw [dropW_bl, dropW_bl, dropW_bl, h, List.cons_append, dropW_ne h1]
  have ht : Lib.trimRightB (wi ks ++ [32, 32]) 32 = wi ks := by
    rw [show wi ks ++ [32, 32] = (wi ks ++ [32]) ++ [32] by simp, trimR_bl, trimR_bl]
    exact trimR_z _
  unfold trimT
  rw [hd, ht]
  simp only
  rw [show escT (wi ks) = false from esc_z _ (by decide)]
  rfl

/-- rows that go on -/
def fY : List Nat → Bs
  | [] => [122, 32, 32]
  | k :: _ => wd k ++ [32, 32, 32, 32, 36]
def rY : List Nat → List Bs
  | [] => []
  | _ :: ks => ([32, 32] ++ fY ks) :: rY ks
theorem fY_head (ks : List Nat) : ∃ c r, fY ks = c :: r ∧ c ≠ 32 ∧ c ≠ 35 := by
  cases ks with
  | nil => exact ⟨_, _, rfl, by decide, by decide⟩
  | cons k ks =>
    obtain ⟨c, r, h, h1, h2⟩ := wd_head k
    exact ⟨c, _, by show wd k ++ _ = _; rw [h]; rfl, h1, h2⟩
theorem eat_Y (tail : List Bs) : ∀ (ks : List Nat) (A : Bs), eat (A ++ fY ks) (rY ks ++ tail) = some (A ++ wi ks ++ [32, 32], tail)
  | [], A => by
    show eat (A ++ [122, 32, 32]) tail = _
    rw [on_stop (by rw [show A ++ [122, 32, 32] = (A ++ [122, 32]) ++ [32] by simp]; exact esc_z _ (by decide))]
    simp [wi]
  | k :: ks, A => by
    show eat (A ++ (wd k ++ [32, 32, 32, 32, 36])) (([32, 32] ++ fY ks) :: (rY ks ++ tail)) = _
    have h1 : escT (A ++ (wd k ++ [32, 32, 32, 32, 36])) = true := by
      rw [show A ++ (wd k ++ [32, 32, 32, 32, 36]) = (A ++ wd k ++ [32, 32, 32]) ++ [32, 36] by simp]
      exact esc_dollar _ (by decide)
    obtain ⟨c, r, h, h2, _⟩ := fY_head ks
    have h3 : ([32, 32] ++ fY ks).dropWhile (· == (32 : UInt8)) = fY ks := by
      show ((32 : UInt8) :: 32 :: fY ks).dropWhile (· == 32) = _
      rw [dropW_bl, dropW_bl, h, dropW_ne h2]
    have h4 : (A ++ (wd k ++ [32, 32, 32, 32, 36])).take ((A ++ (wd k ++ [32, 32, 32, 32, 36])).length - 1) = A ++ wd k ++ [32, 32, 32, 32] := by
      rw [show A ++ (wd k ++ [32, 32, 32, 32, 36]) = (A ++ wd k ++ [32, 32, 32, 32]) ++ [36] by simp, List.length_append, List.length_singleton, Nat.add_sub_cancel]
      exact List.take_left' rfl
    rw [on_more h1, h3, h4, eat_Y tail ks]
    rw [wi_cons]
    simp
theorem wd_no : ∀ k, (10 : UInt8) ∉ wd k
  | 0 => by decide
  | 1 => by decide
  | 2 => by decide
  | 3 => by decide
  | 4 => by decide
  | 5 => by decide
  | 6 => by decide
  | 7 => by decide
  | k + 8 => by show (10 : UInt8) ∉ [104, 36, 58, 105]; decide
theorem ok_app (a b : Bs) : okB (a ++ b) = (okB a && okB b) := by unfold okB; rw [List.all_append]
theorem wd_ok : ∀ k, okB (wd k) = true
  | 0 => rfl
  | 1 => rfl
  | 2 => rfl
  | 3 => rfl
  | 4 => rfl
  | 5 => rfl
  | 6 => rfl
  | 7 => rfl
  | k + 8 => rfl
theorem pl_ok : ∀ ks, okB (pl ks) = true
  | [] => rfl
  | k :: ks => by
    rw [pl_cons, ok_app, wd_ok, Bool.true_and]
    show okB ([32] ++ pl ks) = true
    rw [ok_app, pl_ok ks]; rfl
theorem wi_ok : ∀ ks, okB (wi ks) = true
  | [] => rfl
  | k :: ks => by
    rw [wi_cons, ok_app, wd_ok, Bool.true_and]
    show okB ([32, 32, 32, 32] ++ wi ks) = true
    rw [ok_app, wi_ok ks]; rfl
theorem fY_ok (ks : List Nat) : okB (fY ks) = true := by
  cases ks with
  | nil => rfl
  | cons k ks => show okB (wd k ++ _) = true; rw [ok_app, wd_ok]; rfl
theorem rY_ok : ∀ (ks : List Nat) (r : Bs), r ∈ rY ks → okB r = true
  | [], r, h => by cases h
  | k :: ks, r, h => by
    rcases List.mem_cons.1 h with rfl | h
    · rw [ok_app, fY_ok]; rfl
    · exact rY_ok ks r h
theorem pl_no : ∀ ks, (10 : UInt8) ∉ pl ks
  | [] => by decide
  | k :: ks => by
    rw [pl_cons]
    intro h
    rcases List.mem_append.1 h with h | h
    · exact wd_no k h
    · rcases List.mem_cons.1 h with h | h
      · cases h
      · exact pl_no ks h

/-- the wide text's body -/
def body (y : Bool) (ks : List Nat) : Bs := ks.flatMap fun k => wd k ++ [32, 32, 32, 32] ++ (if y then [36, 10, 32, 32] else [])
theorem body_snoc (y : Bool) (ks : List Nat) (k : Nat) : body y (ks ++ [k]) = body y ks ++ (wd k ++ [32, 32, 32, 32] ++ (if y then [36, 10, 32, 32] else [])) := by simp [body]
theorem body_wi (ks : List Nat) : body false ks ++ [122] = wi ks := by simp [body, wi]
theorem body_no : ∀ ks, (10 : UInt8) ∉ body false ks
  | [] => by decide
  | k :: ks => by
    intro h
    have e : body false (k :: ks) = wd k ++ ([32, 32, 32, 32] ++ body false ks) := by simp [body]
    rw [e] at h
    rcases List.mem_append.1 h with h | h
    · exact wd_no k h
    · rcases List.mem_append.1 h with h | h
      · revert h; decide
      · exact body_no ks h

theorem rows_Y : ∀ (ks : List Nat) (A : Bs), (10 : UInt8) ∉ A → rowsOf (A ++ (body true ks ++ [122, 32, 32, 10, 10, 35])) = (A ++ fY ks) :: (rY ks ++ [[], [35]])
  | [], A, h => by
    rw [show A ++ (body true [] ++ [122, 32, 32, 10, 10, 35]) = (A ++ [122, 32, 32]) ++ 10 :: ([] ++ 10 :: [35]) by simp [body], rows_cons (by simp [h]), rows_cons (by decide), rows_last (by decide)]
    rfl
  | k :: ks, A, h => by
    rw [show A ++ (body true (k :: ks) ++ [122, 32, 32, 10, 10, 35]) = (A ++ (wd k ++ [32, 32, 32, 32, 36])) ++ 10 :: ([32, 32] ++ (body true ks ++ [122, 32, 32, 10, 10, 35])) by simp [body], rows_cons (by
      intro h2
      rcases List.mem_append.1 h2 with h2 | h2
      · exact h h2
      · rcases List.mem_append.1 h2 with h2 | h2
        · exact wd_no k h2
        · revert h2; decide), rows_Y ks [32, 32] (by decide)]
    rfl
theorem rows_F (ks : List Nat) (A : Bs) (h : (10 : UInt8) ∉ A) : rowsOf (A ++ (body false ks ++ [122, 32, 32, 10, 10, 35])) = [A ++ wi ks ++ [32, 32], [], [35]] := by
  rw [show A ++ (body false ks ++ [122, 32, 32, 10, 10, 35]) = (A ++ (body false ks ++ [122]) ++ [32, 32]) ++ 10 :: ([] ++ 10 :: [35]) by simp, rows_cons (by
      rw [List.append_assoc, List.append_assoc]
      intro h2
      rcases List.mem_append.1 h2 with h2 | h2
      · exact h h2
      · rcases List.mem_append.1 h2 with h2 | h2
        · exact body_no ks h2
        · revert h2; decide), rows_cons (by decide), rows_last (by decide), body_wi]

/-- the wide text -/
def wide (y : Bool) (ks : List Nat) : Bs := [10, 35, 32, 120, 36, 10, 32, 32, 10] ++ ([32, 32, 32] ++ body y ks) ++ [122, 32, 32, 10, 10, 35]
theorem cnt_of {s r : Bs} {c : UInt8} (h : s.dropWhile (· == (32 : UInt8)) = c :: r) (hc : c ≠ 35) : cntB s = true := by
  unfold cntB
  rw [h]
  simpa using hc
theorem rows_wide (y : Bool) (ks : List Nat) : ∃ first rest t, rowsOf (wide y ks) = [] :: [35, 32, 120, 36] :: [32, 32] :: first :: rest ∧ (∀ r ∈ first :: rest, okB r = true) ∧ cntB first = true ∧ first.head? = some 32 ∧ eat first rest = some (t, [[], [35]]) ∧ trimT t = wi ks := by
  have e : wide y ks = [] ++ 10 :: ([35, 32, 120, 36] ++ 10 :: ([32, 32] ++ 10 :: ([32, 32, 32] ++ (body y ks ++ [122, 32, 32, 10, 10, 35])))) := by simp [wide]
  rw [e, rows_cons (by decide), rows_cons (by decide), rows_cons (by decide)]
  cases y with
  | true =>
    rw [rows_Y ks _ (by decide)]
    obtain ⟨c, r, h, h1, h2⟩ := fY_head ks
    refine ⟨_, _, _, rfl, fun r hr => ?_, ?_, rfl, eat_Y [[], [35]] ks [32, 32, 32], trim_wi ks⟩
    · rcases List.mem_cons.1 hr with rfl | hr
      · rw [ok_app, fY_ok]; rfl
      · rcases List.mem_append.1 hr with hr | hr
        · exact rY_ok ks _ hr
        · rcases List.mem_cons.1 hr with rfl | hr
          · rfl
          · rw [List.mem_singleton.1 hr]; rfl
    · refine cnt_of (c := c) (r := r) ?_ h2
      show ((32 : UInt8) :: 32 :: 32 :: fY ks).dropWhile (· == 32) = _
      rw [dropW_bl, dropW_bl, dropW_bl, h, dropW_ne h1]
  | false =>
    rw [rows_F ks _ (by decide)]
    obtain ⟨c, r, h, h1, h2⟩ := wi_head ks
    refine ⟨_, _, _, rfl, fun r hr => ?_, ?_, rfl, on_stop (by rw [show [32, 32, 32] ++ wi ks ++ [32, 32] = ([32, 32, 32] ++ wi ks ++ [32]) ++ [32] by simp]; exact esc_z _ (by decide)), trim_wi ks⟩
    · rcases List.mem_cons.1 hr with rfl | hr
      · rw [ok_app, ok_app, wi_ok]; rfl
      · rcases List.mem_cons.1 hr with rfl | hr
        · rfl
        · rw [List.mem_singleton.1 hr]; rfl
    · refine cnt_of (c := c) (r := r ++ [32, 32]) ?_ h2
      show ((32 : UInt8) :: 32 :: 32 :: (wi ks ++ [32, 32])).dropWhile (· == 32) = _
      rw [dropW_bl, dropW_bl, dropW_bl, h, List.cons_append, dropW_ne h1]

theorem lines_wide {N : Nat} {first t : Bs} {rest : List Bs} (hN : N = rest.length + 4) (hc : cntB first = true) (hh : first.head? = some 32) (he : eat first rest = some (t, [[], [35]])) : lines N ([] :: [35, 32, 120, 36] :: [32, 32] :: first :: rest) = some [⟨true, trimT t, 4⟩] := by
  rw [lines_skip N _ (by decide), lines_skip N _ (by decide), lines_skip N _ (by decide), lines_line N hc he, lines_skip N _ (by decide), lines_skip N _ (by decide), lines_nil, hh, show N - rest.length = 4 by omega]
  rfl
theorem lines_pl (ks : List Nat) : lines 1 [pl ks] = some [⟨false, pl ks, 1⟩] := by
  obtain ⟨c, r, h, h1, h2⟩ := pl_head ks
  have hc : cntB (pl ks) = true := by
    unfold cntB
    rw [h, dropW_ne h1]
    simpa using h2
  rw [lines_line 1 hc (on_stop (esc_z _ (by decide))), lines_nil, trim_pl]
  have : ((pl ks).head? == some (32 : UInt8)) = false := by rw [h]; simpa using h1
  rw [this]
  rfl
end Go.Proofs.YtbohnjiachnadaaDoor.Lx
