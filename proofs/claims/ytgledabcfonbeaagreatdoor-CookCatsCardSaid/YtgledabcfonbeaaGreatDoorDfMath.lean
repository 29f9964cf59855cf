/-
  DEPFILES AS LISTS OF BYTES: lines, words, names; what a text tells. No program, no world.
-/
import Derived.Test.YtgledabcfonbeaaGreatDoorPaMath
import Derived.Lib.Replace
import Derived.Lib.TrimByte
namespace Go.Proofs.YtgledabcfonbeaaGreatDoor.Df
open Go.Proofs.YtgledabcfonbeaaGreatDoor

/-! ### broken lines, put together -/
def rep : Bs → Bs
  | [] => []
  | [c] => [c]
  | c :: d :: r => if c = 92 ∧ d = 10 then 32 :: rep r else c :: rep (d :: r)

theorem rep_hit (r : Bs) : rep (92 :: 10 :: r) = 32 :: rep r := by rw [rep, if_pos ⟨rfl, rfl⟩]
theorem rep_no {c : UInt8} {r : Bs} (h : ¬ (c = 92 ∧ r.head? = some 10)) : rep (c :: r) = c :: rep r := by
  cases r with
  | nil => rfl
  | cons d r => rw [rep, if_neg (fun e => h ⟨e.1, by simp [e.2]⟩)]

theorem occ0 (c : UInt8) (r : Bs) : Lib.occAt (c :: r) [92, 10] 0 = decide (c = 92 ∧ r.head? = some 10) := by
  unfold Lib.occAt
  cases r with
  | nil => simp [List.isPrefixOf]
  | cons d r =>
    show ((92 : UInt8) == c && ((10 : UInt8) == d && true)) = _
    rw [Bool.and_true, Bool.eq_iff_iff, Bool.and_eq_true, beq_iff_eq, beq_iff_eq, decide_eq_true_iff]
    show (92 : UInt8) = c ∧ (10 : UInt8) = d ↔ c = 92 ∧ some d = some 10
    rw [Option.some.injEq, eq_comm, @eq_comm _ (10 : UInt8)]
theorem occS (c : UInt8) (r : Bs) (j : Nat) : Lib.occAt (c :: r) [92, 10] (j + 1) = Lib.occAt r [92, 10] j := by simp [Lib.occAt]

theorem rep_none : ∀ s : Bs, (∀ j, j ≤ s.length → Lib.occAt s [92, 10] j = false) → rep s = s
  | [], _ => rfl
  | c :: r, h => by
    have h0 := h 0 (Nat.zero_le _)
    rw [occ0] at h0
    rw [rep_no (of_decide_eq_false h0), rep_none r fun j hj => by
      have := h (j + 1) (by simp; omega)
      rwa [occS] at this]
theorem rep_at : ∀ (a r : Bs), (∀ j, j < a.length → Lib.occAt (a ++ 92 :: 10 :: r) [92, 10] j = false) → rep (a ++ 92 :: 10 :: r) = a ++ 32 :: rep r
  | [], r, _ => rep_hit r
  | c :: a, r, h => by
    have h0 := h 0 (by simp)
    rw [List.cons_append, occ0] at h0
    rw [List.cons_append, rep_no (of_decide_eq_false h0), rep_at a r fun j hj => by
      have := h (j + 1) (by simp; omega)
      rwa [List.cons_append, occS] at this]
    rfl

theorem occ_parts {s : Bs} {i : Nat} (h : Lib.occAt s [92, 10] i = true) : s = s.take i ++ 92 :: 10 :: s.drop (i + 2) := by
  unfold Lib.occAt at h
  have h1 := List.isPrefixOf_iff_prefix.1 h
  obtain ⟨t, ht⟩ := h1
  have h2 : s.drop (i + 2) = t := by
    have : s.drop (i + 2) = (s.drop i).drop 2 := by rw [List.drop_drop]
    rw [this, ← ht]
    rfl
  rw [h2]
  have h3 := (List.take_append_drop i s).symm
  rw [← ht] at h3
  exact h3

theorem repK : ∀ (n : Nat) (s : Bs), s.length ≤ n → Lib.replaceK [92, 10] [32] (Lib.count s [92, 10]) s = rep s := by
  intro n
  induction n with
  | zero =>
    intro s hs
    obtain rfl : s = [] := List.eq_nil_of_length_eq_zero (by omega)
    decide
  | succ n ih =>
    intro s hs
    rcases Lib.index_spec s [92, 10] with ⟨h1, h2⟩ | ⟨i, h1, h2, h3, h4⟩
    · rw [Lib.count_miss h1, rep_none s h2]
      rfl
    · have hp := occ_parts h3
      have hlen : i + 2 ≤ s.length := by
        have := congrArg List.length hp
        simp at this
        omega
      have hc : Lib.count s [92, 10] = Lib.count (s.drop (i + 2)) [92, 10] + 1 := by
        rw [Lib.count_hit (by simp) h1]
        show 1 + _ = _ + 1
        rw [Nat.add_comm]
        rfl
      rw [hc, Lib.replaceK_hit _ _ _ _ i h1]
      show s.take i ++ [32] ++ Lib.replaceK _ _ _ (s.drop (i + 2)) = _
      rw [ih (s.drop (i + 2)) (by rw [List.length_drop]; omega)]
      have hr := rep_at (s.take i) (s.drop (i + 2)) fun j hj => by
        rw [← hp]
        exact h4 j (by rw [List.length_take] at hj; omega)
      rw [← hp] at hr
      rw [hr]
      simp
theorem rep_all (s : Bs) : Lib.replaceAll s [92, 10] [32] = rep s := by
  unfold Lib.replaceAll Lib.replace Lib.replaceNum
  rw [if_neg (by decide), if_pos (.inl (by decide))]
  exact repK s.length s (Nat.le_refl _)
theorem rep_len : ∀ s : Bs, (rep s).length ≤ s.length := by
  intro s
  induction s using rep.induct with
  | case1 => simp [rep]
  | case2 c => simp [rep]
  | case3 c d r h ih => rw [rep, if_pos h]; simp; omega
  | case4 c d r h ih => rw [rep, if_neg h]; simp at ih ⊢; omega

/-! ### lines, words -/
def splS (c : UInt8) : Bs → Bs → List Bs
  | cur, [] => [cur]
  | cur, b :: r => if b = c then cur :: splS c [] r else splS c (cur ++ [b]) r
def fl (cur : Bs) : List Bs := if cur = [] then [] else [cur]
def words : Bs → Bs → List Bs
  | cur, [] => fl cur
  | cur, b :: r => if b = 32 then fl cur ++ words [] r else words (cur ++ [b]) r
def blank (l : Bs) : Bool := l.all (· == 32)
def onlyL (L : List Bs) : Bs := match L.filter (fun l => !blank l) with
  | [l] => l
  | _ => []
def cutB (c : UInt8) (l : Bs) : Option (Bs × Bs) := match Lib.indexByte l c with
  | .ofNat i => some (l.take i, l.drop (i + 1))
  | .negSucc _ => none
def cleanAll (ws : List Bs) : Option (List Bs) := if ws.all (fun w => decide ((cleanL w).2 = 0)) then some (ws.map fun w => (cleanL w).1) else none
def onceL (l : List Bs) : List Bs := l.foldl (fun acc x => if acc.contains x then acc else acc ++ [x]) []
def parseP (t : Bs) : Option (Bs × List Bs) :=
  if 16384 < t.length then none else
  match cutB 58 (onlyL (splS 10 [] (rep t))) with
  | none => none
  | some (a, b) => match cleanAll (words [] a), cleanAll (words [] b) with
    | some [o], some ds => some (o, onceL ds)
    | _, _ => none

/-! ### the document's -/
def sepB (b : UInt8) : Bool := b == 32 || b == 10 || b == 58
def tk (b : UInt8) : List Bs := if b = 32 then [] else [[b]]
def tokR : Bs → Bs → List Bs
  | cur, [] => fl cur
  | cur, [b] => if sepB b then fl cur ++ tk b else fl (cur ++ [b])
  | cur, b :: d :: r => if b = 92 ∧ d = 10 then fl cur ++ tokR [] r else if sepB b then fl cur ++ tk b ++ tokR [] (d :: r) else tokR (cur ++ [b]) (d :: r)
def tok : Bs → Bs → List Bs
  | cur, [] => fl cur
  | cur, b :: r => if sepB b then fl cur ++ tk b ++ tok [] r else tok (cur ++ [b]) r
theorem tok_rep (t cur : Bs) : tokR cur t = tok cur (rep t) := by
  induction cur, t using tokR.induct with
  | case1 cur => rfl
  | case2 cur b h =>
    have e : tok cur (rep [b]) = fl cur ++ tk b ++ tok [] [] := by
      show (if sepB b then _ else _) = _
      rw [if_pos h]
    rw [tokR, if_pos h, e]
    simp [tok, fl]
  | case3 cur b h =>
    have e : tok cur (rep [b]) = tok (cur ++ [b]) [] := by
      show (if sepB b then _ else _) = _
      rw [if_neg h]
    rw [tokR, if_neg h, e]
    rfl
  | case4 cur b d r h ih =>
    rw [tokR, if_pos h, rep, if_pos h, tok, if_pos (by decide), ih]
    simp [tk]
  | case5 cur b d r h1 h2 ih =>
    rw [tokR, if_neg h1, if_pos h2, rep, if_neg h1, tok, if_pos h2, ih]
  | case6 cur b d r h1 h2 ih =>
    rw [tokR, if_neg h1, if_neg h2, rep, if_neg h1, tok, if_neg h2, ih]

def dropNL (w : List Bs) : List Bs := w.dropWhile (· == [10])
def trimNL (w : List Bs) : List Bs := (dropNL (dropNL w).reverse).reverse
def okTok (x : Bs) : Bool := x != [58] && x != [10] && decide ((cleanL x).2 = 0)
def tellW : List Bs → Option (Bs × List Bs)
  | o :: c :: ds => if o ≠ [58] ∧ c = [58] ∧ (cleanL o).2 = 0 ∧ ds.all okTok = true then some ((cleanL o).1, onceL (ds.map fun w => (cleanL w).1)) else none
  | _ => none
def refP (t : Bs) : Option (Bs × List Bs) := if 16384 < t.length then none else tellW (trimNL (tokR [] t))
end Go.Proofs.YtgledabcfonbeaaGreatDoor.Df
