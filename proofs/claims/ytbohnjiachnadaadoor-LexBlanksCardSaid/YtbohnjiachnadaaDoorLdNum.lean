/-
  THE LAW LexNumbers: its pieces, and the numbers of their lines.
-/
import Derived.Test.YtbohnjiachnadaaDoorLdBad
namespace Go.Proofs.YtbohnjiachnadaaDoor.Lx
open Go.RowKit

def pRows : Nat → List Bs
  | 0 => [[]]
  | 1 => [[35, 32, 97]]
  | 2 => [[98]]
  | 3 => [[32, 99, 32, 100]]
  | _ => [[101, 32, 36], [32, 102]]
def pText : Nat → Bs
  | 0 => [10]
  | 1 => [35, 32, 97, 10]
  | 2 => [98, 10]
  | 3 => [32, 99, 32, 100, 10]
  | _ => [101, 32, 36, 10, 32, 102, 10]
def rowsT (ks : List Nat) : List Bs := ks.flatMap pRows
def txt (ks : List Nat) : Bs := ks.flatMap pText
def nums : Nat → List Nat → List Nat
  | _, [] => []
  | c, k :: ks => (if 2 ≤ k then [c + 1] else []) ++ nums (c + (pRows k).length) ks

theorem rows_piece : ∀ (k : Nat) (z : Bs), rowsOf (pText k ++ z) = pRows k ++ rowsOf z
  | 0, z => rows_cons (a := []) (by decide)
  | 1, z => rows_cons (a := [35, 32, 97]) (by decide)
  | 2, z => rows_cons (a := [98]) (by decide)
  | 3, z => rows_cons (a := [32, 99, 32, 100]) (by decide)
  | k + 4, z => by
    show rowsOf ([101, 32, 36] ++ 10 :: ([32, 102] ++ 10 :: z)) = _
    rw [rows_cons (by decide), rows_cons (by decide)]
    rfl
theorem rows_txt : ∀ (ks : List Nat) (z : Bs), rowsOf (txt ks ++ z) = rowsT ks ++ rowsOf z
  | [], z => rfl
  | k :: ks, z => by
    show rowsOf ((pText k ++ txt ks) ++ z) = (pRows k ++ rowsT ks) ++ rowsOf z
    rw [List.append_assoc, rows_piece, rows_txt ks z, List.append_assoc]
theorem ok_piece : ∀ (k : Nat) (r : Bs), r ∈ pRows k → okB r = true
  | 0, r, h => by rw [List.mem_singleton.1 h]; rfl
  | 1, r, h => by rw [List.mem_singleton.1 h]; rfl
  | 2, r, h => by rw [List.mem_singleton.1 h]; rfl
  | 3, r, h => by rw [List.mem_singleton.1 h]; rfl
  | k + 4, r, h => by
    rcases List.mem_cons.1 h with rfl | h
    · rfl
    · rw [List.mem_singleton.1 h]; rfl
theorem ok_rows (ks : List Nat) (r : Bs) (h : r ∈ rowsT ks) : okB r = true := by
  obtain ⟨k, _, hk⟩ := List.mem_flatMap.1 h
  exact ok_piece k r hk
theorem pText_le : ∀ k, (pText k).length ≤ 7
  | 0 => by decide
  | 1 => by decide
  | 2 => by decide
  | 3 => by decide
  | k + 4 => Nat.le_refl _
theorem pRows_le : ∀ k, (pRows k).length ≤ 2
  | 0 => by decide
  | 1 => by decide
  | 2 => by decide
  | 3 => by decide
  | k + 4 => Nat.le_refl _
theorem txt_le : ∀ ks : List Nat, (txt ks).length ≤ 7 * ks.length
  | [] => Nat.le_refl _
  | k :: ks => by
    show (pText k ++ txt ks).length ≤ _
    have := pText_le k
    have := txt_le ks
    rw [List.length_append, List.length_cons]
    omega
theorem rowsT_le : ∀ ks : List Nat, (rowsT ks).length ≤ 2 * ks.length
  | [] => Nat.le_refl _
  | k :: ks => by
    show (pRows k ++ rowsT ks).length ≤ _
    have := pRows_le k
    have := rowsT_le ks
    rw [List.length_append, List.length_cons]
    omega
theorem txt_snoc (ks : List Nat) (k : Nat) : txt (ks ++ [k]) = txt ks ++ pText k := by simp [txt]
theorem rowsT_snoc (ks : List Nat) (k : Nat) : rowsT (ks ++ [k]) = rowsT ks ++ pRows k := by simp [rowsT]
theorem nums_snoc : ∀ (c : Nat) (ks : List Nat) (k : Nat), nums c (ks ++ [k]) = nums c ks ++ (if 2 ≤ k then [c + (rowsT ks).length + 1] else [])
  | c, [], k => by simp [nums, rowsT]
  | c, a :: ks, k => by
    show (if 2 ≤ a then [c + 1] else []) ++ nums (c + (pRows a).length) (ks ++ [k]) = ((if 2 ≤ a then [c + 1] else []) ++ nums (c + (pRows a).length) ks) ++ _
    rw [nums_snoc, List.append_assoc]
    have : (rowsT (a :: ks)).length = (pRows a).length + (rowsT ks).length := by
      show (pRows a ++ rowsT ks).length = _
      rw [List.length_append]
    rw [this]
    congr 3
    simp only [Nat.add_assoc]

theorem one_line (N c : Nat) {r t : Bs} {rest q : List Bs} (hc : cntB r = true) (he : eat r rest = some (t, q)) (hN : N = c + (rest.length + 1)) : ∃ x : Ln, x.num = c + 1 ∧ lines N (r :: rest) = (lines N q).map (x :: ·) :=
  ⟨⟨_, _, N - rest.length⟩, by show N - rest.length = c + 1; omega, lines_line N hc he⟩

theorem lines_piece (N c k : Nat) (rest : List Bs) (hN : N = c + (pRows k ++ rest).length) : ∃ Ls : List Ln, Ls.map (·.num) = (if 2 ≤ k then [c + 1] else []) ∧ lines N (pRows k ++ rest) = (lines N rest).map (Ls ++ ·) := by
  match k, hN with
  | 0, _ => exact ⟨[], rfl, by show lines N ([] :: rest) = _; rw [lines_skip N rest (by decide)]; simp⟩
  | 1, _ => exact ⟨[], rfl, by show lines N ([35, 32, 97] :: rest) = _; rw [lines_skip N rest (by decide)]; simp⟩
  | 2, hN =>
    obtain ⟨x, h1, h2⟩ := one_line N c (r := [98]) (rest := rest) (by decide) (on_stop (by decide)) hN
    exact ⟨[x], by rw [List.map_singleton, h1]; rfl, h2⟩
  | 3, hN =>
    obtain ⟨x, h1, h2⟩ := one_line N c (r := [32, 99, 32, 100]) (rest := rest) (by decide) (on_stop (by decide)) hN
    exact ⟨[x], by rw [List.map_singleton, h1]; rfl, h2⟩
  | k + 4, hN =>
    have he : eat [101, 32, 36] ([32, 102] :: rest) = some ([101, 32, 102], rest) := by
      rw [on_more (by decide)]
      exact on_stop (by decide)
    obtain ⟨x, h1, h2⟩ := one_line N c (r := [101, 32, 36]) (rest := [32, 102] :: rest) (by decide) he hN
    refine ⟨[x], ?_, h2⟩
    rw [List.map_singleton, h1, if_pos (by omega)]

theorem lines_txt (N : Nat) (tail : List Bs) : ∀ (ks : List Nat) (c : Nat), N = c + (rowsT ks ++ tail).length → ∃ Ls : List Ln, Ls.map (·.num) = nums c ks ∧ lines N (rowsT ks ++ tail) = (lines N tail).map (Ls ++ ·)
  | [], c, _ => ⟨[], rfl, by show lines N tail = _; simp⟩
  | k :: ks, c, hN => by
    have e : rowsT (k :: ks) ++ tail = pRows k ++ (rowsT ks ++ tail) := by
      show (pRows k ++ rowsT ks) ++ tail = _
      rw [List.append_assoc]
    rw [e] at hN ⊢
    obtain ⟨L1, h1, h2⟩ := lines_piece N c k (rowsT ks ++ tail) hN
    obtain ⟨L2, h3, h4⟩ := lines_txt N tail ks (c + (pRows k).length) (by rw [List.length_append] at hN; omega)
    refine ⟨L1 ++ L2, by rw [List.map_append, h1, h3]; rfl, ?_⟩
    rw [h2, h4]
    cases lines N tail <;> simp

theorem lnsV_at : ∀ (L : List Ln) (i : Nat) (x : Ln), L[i]? = some x → (lnsV L)[i * 3 + 2]? = some (.int .i64 x.num)
  | [], i, x, h => by cases h
  | y :: L, 0, x, h => by cases h; rfl
  | y :: L, i + 1, x, h => by
    have ih := lnsV_at L i x h
    show (lnV y ++ lnsV L)[(i + 1) * 3 + 2]? = _
    rw [List.getElem?_append_right (by simp [lnV]; omega)]
    rw [show (i + 1) * 3 + 2 - (lnV y).length = i * 3 + 2 by simp [lnV]; omega]
    exact ih

/-- whole: with an empty row behind; with one that goes on -/
theorem lines_whole (ks : List Nat) : ∃ Ls : List Ln, Ls.map (·.num) = nums 0 ks ∧ lines ((rowsT ks).length + 1) (rowsT ks ++ [[]]) = some Ls := by
  obtain ⟨Ls, h1, h2⟩ := lines_txt ((rowsT ks).length + 1) [[]] ks 0 (by rw [List.length_append]; simp)
  exact ⟨Ls, h1, by rw [h2, lines_skip _ _ (by decide), lines_nil]; simp⟩
theorem lines_open (ks : List Nat) : lines ((rowsT ks).length + 1) (rowsT ks ++ [[103, 32, 36]]) = none := by
  obtain ⟨Ls, h1, h2⟩ := lines_txt ((rowsT ks).length + 1) [[103, 32, 36]] ks 0 (by rw [List.length_append]; simp)
  rw [h2, lines_bad _ (by decide) (on_end (by decide))]
  rfl
end Go.Proofs.YtbohnjiachnadaaDoor.Lx
