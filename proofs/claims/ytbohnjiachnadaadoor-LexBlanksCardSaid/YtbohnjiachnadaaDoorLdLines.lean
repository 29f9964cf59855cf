/-
  THE LINES OF A TEXT.
-/
import Derived.Test.YtbohnjiachnadaaDoorLdLine
import Derived.Laws.MakeOwn
namespace Go.Proofs.YtbohnjiachnadaaDoor.Lx
open Go.RowKit

structure Ln where
  inner : Bool
  text : Bs
  num : Nat

/-- a line that goes on eats the rows behind it -/
def eat : Bs → List Bs → Option (Bs × List Bs)
  | wh, [] => if escT wh then none else some (wh, [])
  | wh, r :: rest => if escT wh then eat (wh.take (wh.length - 1) ++ r.dropWhile (· == 32)) rest else some (wh, r :: rest)

theorem eat_le : ∀ (rest : List Bs) (wh t : Bs) (q : List Bs), eat wh rest = some (t, q) → q.length ≤ rest.length
  | [], wh, t, q, h => by
    unfold eat at h
    split at h
    · cases h
    · cases h; exact Nat.le_refl _
  | r :: rest, wh, t, q, h => by
    unfold eat at h
    split at h
    · have := eat_le rest _ _ _ h; simp; omega
    · cases h; exact Nat.le_refl _

/-- the lines of the rows that are left, N of them in all -/
def lin (N : Nat) : Nat → List Bs → Option (List Ln)
  | 0, _ => some []
  | _ + 1, [] => some []
  | f + 1, r :: rest => if cntB r then (match eat r rest with
      | none => none
      | some (t, q) => (lin N f q).map (⟨r.head? == some 32, trimT t, N - rest.length⟩ :: ·)) else lin N f rest

theorem lin_fuel (N : Nat) : ∀ (f : Nat) (rows : List Bs) (g : Nat), rows.length ≤ f → rows.length ≤ g → lin N f rows = lin N g rows
  | 0, rows, g, h, _ => by
    obtain rfl : rows = [] := List.length_eq_zero_iff.1 (by omega)
    cases g <;> rfl
  | f + 1, [], g, _, _ => by cases g <;> rfl
  | f + 1, r :: rest, 0, _, h => by simp at h
  | f + 1, r :: rest, g + 1, h1, h2 => by
    simp only [List.length_cons] at h1 h2
    unfold lin
    split
    · cases he : eat r rest with
      | none => rfl
      | some p =>
        obtain ⟨t, q⟩ := p
        have := eat_le rest r t q he
        simp only
        rw [lin_fuel N f q g (by omega) (by omega)]
    · exact lin_fuel N f rest g (by omega) (by omega)

/-- the lines of the rows -/
def lines (N : Nat) (rows : List Bs) : Option (List Ln) := lin N rows.length rows
theorem lines_nil (N : Nat) : lines N [] = some [] := rfl
theorem lines_skip (N : Nat) {r : Bs} (rest : List Bs) (h : cntB r = false) : lines N (r :: rest) = lines N rest := by
  unfold lines
  show lin N (rest.length + 1) (r :: rest) = _
  conv => lhs; unfold lin
  rw [h]
  rfl
theorem lines_bad (N : Nat) {r : Bs} {rest : List Bs} (h : cntB r = true) (he : eat r rest = none) : lines N (r :: rest) = none := by
  unfold lines
  show lin N (rest.length + 1) (r :: rest) = _
  unfold lin
  rw [if_pos h, he]
theorem lines_line (N : Nat) {r t : Bs} {rest q : List Bs} (h : cntB r = true) (he : eat r rest = some (t, q)) : lines N (r :: rest) = (lines N q).map (⟨r.head? == some 32, trimT t, N - rest.length⟩ :: ·) := by
  unfold lines
  show lin N (rest.length + 1) (r :: rest) = _
  conv => lhs; unfold lin
  rw [if_pos h, he]
  simp only
  rw [lin_fuel N rest.length q q.length (eat_le _ _ _ _ he) (Nat.le_refl _)]

/-- what is left where a line is being read -/
def goesOn (N : Nat) (L : List Ln) (inner : Bool) (num : Nat) : Option (Bs × List Bs) → Option (List Ln)
  | none => none
  | some (t, q) => (lines N q).map ((L ++ [⟨inner, trimT t, num⟩]) ++ ·)

theorem on_begin {N : Nat} {L : List Ln} {r : Bs} {rest : List Bs} {R : Option (List Ln)} (h : cntB r = true) (hr : (lines N (r :: rest)).map (L ++ ·) = R) : goesOn N L (r.head? == some 32) (N - rest.length) (eat r rest) = R := by
  cases he : eat r rest with
  | none => rw [lines_bad N h he] at hr; exact hr
  | some p =>
    obtain ⟨t, q⟩ := p
    rw [lines_line N h he] at hr
    rw [← hr]
    show (lines N q).map _ = ((lines N q).map _).map _
    cases lines N q <;> simp
theorem on_more {wh r : Bs} {rest : List Bs} (h : escT wh = true) : eat wh (r :: rest) = eat (wh.take (wh.length - 1) ++ r.dropWhile (· == 32)) rest := by
  conv => lhs; unfold eat
  rw [if_pos h]
theorem on_end {wh : Bs} (h : escT wh = true) : eat wh [] = none := by unfold eat; rw [if_pos h]
theorem on_stop {wh : Bs} {rest : List Bs} (h : escT wh = false) : eat wh rest = some (wh, rest) := by
  cases rest <;> (unfold eat; rw [h]; rfl)

def lnV (x : Ln) : List Value := [.bool x.inner, .string (mk x.text), .int .i64 x.num]
def lnsV (L : List Ln) : List Value := L.flatMap lnV
theorem lnsV_snoc (L : List Ln) (x : Ln) : lnsV (L ++ [x]) = lnsV L ++ lnV x := by simp [lnsV]

def Told (w W : World) (v : Value) (L : List Ln) : Prop := W.ownsRow w.heap.size 35 3 v L.length (lnsV L) ∧ Below w.heap.size w W

/-- what comes out -/
def LinesQ (w : World) (N : Nat) (R : Option (List Ln)) (e : Ending) (w' : World) : Prop := match R with
  | none => e = .returned (.tuple #[.slice none 0 0, .int .i64 N, .int .i64 10]) ∧ Below w.heap.size w w'
  | some L => ∃ v, e = .returned (.tuple #[v, .int .i64 0, .int .i64 0]) ∧ Told w w' v L

theorem sum_len {K : List Bs} {M : Nat} (h : ∀ s ∈ K, s.length ≤ M) {j : Nat} {s : Bs} (hs : K[j]? = some s) : s.length ≤ M := h s (List.mem_of_getElem? hs)
end Go.Proofs.YtbohnjiachnadaaDoor.Lx
