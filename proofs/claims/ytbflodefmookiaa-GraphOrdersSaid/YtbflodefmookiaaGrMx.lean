/-
  ROWS OF BOOLS IN A ROW: who stands below whom, as the document holds it.
-/
import Derived.Test.YtbflodefmookiaaGrRefN
namespace Go.Proofs.Ytbflodefmookiaa.Gr
open Go.RowKit Go.Maps Go.Proofs.Ytbflodefmookiaa Go.Proofs.Ytbflodefmookiaa.Pr

theorem infoBool : (Try.prog.info? 4).map (fun i => (i.zero, i.size, i.bytes)) = some (some (.bool false), 1, 1) := by kernel_rfl
theorem infoBools : (Try.prog.info? 58).map (fun i => (i.zero, i.size, i.bytes)) = some (some (.slice none 0 0), 1, 24) := by kernel_rfl
theorem run_bools (n : Nat) (hn : n ≤ 1000) (base : Nat) (W : World) (hb : base ≤ W.heap.size) : (Instr.makeSlice 58 (.int .i64 (n : Int)) (.int .i64 (n : Int))).run Try.prog W = .ok (.slice (some ⟨W.heap.size, 0, none⟩) n n) (W.alloc (.cells (madeCells #[.bool false] n) 4)) ∧
    (W.alloc (.cells (madeCells #[.bool false] n) 4)).ownsRow base 4 1 (.slice (some ⟨W.heap.size, 0, none⟩) n n) n (List.replicate n (.bool false)) := by
  obtain ⟨i0, hi, hz0, hz1, hz2⟩ := info_parts infoBool
  have hm := run_make (P := Try.prog) W 58 4 i0 (.bool false) Try.underlying58 hi hz0 .i64 .i64 (n : Int) (n : Int) (by omega) (by omega) (by rw [hz2]; omega) (by omega)
  rw [Int.toNat_natCast, hz1, Nat.mul_one] at hm
  refine ⟨hm, ?_⟩
  have h1 := World.ownsRow_lit (base := base) (e := 4) (size := 1) W (madeCells #[.bool false] n) n hb (by unfold maxLen; omega) (by rw [← Array.length_toList, toList_madeCells_one]; simp)
  rw [toList_madeCells_one] at h1
  exact h1
theorem run_boolss (n : Nat) (hn : n ≤ 1000) (base : Nat) (W : World) (hb : base ≤ W.heap.size) : (Instr.makeSlice 74 (.int .i64 (n : Int)) (.int .i64 (n : Int))).run Try.prog W = .ok (.slice (some ⟨W.heap.size, 0, none⟩) n n) (W.alloc (.cells (madeCells #[.slice none 0 0] n) 58)) ∧
    (W.alloc (.cells (madeCells #[.slice none 0 0] n) 58)).ownsRow base 58 1 (.slice (some ⟨W.heap.size, 0, none⟩) n n) n (List.replicate n (.slice none 0 0)) := by
  obtain ⟨i0, hi, hz0, hz1, hz2⟩ := info_parts infoBools
  have hm := run_make (P := Try.prog) W 74 58 i0 (.slice none 0 0) Try.underlying74 hi hz0 .i64 .i64 (n : Int) (n : Int) (by omega) (by omega) (by rw [hz2]; omega) (by omega)
  rw [Int.toNat_natCast, hz1, Nat.mul_one] at hm
  refine ⟨hm, ?_⟩
  have h1 := World.ownsRow_lit (base := base) (e := 58) (size := 1) W (madeCells #[.slice none 0 0] n) n hb (by unfold maxLen; omega) (by rw [← Array.length_toList, toList_madeCells_one]; simp)
  rw [toList_madeCells_one] at h1
  exact h1

def bV (B : Nat → Nat → Bool) (n i : Nat) : List Value := (List.range n).map fun j => .bool (B i j)
def oV (r : Nat → Nat) (n t : Nat) : List Value := (List.range n).map fun i => if i < t then .slice (some ⟨r i, 0, none⟩) n n else .slice none 0 0
def setB (B : Nat → Nat → Bool) (i j : Nat) : Nat → Nat → Bool := fun a b => if a = i ∧ b = j then true else B a b
theorem bV_len (B : Nat → Nat → Bool) (n i : Nat) : (bV B n i).length = n := by simp [bV]
theorem oV_len (r : Nat → Nat) (n t : Nat) : (oV r n t).length = n := by simp [oV]
theorem bV_at {B : Nat → Nat → Bool} {n i j : Nat} (h : j < n) : (bV B n i)[j]? = some (.bool (B i j)) := by simp [bV, h]
theorem oV_at {r : Nat → Nat} {n t i : Nat} (h : i < n) (ht : i < t) : (oV r n t)[i]? = some (.slice (some ⟨r i, 0, none⟩) n n) := by simp [oV, h, ht]
theorem bV_set {B : Nat → Nat → Bool} {n i j : Nat} : (bV B n i).set j (.bool true) = bV (setB B i j) n i := by
  refine List.ext_getElem? fun k => ?_
  by_cases hk : k < n
  · rw [bV_at hk, List.getElem?_set]
    by_cases e : j = k
    · subst e
      simp [bV_len, hk, setB]
    · rw [if_neg e, bV_at hk]
      have : ¬ (i = i ∧ k = j) := fun h => e h.2.symm
      rw [setB, if_neg this]
  · rw [List.getElem?_eq_none (by rw [List.length_set, bV_len]; omega), List.getElem?_eq_none (by rw [bV_len]; omega)]
theorem bV_other {B : Nat → Nat → Bool} {n i j k : Nat} (h : k ≠ i) : bV (setB B i j) n k = bV B n k := by
  unfold bV
  refine List.map_congr_left fun x _ => ?_
  rw [setB, if_neg fun e => h e.1]
theorem oV_set {r : Nat → Nat} {n t q : Nat} : (oV r n t).set t (.slice (some ⟨q, 0, none⟩) n n) = oV (fun i => if i = t then q else r i) n (t + 1) := by
  refine List.ext_getElem? fun k => ?_
  by_cases hk : k < n
  · rw [List.getElem?_set]
    by_cases e : t = k
    · subst e
      simp [oV, hk]
    · rw [if_neg e]
      have e2 : ¬ k = t := fun h => e h.symm
      by_cases h2 : k < t
      · have h3 : k < t + 1 := by omega
        simp [oV, hk, h2, h3, e2]
      · have h3 : ¬ k < t + 1 := by omega
        simp [oV, hk, h2, h3]
  · rw [List.getElem?_eq_none (by rw [List.length_set, oV_len]; omega), List.getElem?_eq_none (by rw [oV_len]; omega)]

/-- the first t rows are made -/
structure Mx (w W : World) (bb : Nat) (C : Array Value) (ty : TypeId) (g n t : Nat) (r : Nat → Nat) (B : Nat → Nat → Bool) : Prop where
  out : W.ownsRow w.heap.size 58 1 (.slice (some ⟨g, 0, none⟩) n n) n (oV r n t)
  row : ∀ i, i < t → W.ownsRow w.heap.size 4 1 (.slice (some ⟨r i, 0, none⟩) n n) n (bV B n i)
  inj : ∀ i j, i < t → j < t → r i = r j → i = j
  le : t ≤ n
  bx : W.heap[bb]? = some (.cells C ty (0, 0))
  bel : Below w.heap.size w W
section
variable {w W W' : World} {bb g n t i j : Nat} {C : Array Value} {ty : TypeId} {r : Nat → Nat} {B : Nat → Nat → Bool}
theorem Mx.below (h : Mx w W bb C ty g n t r B) (hb : Below W.heap.size W W') : Mx w W' bb C ty g n t r B :=
  ⟨owns_below h.out hb, fun i hi => owns_below (h.row i hi) hb, h.inj, h.le, (hb.block _ (lt_some h.bx)).trans h.bx, h.bel.trans (hb.mono h.bel.size)⟩
theorem Mx.rblk (h : Mx w W bb C ty g n t r B) (hi : i < t) : w.heap.size ≤ r i ∧ ∃ D, W.heap[r i]? = some (.cells D 4 (0, 0)) := owns_block (h.row i hi) rfl
theorem Mx.gblk (h : Mx w W bb C ty g n t r B) : w.heap.size ≤ g ∧ ∃ D, W.heap[g]? = some (.cells D 58 (0, 0)) := owns_block h.out rfl
theorem Mx.cell0 (h : Mx w W bb C ty g n t r B) (hi : i < t) : W.cell? ⟨g, i, none⟩ = some (.slice (some ⟨r i, 0, none⟩) n n) := by
  have := h.le
  exact (h.out.cellAt i (by omega)).trans (oV_at (by omega) hi)
theorem Mx.cell1 (h : Mx w W bb C ty g n t r B) (hi : i < t) (hj : j < n) : W.cell? ⟨r i, j, none⟩ = some (.bool (B i j)) :=
  ((h.row i hi).cellAt j (by omega)).trans (bV_at hj)
theorem Mx.frz1 (h : Mx w W bb C ty g n t r B) (hi : i < t) : W.frozen? ⟨r i, j, none⟩ = false := (h.row i hi).frozenAt j
theorem Mx.frz0 (h : Mx w W bb C ty g n t r B) : W.frozen? ⟨g, j, none⟩ = false := h.out.frozenAt j
theorem keepT_setCell {b j : Nat} {v : Value} {D : Array Value} {t : TypeId} (ht : t ≠ 9) (h : W.heap[b]? = some (.cells D t (0, 0))) : KeepT W (W.setCell ⟨b, j, none⟩ v) := fun g C x hc => by
  rw [Below.heap_setCell]
  intro e
  have e : g = b := e
  subst e
  rw [h] at hc
  cases hc
  exact ht rfl
theorem Mx.set (h : Mx w W bb C ty g n t r B) (hty : ty ≠ 4) (hi : i < t) : Mx w (W.setCell ⟨r i, j, none⟩ (.bool true)) bb C ty g n t r (setB B i j) ∧ KeepT W (W.setCell ⟨r i, j, none⟩ (.bool true)) := by
  obtain ⟨hge, D, hD⟩ := h.rblk hi
  obtain ⟨_, D2, hG⟩ := h.gblk
  obtain ⟨h1, h2⟩ := (h.row i hi).stored j (.bool true)
  rw [bV_set] at h1
  have hne : ∀ q, q ≠ r i → (W.setCell ⟨r i, j, none⟩ (.bool true)).heap[q]? = W.heap[q]? := fun q hq => Below.heap_setCell W _ _ q hq
  refine ⟨⟨owns_kept h.out fun q hq => hne q ?_, fun k hk => ?_, h.inj, h.le, (hne bb ?_).trans h.bx, h.bel.setCell hge _⟩, keepT_setCell (by decide) hD⟩
  · cases hq
    rintro rfl
    rw [hG] at hD
    cases hD
  · by_cases e : k = i
    · subst e; exact h1
    · rw [bV_other e]
      exact owns_kept (h.row k hk) fun q hq => hne q fun e2 => by
        cases hq
        exact e (h.inj k i hk hi e2)
  · rintro rfl
    rw [h.bx] at hD
    cases hD
    exact hty rfl
/-- one row more -/
theorem Mx.add (h : Mx w W bb C ty g n t r B) (hty : ty ≠ 58) (hn : n ≤ 1000) (ht : t < n) :
    (Instr.makeSlice 58 (.int .i64 (n : Int)) (.int .i64 (n : Int))).run Try.prog W = .ok (.slice (some ⟨W.heap.size, 0, none⟩) n n) (W.alloc (.cells (madeCells #[.bool false] n) 4)) ∧
    (∃ u, (W.alloc (.cells (madeCells #[.bool false] n) 4)).cell? ⟨g, t, none⟩ = some u) ∧ (W.alloc (.cells (madeCells #[.bool false] n) 4)).frozen? ⟨g, t, none⟩ = false ∧
    Mx w ((W.alloc (.cells (madeCells #[.bool false] n) 4)).setCell ⟨g, t, none⟩ (.slice (some ⟨W.heap.size, 0, none⟩) n n)) bb C ty g n (t + 1) (fun i => if i = t then W.heap.size else r i) (fun a b => if a = t then false else B a b) := by
  obtain ⟨hrun, hrow⟩ := run_bools n hn w.heap.size W h.bel.size
  have hA := below_alloc W (.cells (madeCells #[.bool false] n) 4)
  have hM := h.below hA
  have hnew := heap_alloc_new W (.cells (madeCells #[.bool false] n) 4)
  obtain ⟨W1, hW1⟩ : ∃ W1, W.alloc (.cells (madeCells #[.bool false] n) 4) = W1 := ⟨_, rfl⟩
  rw [hW1] at hrun hrow hM hA hnew ⊢
  obtain ⟨hge, D2, hG⟩ := hM.gblk
  obtain ⟨h1, h2⟩ := hM.out.stored t (.slice (some ⟨W.heap.size, 0, none⟩) n n)
  rw [oV_set] at h1
  have hne : ∀ q, q ≠ g → (W1.setCell ⟨g, t, none⟩ (.slice (some ⟨W.heap.size, 0, none⟩) n n)).heap[q]? = W1.heap[q]? := fun q hq => Below.heap_setCell W1 _ _ q hq
  have hlt : ∀ i, i < t → r i < W.heap.size := fun i hi => by
    obtain ⟨_, D, hD⟩ := h.rblk hi
    exact lt_some hD
  have hgne : ∀ q D, W1.heap[q]? = some (.cells D 4 (0, 0)) → q ≠ g := fun q D hD e => by
    rw [e, hG] at hD
    cases hD
  refine ⟨hrun, ⟨_, (hM.out.cellAt t (by omega)).trans (by simp [oV, ht]; rfl)⟩, hM.frz0, ⟨h1, fun k hk => ?_, fun a b ha hb e => ?_, by omega, (hne bb ?_).trans hM.bx, hM.bel.setCell hge _⟩⟩
  · by_cases e : k = t
    · subst e
      have hb : bV (fun a b => if a = k then false else B a b) n k = List.replicate n (.bool false) := by
        unfold bV
        simp [List.map_const']
      rw [hb]
      simp only [if_true]
      exact owns_kept hrow fun q hq => hne q (by cases hq; exact hgne _ _ hnew)
    · have hkt : k < t := by omega
      have hb : bV (fun a b => if a = t then false else B a b) n k = bV B n k := by
        unfold bV
        refine List.map_congr_left fun x _ => ?_
        simp only [if_neg e]
      rw [hb]
      simp only [if_neg e]
      obtain ⟨_, D, hD⟩ := hM.rblk hkt
      exact owns_kept (hM.row k hkt) fun q hq => hne q (by cases hq; exact hgne _ _ hD)
  · by_cases e1 : a = t
    · by_cases e2 : b = t
      · omega
      · have := hlt b (by omega)
        simp only [e1, if_true, if_neg e2] at e
        omega
    · by_cases e2 : b = t
      · have := hlt a (by omega)
        simp only [e2, if_true, if_neg e1] at e
        omega
      · simp only [if_neg e1, if_neg e2] at e
        exact h.inj a b (by omega) (by omega) e
  · rintro rfl
    rw [hM.bx] at hG
    cases hG
    exact hty rfl
end
end Go.Proofs.Ytbflodefmookiaa.Gr
