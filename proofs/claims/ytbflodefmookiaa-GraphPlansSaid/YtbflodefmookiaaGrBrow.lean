/-
  ROWS OF BOOLS OF THE CALL'S OWN; what stands beside them.
-/
import Derived.Test.YtbflodefmookiaaGrBelow
namespace Go.Proofs.Ytbflodefmookiaa.Gr
open Go.RowKit Go.Maps Go.Proofs.Ytbflodefmookiaa Go.Proofs.Ytbflodefmookiaa.Pr

/-- all blocks of cells stand, but those of bools -/
def KeepN (w w' : World) : Prop := ∀ (g : Nat) C t b, t ≠ 4 → w.heap[g]? = some (.cells C t b) → w'.heap[g]? = w.heap[g]?
theorem KeepN.refl (w : World) : KeepN w w := fun _ _ _ _ _ _ => rfl
theorem KeepN.trans {a b c : World} (h : KeepN a b) (k : KeepN b c) : KeepN a c := fun g C t x ht hc => by
  have h1 := h g C t x ht hc
  exact (k g C t x ht (h1.trans hc)).trans h1
theorem KeepN.below {w w' : World} (h : Below w.heap.size w w') : KeepN w w' := fun g _ _ _ _ hc => h.block g (lt_some hc)
theorem RowI.keepN {w w' : World} {base : Nat} {v : Value} {H : List Nat} (h : RowI w base v H) (hk : KeepN w w') : RowI w' base v H := h.keepT fun g C _ hc => hk g C _ _ (by decide) hc
theorem StrsT.keepN {w w' : World} {v : Value} {K : List Bs} (h : StrsT w v K) (hk : KeepN w w') : StrsT w' v K := h.keepT fun g C fr hc => hk g C _ fr (by decide) hc

def bL (b : Nat → Bool) (n : Nat) : List Value := (List.range n).map fun j => .bool (b j)
theorem bL_len (b : Nat → Bool) (n : Nat) : (bL b n).length = n := by simp [bL]
theorem bL_at {b : Nat → Bool} {n j : Nat} (h : j < n) : (bL b n)[j]? = some (.bool (b j)) := by simp [bL, h]
def Br (w W : World) (g n : Nat) (b : Nat → Bool) : Prop := W.ownsRow w.heap.size 4 1 (.slice (some ⟨g, 0, none⟩) n n) n (bL b n)
section
variable {w W W' : World} {g n j : Nat} {b : Nat → Bool}
theorem Br.made (h : w.heap.size ≤ W.heap.size) (hn : n ≤ 1000) : (Instr.makeSlice 58 (.int .i64 (n : Int)) (.int .i64 (n : Int))).run Try.prog W = .ok (.slice (some ⟨W.heap.size, 0, none⟩) n n) (W.alloc (.cells (madeCells #[.bool false] n) 4)) ∧
    Br w (W.alloc (.cells (madeCells #[.bool false] n) 4)) W.heap.size n (fun _ => false) := by
  obtain ⟨h1, h2⟩ := run_bools n hn w.heap.size W h
  refine ⟨h1, ?_⟩
  have e : bL (fun _ => false) n = List.replicate n (.bool false) := by
    unfold bL
    simp [List.map_const']
  unfold Br
  rw [e]
  exact h2
theorem Br.below (h : Br w W g n b) (hb : Below W.heap.size W W') : Br w W' g n b := owns_below h hb
theorem Br.blk (h : Br w W g n b) : w.heap.size ≤ g ∧ ∃ D, W.heap[g]? = some (.cells D 4 (0, 0)) := owns_block h rfl
theorem Br.cell (h : Br w W g n b) (hj : j < n) : W.cell? ⟨g, j, none⟩ = some (.bool (b j)) := (World.ownsRow.cellAt h j (by omega)).trans (bL_at hj)
theorem Br.frz (h : Br w W g n b) (j : Nat) : W.frozen? ⟨g, j, none⟩ = false := World.ownsRow.frozenAt h j
theorem Br.set (h : Br w W g n b) (j : Nat) {b' : Nat → Bool} (hb : ∀ x, b' x = if x = j then true else b x) : Br w (W.setCell ⟨g, j, none⟩ (.bool true)) g n b' ∧ KeepN W (W.setCell ⟨g, j, none⟩ (.bool true)) ∧ (∀ B, Below B w W → B ≤ g → Below B w (W.setCell ⟨g, j, none⟩ (.bool true))) ∧ (W.setCell ⟨g, j, none⟩ (.bool true)).heap.size = W.heap.size := by
  obtain ⟨h1, h2⟩ := World.ownsRow.stored h j (.bool true)
  obtain ⟨hge, D, hD⟩ := h.blk
  have e : (bL b n).set j (.bool true) = bL b' n := by
    refine List.ext_getElem? fun k => ?_
    by_cases hk : k < n
    · rw [bL_at hk, List.getElem?_set, hb]
      by_cases e : j = k
      · subst e
        simp [bL_len, hk]
      · rw [if_neg e, bL_at hk, if_neg fun h => e h.symm]
    · rw [List.getElem?_eq_none (by rw [List.length_set, bL_len]; omega), List.getElem?_eq_none (by rw [bL_len]; omega)]
  rw [e] at h1
  refine ⟨h1, fun q C t x ht hc => ?_, fun B hB hg => hB.setCell hg _, by simp [World.setCell]⟩
  rw [Below.heap_setCell]
  intro e2
  have e2 : q = g := e2
  subst e2
  rw [hD] at hc
  cases hc
  exact ht rfl
/-- another row stands -/
theorem Br.other {g2 n2 : Nat} {b2 : Nat → Bool} (h : Br w W g n b) (hne : g ≠ g2) (j : Nat) (v : Value) (_ : Br w W g2 n2 b2) : Br w (W.setCell ⟨g2, j, none⟩ v) g n b :=
  owns_kept h fun q hq => Below.heap_setCell W _ _ q (by cases hq; exact hne)
end
end Go.Proofs.Ytbflodefmookiaa.Gr
