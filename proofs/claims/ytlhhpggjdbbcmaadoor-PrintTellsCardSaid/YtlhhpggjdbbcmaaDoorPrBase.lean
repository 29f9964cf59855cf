/-
  ROWS OF STRINGS THAT THE CALL OWNS.
-/
import Derived.Test.YtlhhpggjdbbcmaaDoorPaNames
import Derived.Laws.OwnMore
import Derived.RegionTactic
import Derived.ChangeAlike
import Derived.Maps.AppendAt
import Derived.Deep.AppendLies
namespace Go.Proofs.YtlhhpggjdbbcmaaDoor.Df
open Go.RowKit Go.Proofs.YtlhhpggjdbbcmaaDoor

/-- a slice of strings, as it is read -/
def Strs (w : World) (v : Value) (K : List Bs) : Prop :=
  ∃ a c, v = .slice a K.length c ∧ K.length ≤ c ∧ (K = [] ∨ ∃ g off, a = some ⟨g, off, none⟩ ∧ g < w.heap.size ∧ ∀ (j : Nat) p, K[j]? = some p → w.cell? ⟨g, off + j, none⟩ = some (.string (mk p)))

theorem cell_of_block {w w' : World} {k j : Nat} (h : w'.heap[k]? = w.heap[k]?) : w'.cell? ⟨k, j, none⟩ = w.cell? ⟨k, j, none⟩ := by
  simp [World.cell?, h]

theorem Strs.below {w w' : World} {v : Value} {K : List Bs} (h : Strs w v K) (hb : Below w.heap.size w w') : Strs w' v K := by
  obtain ⟨a, c, e, hc, h⟩ := h
  refine ⟨a, c, e, hc, ?_⟩
  rcases h with h | ⟨g, off, e, hg, hcell⟩
  · exact .inl h
  · exact .inr ⟨g, off, e, Nat.lt_of_lt_of_le hg hb.size, fun j p hp => (cell_of_block (hb.block g hg)).trans (hcell j p hp)⟩

theorem Strs.drew {w : World} {v : Value} {K : List Bs} (h : Strs w v K) : Strs w.drew v K := h

theorem owns_strs {w : World} {base : Nat} {v : Value} {n : Nat} {K : List Bs} (h : w.ownsRow base 9 1 v n (strV K)) : Strs w v K := by
  have hl := h.1
  rw [strV_length, Nat.mul_one] at hl
  rcases h.2 with ⟨rfl, h0⟩ | ⟨g, cap, cur, rfl, hb, hg, hle, _⟩
  · have : K = [] := List.eq_nil_of_length_eq_zero (hl.trans h0)
    subst this
    exact ⟨none, 0, rfl, Nat.le_refl _, .inl rfl⟩
  · refine ⟨_, cap, by rw [← hl], by omega, .inr ⟨g, 0, rfl, (Array.getElem?_eq_some_iff.1 hg).1, fun j p hp => ?_⟩⟩
    have hc := h.cells (g := g) rfl j (.string (mk p)) (by simp [strV, hp])
    rw [Go.WideShapes.add_plain] at hc
    exact hc

theorem owns_len {w : World} {base : Nat} {v : Value} {n : Nat} {K : List Bs} (h : w.ownsRow base 9 1 v n (strV K)) : ∃ a cap, v = .slice a n cap := by
  rcases h.2 with ⟨rfl, h0⟩ | ⟨g, cap, cur, rfl, _⟩
  · exact ⟨none, 0, by rw [h0]⟩
  · exact ⟨_, _, rfl⟩
theorem owns_n {w : World} {base : Nat} {v : Value} {n : Nat} {K : List Bs} (h : w.ownsRow base 9 1 v n (strV K)) : n = K.length := by
  have hl := h.1
  rw [strV_length, Nat.mul_one] at hl
  exact hl.symm

theorem owns_block {w : World} {base : Nat} {e : TypeId} {sz : Nat} {v : Value} {n : Nat} {xs : List Value} (h : w.ownsRow base e sz v n xs) {g : Nat} (hg : v.ownBlock = some g) : base ≤ g ∧ ∃ cur, w.heap[g]? = some (.cells cur e (0, 0)) := by
  rcases h.2 with ⟨rfl, _⟩ | ⟨g', cap, cur, rfl, hb, hc, _⟩
  · cases hg
  · cases hg
    exact ⟨hb, cur, hc⟩

theorem owns_kept {w w' : World} {base : Nat} {e : TypeId} {sz : Nat} {v : Value} {n : Nat} {xs : List Value} (h : w.ownsRow base e sz v n xs) (hk : ∀ g, v.ownBlock = some g → w'.heap[g]? = w.heap[g]?) : w'.ownsRow base e sz v n xs := by
  refine ⟨h.1, ?_⟩
  rcases h.2 with h | ⟨g, cap, cur, rfl, hb, hc, hr⟩
  · exact .inl h
  · exact .inr ⟨g, cap, cur, rfl, hb, (hk g rfl).trans hc, hr⟩

theorem owns_below {w w' : World} {base : Nat} {e : TypeId} {sz : Nat} {v : Value} {n : Nat} {xs : List Value} (h : w.ownsRow base e sz v n xs) (hb : Below w.heap.size w w') : w'.ownsRow base e sz v n xs :=
  owns_kept h fun g hg => by
    obtain ⟨_, cur, hc⟩ := owns_block h hg
    exact hb.block g (Array.getElem?_eq_some_iff.1 hc).1

theorem owns_mono {w : World} {b b' : Nat} {e : TypeId} {sz : Nat} {v : Value} {n : Nat} {xs : List Value} (h : w.ownsRow b e sz v n xs) (hb : b' ≤ b) : w.ownsRow b' e sz v n xs := by
  refine ⟨h.1, ?_⟩
  rcases h.2 with h | ⟨g, cap, cur, rfl, hbg, hc, hr⟩
  · exact .inl h
  · exact .inr ⟨g, cap, cur, rfl, Nat.le_trans hb hbg, hc, hr⟩

theorem lt_some {w : World} {p : Nat} {o : Obj} (h : w.heap[p]? = some o) : p < w.heap.size := by
  rcases Nat.lt_or_ge p w.heap.size with h' | h'
  · exact h'
  · rw [Array.getElem?_eq_none h'] at h; cases h

theorem one_cell {w : World} {p : Nat} {u : Value} {t : TypeId} (h : w.heap[p]? = some (.cells #[u] t (0, 0))) : w.cell? ⟨p, 0, none⟩ = some u ∧ w.frozen? ⟨p, 0, none⟩ = false := by
  simp [World.cell?, World.frozen?, h]

theorem set_block {w : World} {p j : Nat} {C : Array Value} {u : Value} {t : TypeId} (h : w.heap[p]? = some (.cells C t (0, 0))) :
    (w.setCell ⟨p, j, none⟩ u).heap[p]? = some (.cells (C.setIfInBounds j u) t (0, 0)) := by
  have hlt := lt_some h
  have h' : w.heap[p] = .cells C t (0, 0) := by simpa [Array.getElem?_eq_getElem hlt] using h
  show (w.heap.modify p _)[p]? = _
  rw [Array.getElem?_eq_getElem (by simpa using hlt), Array.getElem_modify_self, h']
  rfl

theorem set_one {w : World} {p : Nat} {u v : Value} {t : TypeId} (h : w.heap[p]? = some (.cells #[u] t (0, 0))) : (w.setCell ⟨p, 0, none⟩ v).heap[p]? = some (.cells #[v] t (0, 0)) := by
  have := set_block (j := 0) (u := v) h
  simpa using this

theorem set_other {w : World} {p q : Nat} {j : Nat} {v : Value} (h : q ≠ p) : (w.setCell ⟨p, j, none⟩ v).heap[q]? = w.heap[q]? := Below.heap_setCell _ _ _ _ h

theorem cell_new (w : World) (v : Value) (t : TypeId) : (w.alloc (.cells #[v] t)).cell? ⟨w.heap.size, 0, none⟩ = some v := (one_cell (t := t) (heap_alloc_new w _)).1
end Go.Proofs.YtlhhpggjdbbcmaaDoor.Df
