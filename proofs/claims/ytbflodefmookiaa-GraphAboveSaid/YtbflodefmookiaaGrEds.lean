/-
  ROWS OF EDGES, as they are read.
-/
import Derived.Test.YtbflodefmookiaaGrEd
import Derived.Deep.Cut
namespace Go.Proofs.Ytbflodefmookiaa.Pr
open Go.RowKit Go.Proofs.Ytbflodefmookiaa Go.Proofs.Ytbflodefmookiaa.Df

/-- the four rows of an edge -/
structure EdV (w : World) (e : Ed) (v0 v1 v2 v3 : Value) : Prop where
  o : Strs w v0 e.outs
  i : Strs w v1 e.ins
  m : Strs w v2 e.imp
  r : Strs w v3 e.ord
/-- a row of edges -/
def Eds (w : World) (v : Value) (L : List Ed) : Prop :=
  ∃ a c, v = .slice a L.length c ∧ L.length ≤ c ∧ (L = [] ∨ ∃ g off, a = some ⟨g, off, none⟩ ∧ g < w.heap.size ∧ ∀ (j : Nat) e, L[j]? = some e → ∃ v0 v1 v2 v3, EdV w e v0 v1 v2 v3 ∧
    w.cell? ⟨g, off + j * 6, none⟩ = some v0 ∧ w.cell? ⟨g, off + j * 6 + 1, none⟩ = some v1 ∧ w.cell? ⟨g, off + j * 6 + 2, none⟩ = some v2 ∧ w.cell? ⟨g, off + j * 6 + 3, none⟩ = some v3 ∧ w.cell? ⟨g, off + j * 6 + 4, none⟩ = some (.string (mk e.cmd)) ∧ w.cell? ⟨g, off + j * 6 + 5, none⟩ = some (.string (mk e.dep)))
section
variable {w w' : World} {e : Ed} {v0 v1 v2 v3 v : Value} {L : List Ed}
theorem EdV.below (h : EdV w e v0 v1 v2 v3) (hb : Below w.heap.size w w') : EdV w' e v0 v1 v2 v3 := ⟨h.o.below hb, h.i.below hb, h.m.below hb, h.r.below hb⟩
theorem EdV.sl (h : EdV w e v0 v1 v2 v3) : ∃ a0 c0 a1 c1 a2 c2 a3 c3, v0 = .slice a0 e.outs.length c0 ∧ v1 = .slice a1 e.ins.length c1 ∧ v2 = .slice a2 e.imp.length c2 ∧ v3 = .slice a3 e.ord.length c3 := by
  obtain ⟨a0, c0, h0, -⟩ := h.o
  obtain ⟨a1, c1, h1, -⟩ := h.i
  obtain ⟨a2, c2, h2, -⟩ := h.m
  obtain ⟨a3, c3, h3, -⟩ := h.r
  exact ⟨a0, c0, a1, c1, a2, c2, a3, c3, h0, h1, h2, h3⟩
theorem Eds.below (h : Eds w v L) (hb : Below w.heap.size w w') : Eds w' v L := by
  obtain ⟨a, c, e, hc, h⟩ := h
  refine ⟨a, c, e, hc, ?_⟩
  rcases h with h | ⟨g, off, e, hg, hat⟩
  · exact .inl h
  · refine .inr ⟨g, off, e, Nat.lt_of_lt_of_le hg hb.size, fun j x hx => ?_⟩
    obtain ⟨v0, v1, v2, v3, hE, h0, h1, h2, h3, h4, h5⟩ := hat j x hx
    have hB := hb.block g hg
    exact ⟨v0, v1, v2, v3, hE.below hb, (cell_of_block hB).trans h0, (cell_of_block hB).trans h1, (cell_of_block hB).trans h2, (cell_of_block hB).trans h3, (cell_of_block hB).trans h4, (cell_of_block hB).trans h5⟩
theorem Eds.at (h : Eds w v L) {j : Nat} (hx : L[j]? = some e) : ∃ g off c v0 v1 v2 v3, v = .slice (some ⟨g, off, none⟩) L.length c ∧ g < w.heap.size ∧ EdV w e v0 v1 v2 v3 ∧
    w.cell? ⟨g, off + j * 6, none⟩ = some v0 ∧ w.cell? ⟨g, off + j * 6 + 1, none⟩ = some v1 ∧ w.cell? ⟨g, off + j * 6 + 2, none⟩ = some v2 ∧ w.cell? ⟨g, off + j * 6 + 3, none⟩ = some v3 ∧ w.cell? ⟨g, off + j * 6 + 4, none⟩ = some (.string (mk e.cmd)) ∧ w.cell? ⟨g, off + j * 6 + 5, none⟩ = some (.string (mk e.dep)) := by
  obtain ⟨a, c, rfl, hc, h⟩ := h
  rcases h with rfl | ⟨g, off, rfl, hg, hat⟩
  · cases hx
  · obtain ⟨v0, v1, v2, v3, hE⟩ := hat j e hx
    exact ⟨g, off, c, v0, v1, v2, v3, rfl, hg, hE⟩
end

theorem box6 {w : World} {v0 v1 v2 v3 v4 v5 : Value} {t : TypeId} : let W := w.alloc (.cells #[v0, v1, v2, v3, v4, v5] t); W.cell? ⟨w.heap.size, 0, none⟩ = some v0 ∧ W.cell? ⟨w.heap.size, 1, none⟩ = some v1 ∧ W.cell? ⟨w.heap.size, 2, none⟩ = some v2 ∧ W.cell? ⟨w.heap.size, 3, none⟩ = some v3 ∧ W.cell? ⟨w.heap.size, 4, none⟩ = some v4 ∧ W.cell? ⟨w.heap.size, 5, none⟩ = some v5 := by
  have h := heap_alloc_new w (.cells #[v0, v1, v2, v3, v4, v5] t)
  intro W
  refine ⟨?_, ?_, ?_, ?_, ?_, ?_⟩ <;> (rw [Lib.cell_of_heap h]; rfl)

end Go.Proofs.Ytbflodefmookiaa.Pr
