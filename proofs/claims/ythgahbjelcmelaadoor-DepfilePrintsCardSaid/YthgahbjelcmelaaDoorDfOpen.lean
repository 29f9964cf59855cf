/-
  A ROW OF STRINGS THAT A LAW IS GIVEN, opened.
-/
import Derived.Test.YthgahbjelcmelaaDoorDfPrintsW
namespace Go.Proofs.YthgahbjelcmelaaDoor.Df
open Go.RowKit Go.Maps Go.ChangeShapes Go.WideShapes Go.Deep Go.Proofs.YthgahbjelcmelaaDoor
set_option linter.unusedVariables false

theorem lt_cell {w : World} {p : Addr} {v : Value} (h : w.cell? p = some v) : p.block < w.heap.size := by
  rcases Nat.lt_or_ge p.block w.heap.size with h' | h'
  · exact h'
  · simp [World.cell?, Array.getElem?_eq_none h'] at h
theorem cells9 : Tryd.prog.cellsOf 9 = 1 := by kernel_rfl

set_option maxRecDepth 100000
section
variable {H : Type} {enc : TypeId × Value → H} {w : World} {base : Nat} {spare : Nat → Bool} {held : Bool}

theorem strs_row {v : Value} {m : Nat} {x : DataW H × List MemPlace} (hm : DataW.trod enc Tryd.prog w base spare held m 22 [v] = some x) : ∃ L : List Bs, Strs w v L ∧ NilOk v := by
  rcases open_slice Tryd.underlying22 hm with ⟨e, _⟩ | ⟨a, len, cap, mm, n, D, Pl, e, _, hlc, hcm, hmm, _, hel⟩
  · simp only [List.cons.injEq, and_true] at e
    exact ⟨[], ⟨Option.none, 0, e, Nat.le_refl _, .inl rfl⟩, fun n c h => by rw [e] at h; cases h; rfl⟩
  · simp only [List.cons.injEq, and_true] at e
    rw [e]
    have hlen : len ≤ mm := by rw [hmm]; split <;> omega
    rw [cells9] at hel
    have hex : ∀ i : Nat, ∃ s : Bs, i < len → w.cell? (a.add (i * 1 + 0)) = some (.string (mk s)) := by
      intro i
      by_cases hi : i < len
      · obtain ⟨cs', hc, ht⟩ := hel i (by omega)
        obtain ⟨_, hcl, hat⟩ := World.cells?_some hc
        match cs', hcl with
        | [v0], _ =>
          obtain ⟨z, e1, _, w1⟩ := DataW.trod_string Tryd.underlying9 ht
          simp only [List.cons.injEq, and_true] at e1
          subst e1
          refine ⟨z.data.toList, fun _ => ?_⟩
          rw [mk_of]
          have := hat 0 (by simp); rw [Go.Deep.add_add] at this; exact this
      · exact ⟨[], fun h => absurd h hi⟩
    obtain ⟨f, hf⟩ := Classical.axiomOfChoice hex
    refine ⟨(List.range len).map f, ⟨some a, cap, by simp, by simpa using hlc, ?_⟩, fun n c h => by cases h⟩
    by_cases h0 : len = 0
    · left; subst h0; rfl
    · right
      obtain ⟨b, off, spot⟩ := a
      have hc0 := hf 0 (by omega)
      have hspot : spot = Option.none := by simpa [Addr.add] using World.cell?_spot hc0
      subst hspot
      refine ⟨b, off, rfl, lt_cell hc0, fun i x hi => ?_⟩
      rw [List.getElem?_map] at hi
      obtain ⟨j, hj, rfl⟩ := Option.map_eq_some_iff.1 hi
      have hjl : i < len := by
        have := (List.getElem?_eq_some_iff.1 hj).1
        simpa using this
      have hji : j = i := by
        rw [List.getElem?_range hjl] at hj
        exact (Option.some.inj hj).symm
      subst hji
      have x1 := hf j hjl
      rw [Go.WideShapes.add_plain, Nat.mul_one, Nat.add_zero] at x1
      exact x1

theorem open_strs {v : Value} {d : DataW H} {p : List MemPlace} {r : Reach} {b0 : Nat} (hv : Value.okWide Tryd.prog w r b0 22 v) (h : DataW.Trod enc Tryd.prog w base spare held 22 v d p) : ∃ L : List Bs, Strs w v L ∧ NilOk v := by
  obtain ⟨a0, len0, cap0, rfl⟩ := okWide_slice Tryd.underlying22 hv
  obtain ⟨m, hm⟩ := h
  exact strs_row (v := .slice a0 len0 cap0) hm

end
end Go.Proofs.YthgahbjelcmelaaDoor.Df
