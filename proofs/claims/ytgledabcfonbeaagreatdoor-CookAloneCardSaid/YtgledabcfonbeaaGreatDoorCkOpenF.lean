/-
  The row of files as a field: what a struct's field of files is read as.
-/
import Derived.Test.YtgledabcfonbeaaGreatDoorCkJ14
import Derived.Lib.SmallJoins
namespace Go.Proofs.YtgledabcfonbeaaGreatDoor.Df
open Go.RowKit Go.Maps Go.ChangeShapes Go.WideShapes Go.Deep Go.Proofs.YtgledabcfonbeaaGreatDoor
set_option maxRecDepth 100000
section
variable {H : Type} {enc : TypeId × Value → H} {w : World} {base : Nat} {spare : Nat → Bool} {held : Bool}

theorem files_row {a0 : Option Addr} {len0 cap0 : Nat} {m : Nat} {x : DataW H × List MemPlace} (hm : DataW.trod enc Tryz.prog w base spare held m 22 [.slice a0 len0 cap0] = some x) :
    ∃ L U, Fls w (.slice a0 len0 cap0) L U ∧ (∀ u ∈ U, CapOk u) ∧ U.length = L.length ∧ L.length ≤ 9223372036854775807 := by
  rcases open_slice Tryz.underlying22 hm with ⟨e, _⟩ | ⟨a, len, cap, mm, n, D, Pl, e, _, hlc, hcm, hmm, _, hel⟩
  · simp only [List.cons.injEq, and_true] at e
    exact ⟨[], [], ⟨fun u hu => (by cases hu), Option.none, 0, e, Nat.le_refl _, .inl rfl⟩, fun u hu => (by cases hu), rfl, by simp⟩
  · simp only [List.cons.injEq, and_true] at e
    rw [e]
    have hlen : len ≤ mm := by rw [hmm]; split <;> omega
    rw [cellsFl] at hel
    have hex : ∀ i : Nat, ∃ s : Fl × Value, i < len → (Byt w s.2 s.1.2 ∧ CapOk s.2) ∧ w.cell? (a.add (i * 2 + 0)) = some (.string (mk s.1.1)) ∧ w.cell? (a.add (i * 2 + 1)) = some s.2 := by
      intro i
      by_cases hi : i < len
      · obtain ⟨cs', hc, ht⟩ := hel i (by omega)
        obtain ⟨_, hcl, hat⟩ := World.cells?_some hc
        obtain ⟨s, vd, rfl, hS, hcp⟩ := one_file hcl ht
        refine ⟨(s, vd), fun _ => ⟨⟨hS, hcp⟩, ?_, ?_⟩⟩
        · have := hat 0 (by omega); rw [Go.Deep.add_add] at this; exact this
        · have := hat 1 (by omega); rw [Go.Deep.add_add] at this; exact this
      · exact ⟨(([], []), .bool false), fun h => absurd h hi⟩
    obtain ⟨f, hf⟩ := Classical.axiomOfChoice hex
    have hU : ∀ u ∈ (List.range len).map (fun i => (f i).2), ∃ i, i < len ∧ u = (f i).2 := fun u hu => by
      obtain ⟨j, hj, rfl⟩ := List.mem_map.1 hu
      exact ⟨j, List.mem_range.1 hj, rfl⟩
    refine ⟨(List.range len).map fun i => (f i).1, (List.range len).map fun i => (f i).2, ⟨fun u hu => ?_, some a, cap, by simp, by simpa using hlc, ?_⟩, fun u hu => ?_, by simp, by have : cap ≤ 9223372036854775807 := hcm; simp; omega⟩
    · obtain ⟨i, hi, rfl⟩ := hU u hu
      obtain ⟨a, c, e, -⟩ := (hf i hi).1.1
      exact ⟨_, _, _, e⟩
    · by_cases h0 : len = 0
      · left; subst h0; rfl
      · right
        obtain ⟨b, off, spot⟩ := a
        have hc0 := (hf 0 (by omega)).2.1
        have hspot : spot = Option.none := by simpa [Addr.add] using World.cell?_spot hc0
        subst hspot
        refine ⟨b, off, rfl, lt_cell hc0, fun i x hi => ?_⟩
        rw [List.getElem?_map] at hi
        obtain ⟨j, hj, rfl⟩ := Option.map_eq_some_iff.1 hi
        have hjl : i < len := by
          have := (List.getElem?_eq_some_iff.1 hj).1
          simpa using this
        have hji : j = i := by
          rw [List.getElem?_range hjl] at hj
          exact (Option.some.inj hj).symm
        subst hji
        obtain ⟨hS, x0, x1⟩ := hf j hjl
        rw [Go.WideShapes.add_plain] at x0 x1
        exact ⟨(f j).2, by rw [List.getElem?_map, hj]; rfl, x0, x1, hS.1⟩
    · obtain ⟨i, hi, rfl⟩ := hU u hu
      exact (hf i hi).1.2
end
end Go.Proofs.YtgledabcfonbeaaGreatDoor.Df
