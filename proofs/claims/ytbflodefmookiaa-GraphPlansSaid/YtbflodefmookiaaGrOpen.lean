/-
  A MANIFEST THAT A LAW IS GIVEN, opened.
-/
import Derived.Test.YtbflodefmookiaaGwOf
import Derived.Test.YtbflodefmookiaaGrEds
import Derived.Deep.Slices
import Derived.Deep.Fields
import Derived.ChangeSame
import Derived.Lib.SmallJoins
namespace Go.Proofs.Ytbflodefmookiaa.Pr
open Go.RowKit Go.Maps Go.ChangeShapes Go.WideShapes Go.Deep Go.Proofs.Ytbflodefmookiaa
set_option linter.unusedVariables false

theorem lt_cell {w : World} {p : Addr} {v : Value} (h : w.cell? p = some v) : p.block < w.heap.size := by
  rcases Nat.lt_or_ge p.block w.heap.size with h' | h'
  · exact h'
  · simp [World.cell?, Array.getElem?_eq_none h'] at h
theorem cells9 : Try.prog.cellsOf 9 = 1 := by kernel_rfl
theorem cellsEd : Try.prog.cellsOf 60 = 6 := by kernel_rfl

set_option maxRecDepth 100000
section
variable {H : Type} {enc : TypeId × Value → H} {w : World} {base : Nat} {spare : Nat → Bool} {held : Bool}

theorem decl_row {v : Value} {m : Nat} {x : DataW H × List MemPlace} (hm : DataW.trod enc Try.prog w base spare held m 23 [v] = some x) : ∃ L : List Bs, Strs w v L ∧ ∀ x ∈ L, x.length ≤ maxLen := by
  rcases open_slice Try.underlying23 hm with ⟨e, _⟩ | ⟨a, len, cap, mm, n, D, Pl, e, _, hlc, hcm, hmm, _, hel⟩
  · simp only [List.cons.injEq, and_true] at e
    exact ⟨[], ⟨Option.none, 0, e, Nat.le_refl _, .inl rfl⟩, fun x hx => by cases hx⟩
  · simp only [List.cons.injEq, and_true] at e
    rw [e]
    have hlen : len ≤ mm := by rw [hmm]; split <;> omega
    rw [cells9] at hel
    have hex : ∀ i : Nat, ∃ s : Bs, s.length ≤ maxLen ∧ (i < len → w.cell? (a.add (i * 1 + 0)) = some (.string (mk s))) := by
      intro i
      by_cases hi : i < len
      · obtain ⟨cs', hc, ht⟩ := hel i (by omega)
        obtain ⟨_, hcl, hat⟩ := World.cells?_some hc
        match cs', hcl with
        | [v0], _ =>
          obtain ⟨z, e1, _, w1⟩ := DataW.trod_string Try.underlying9 ht
          simp only [List.cons.injEq, and_true] at e1
          subst e1
          refine ⟨z.data.toList, ?_, fun _ => ?_⟩
          · have h1 : z.data.toList.length = z.size := by rw [Array.length_toList]; rfl
            rw [h1]
            exact w1
          · rw [mk_of]
            have := hat 0 (by simp); rw [Go.Deep.add_add] at this; exact this
      · exact ⟨[], Nat.zero_le _, fun h => absurd h hi⟩
    obtain ⟨f, hf⟩ := Classical.axiomOfChoice hex
    refine ⟨(List.range len).map f, ⟨some a, cap, by simp, by simpa using hlc, ?_⟩, fun x hx => by
      obtain ⟨i, _, rfl⟩ := List.mem_map.1 hx
      exact (hf i).1⟩
    by_cases h0 : len = 0
    · left; subst h0; rfl
    · right
      obtain ⟨b, off, spot⟩ := a
      have hc0 := (hf 0).2 (by omega)
      have hspot : spot = Option.none := by simpa [Addr.add] using World.cell?_spot hc0
      subst hspot
      refine ⟨b, off, rfl, lt_cell hc0, fun i x hi => ?_⟩
      rw [List.getElem?_map] at hi
      obtain ⟨j, hj, rfl⟩ := Option.map_eq_some_iff.1 hi
      have hjl : i < len := by
        have := (List.getElem?_eq_some_iff.1 hj).1
        simpa using this
      have hji : j = i := by
        rw [List.getElem?_range hjl] at hj
        exact (Option.some.inj hj).symm
      subst hji
      have x1 := (hf j).2 hjl
      rw [Go.WideShapes.add_plain, Nat.mul_one, Nat.add_zero] at x1
      exact x1
theorem open_decl {v : Value} {d : DataW H} {p : List MemPlace} {r : Reach} {b0 : Nat} (hv : Value.okWide Try.prog w r b0 23 v) (h : DataW.Trod enc Try.prog w base spare held 23 v d p) : ∃ L : List Bs, Strs w v L ∧ ∀ x ∈ L, x.length ≤ maxLen := by
  obtain ⟨a0, len0, cap0, rfl⟩ := okWide_slice Try.underlying23 hv
  obtain ⟨m, hm⟩ := h
  exact decl_row (v := .slice a0 len0 cap0) hm


theorem one_edge {fuel : Nat} {cs : List Value} {x : DataW H × List MemPlace} (hl : cs.length = 6) (ht : DataW.trod enc Try.prog w base spare held fuel 60 cs = some x) :
    ∃ p : E5, cs = cells5 p ∧ EdV w p.e p.v0 p.v1 p.v2 p.v3 := by
  match cs, hl with
  | [v0, v1, v2, v3, v4, v5], _ =>
    obtain ⟨xs, n, _, _, _, hxl, hf⟩ := DataW.trod_struct Try.underlying60 ht
    have hxl2 : xs.length = 6 := hxl
    have f0 := hf 0 _ rfl
    have f1 := hf 1 _ rfl
    have f2 := hf 2 _ rfl
    have f3 := hf 3 _ rfl
    have f4 := hf 4 _ rfl
    have f5 := hf 5 _ rfl
    rw [List.getElem?_eq_getElem (by omega)] at f0 f1 f2 f3 f4 f5
    have k0 : DataW.trod enc Try.prog w base spare held n 23 [v0] = some _ := f0
    have k1 : DataW.trod enc Try.prog w base spare held n 23 [v1] = some _ := f1
    have k2 : DataW.trod enc Try.prog w base spare held n 23 [v2] = some _ := f2
    have k3 : DataW.trod enc Try.prog w base spare held n 23 [v3] = some _ := f3
    have k4 : DataW.trod enc Try.prog w base spare held n 9 [v4] = some _ := f4
    have k5 : DataW.trod enc Try.prog w base spare held n 9 [v5] = some _ := f5
    obtain ⟨s4, e4, _, _⟩ := DataW.trod_string Try.underlying9 k4
    obtain ⟨s5, e5, _, _⟩ := DataW.trod_string Try.underlying9 k5
    simp only [List.cons.injEq, and_true] at e4 e5
    subst e4 e5
    obtain ⟨L0, h0, -⟩ := decl_row k0
    obtain ⟨L1, h1, -⟩ := decl_row k1
    obtain ⟨L2, h2, -⟩ := decl_row k2
    obtain ⟨L3, h3, -⟩ := decl_row k3
    exact ⟨⟨⟨L0, L1, L2, L3, s4.data.toList, s5.data.toList⟩, v0, v1, v2, v3⟩, by simp [cells5, mk_of], ⟨h0, h1, h2, h3⟩⟩

theorem edges_row {v : Value} {m : Nat} {x : DataW H × List MemPlace} (hm : DataW.trod enc Try.prog w base spare held m 22 [v] = some x) : ∃ L : List Ed, Eds w v L := by
  rcases open_slice Try.underlying22 hm with ⟨e, _⟩ | ⟨a, len, cap, mm, n, D, Pl, e, _, hlc, hcm, hmm, _, hel⟩
  · simp only [List.cons.injEq, and_true] at e
    exact ⟨[], ⟨Option.none, 0, e, Nat.le_refl _, .inl rfl⟩⟩
  · simp only [List.cons.injEq, and_true] at e
    rw [e]
    have hlen : len ≤ mm := by rw [hmm]; split <;> omega
    rw [cellsEd] at hel
    have hex : ∀ i : Nat, ∃ p : E5, i < len → EdV w p.e p.v0 p.v1 p.v2 p.v3 ∧ w.cell? (a.add (i * 6 + 0)) = some p.v0 ∧ w.cell? (a.add (i * 6 + 1)) = some p.v1 ∧ w.cell? (a.add (i * 6 + 2)) = some p.v2 ∧ w.cell? (a.add (i * 6 + 3)) = some p.v3 ∧ w.cell? (a.add (i * 6 + 4)) = some (.string (mk p.e.cmd)) ∧ w.cell? (a.add (i * 6 + 5)) = some (.string (mk p.e.dep)) := by
      intro i
      by_cases hi : i < len
      · obtain ⟨cs', hc, ht⟩ := hel i (by omega)
        obtain ⟨_, hcl, hat⟩ := World.cells?_some hc
        obtain ⟨p, rfl, hS⟩ := one_edge hcl ht
        refine ⟨p, fun _ => ⟨hS, ?_, ?_, ?_, ?_, ?_, ?_⟩⟩
        · have := hat 0 (by simp [cells5]); rw [Go.Deep.add_add] at this; exact this
        · have := hat 1 (by simp [cells5]); rw [Go.Deep.add_add] at this; exact this
        · have := hat 2 (by simp [cells5]); rw [Go.Deep.add_add] at this; exact this
        · have := hat 3 (by simp [cells5]); rw [Go.Deep.add_add] at this; exact this
        · have := hat 4 (by simp [cells5]); rw [Go.Deep.add_add] at this; exact this
        · have := hat 5 (by simp [cells5]); rw [Go.Deep.add_add] at this; exact this
      · exact ⟨⟨⟨[], [], [], [], [], []⟩, .bool false, .bool false, .bool false, .bool false⟩, fun h => absurd h hi⟩
    obtain ⟨f, hf⟩ := Classical.axiomOfChoice hex
    refine ⟨(List.range len).map fun i => (f i).e, ⟨some a, cap, by simp, by simpa using hlc, ?_⟩⟩
    by_cases h0 : len = 0
    · left; subst h0; rfl
    · right
      obtain ⟨b, off, spot⟩ := a
      have hc0 := (hf 0 (by omega)).2.1
      have hspot : spot = Option.none := by simpa [Addr.add] using World.cell?_spot hc0
      subst hspot
      refine ⟨b, off, rfl, lt_cell hc0, fun i x hi => ?_⟩
      rw [List.getElem?_map] at hi
      obtain ⟨j, hj, rfl⟩ := Option.map_eq_some_iff.1 hi
      have hjl : i < len := by
        have := (List.getElem?_eq_some_iff.1 hj).1
        simpa using this
      have hji : j = i := by
        rw [List.getElem?_range hjl] at hj
        exact (Option.some.inj hj).symm
      subst hji
      obtain ⟨hS, x0, x1, x2, x3, x4, x5⟩ := hf j hjl
      rw [Go.WideShapes.add_plain] at x0 x1 x2 x3 x4 x5
      exact ⟨(f j).v0, (f j).v1, (f j).v2, (f j).v3, hS, x0, x1, x2, x3, x4, x5⟩
end
end Go.Proofs.Ytbflodefmookiaa.Pr
