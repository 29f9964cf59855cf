/-
  THE LAWS' ARGUMENTS: texts; what was found, by value; a row of these.
-/
import Derived.Test.YtofdnbddpageoaaNmTold
import Derived.Deep.Slices
import Derived.Deep.Fields
import Derived.ChangeSame
namespace Go.Proofs.Ytofdnbddpageoaa.Nm
open Go.RowKit Go.Maps Go.ChangeShapes Go.WideShapes Go.Deep

/-- an int's room -/
def I64 (z : Int) : Prop := -9223372036854775808 ≤ z ∧ z ≤ 9223372036854775807

theorem i64_of {z : Int} (h : (Lit.int .i64 z).wf = true) : I64 z := by
  simpa [Lit.wf, IntKind.min, IntKind.max, IntKind.signed, IntKind.bits, I64] using h

theorem lt_cell {w : World} {p : Addr} {v : Value} (h : w.cell? p = some v) : p.block < w.heap.size := by
  rcases Nat.lt_or_ge p.block w.heap.size with h' | h'
  · exact h'
  · simp [World.cell?, Array.getElem?_eq_none h'] at h

theorem cellsDep : Try.prog.cellsOf 42 = 3 := by kernel_rfl
theorem cells9 : Try.prog.cellsOf 9 = 1 := by kernel_rfl
theorem cells5 : Try.prog.cellsOf 5 = 1 := by kernel_rfl
theorem cellsBs : Try.prog.cellsOf 32 = 1 := by kernel_rfl
theorem u8_of {z : Int} (h : (Lit.int .u8 z).wf = true) : ∃ n : Nat, z = (n : Int) ∧ n < 256 := by
  have hb : 0 ≤ z ∧ z ≤ 255 := by simpa [Lit.wf, IntKind.min, IntKind.max, IntKind.signed, IntKind.bits] using h
  exact ⟨z.toNat, by omega, by omega⟩
theorem u32_of {z : Int} (h : (Lit.int .u32 z).wf = true) : ∃ n : Nat, z = (n : Int) ∧ n < 4294967296 := by
  have hb : 0 ≤ z ∧ z ≤ 4294967295 := by simpa [Lit.wf, IntKind.min, IntKind.max, IntKind.signed, IntKind.bits] using h
  exact ⟨z.toNat, by omega, by omega⟩

/-- a slice that is nil has no room -/
def NilOk (v : Value) : Prop := ∀ n c, v = .slice Option.none n c → c = 0

/-- what was found: its three cells -/
def dpC (d : Dp) (v : Value) : Array Value := #[.string d.out, .int .i64 d.time, v]
/-- a row of what was found -/
def DepRow (w : World) (v : Value) (L : List Dp) : Prop :=
  ∃ a c, v = .slice a L.length c ∧ L.length ≤ c ∧ (L = [] ∨ ∃ b off, a = some ⟨b, off, Option.none⟩ ∧ b < w.heap.size ∧
    ∀ i x, L[i]? = some x → ∃ vd, w.cell? ⟨b, off + i * 3, Option.none⟩ = some (.string x.out) ∧ w.cell? ⟨b, off + i * 3 + 1, Option.none⟩ = some (.int .i64 x.time) ∧ w.cell? ⟨b, off + i * 3 + 2, Option.none⟩ = some vd ∧ StrRow w vd x.deps ∧ NilOk vd)
theorem DepRow.below {w w' : World} {v : Value} {L : List Dp} (h : DepRow w v L) (hb : Below w.heap.size w w') : DepRow w' v L := by
  obtain ⟨a, c, e, h1, h2⟩ := h
  refine ⟨a, c, e, h1, h2.imp id fun ⟨b, off, e, hl, hc⟩ => ⟨b, off, e, Nat.lt_of_lt_of_le hl hb.size, fun i x hi => ?_⟩⟩
  obtain ⟨vd, c0, c1, c2, hs, hno⟩ := hc i x hi
  have hk := hb.block b hl
  exact ⟨vd, (cell_of_block hk).trans c0, (cell_of_block hk).trans c1, (cell_of_block hk).trans c2, hs.below hb, hno⟩

set_option maxRecDepth 100000
section
variable {H : Type} {enc : TypeId × Value → H} {w : World} {base : Nat} {spare : Nat → Bool} {held : Bool}

theorem strs_row {v : Value} {m : Nat} {x : DataW H × List MemPlace} (hm : DataW.trod enc Try.prog w base spare held m 27 [v] = some x) : ∃ L, StrRow w v L ∧ L.length ≤ 9223372036854775807 ∧ NilOk v := by
  rcases open_slice Try.underlying27 hm with ⟨e, _⟩ | ⟨a, len, cap, mm, n, D, Pl, e, _, hlc, hcm, hmm, _, hel⟩
  · simp only [List.cons.injEq, and_true] at e
    exact ⟨[], ⟨Option.none, 0, e, Nat.le_refl _, .inl rfl⟩, by simp, fun n c h => by rw [e] at h; cases h; rfl⟩
  · simp only [List.cons.injEq, and_true] at e
    rw [e]
    have hlen : len ≤ mm := by rw [hmm]; split <;> omega
    rw [cells9] at hel
    have hex : ∀ i : Nat, ∃ s : ByteArray, i < len → w.cell? (a.add (i * 1 + 0)) = some (.string s) := by
      intro i
      by_cases hi : i < len
      · obtain ⟨cs', hc, ht⟩ := hel i (by omega)
        obtain ⟨_, hcl, hat⟩ := World.cells?_some hc
        match cs', hcl with
        | [v0], _ =>
          obtain ⟨z, e1, _, w1⟩ := DataW.trod_string Try.underlying9 ht
          simp only [List.cons.injEq, and_true] at e1
          subst e1
          refine ⟨z, fun _ => ?_⟩
          have := hat 0 (by simp); rw [Go.Deep.add_add] at this; exact this
      · exact ⟨⟨#[]⟩, fun h => absurd h hi⟩
    obtain ⟨f, hf⟩ := Classical.axiomOfChoice hex
    refine ⟨(List.range len).map f, ⟨some a, cap, by simp, by simpa using hlc, ?_⟩, by have : cap ≤ 9223372036854775807 := hcm; simp; omega, fun n c h => by cases h⟩
    by_cases h0 : len = 0
    · left; subst h0; rfl
    · right
      obtain ⟨b, off, spot⟩ := a
      have hc0 := hf 0 (by omega)
      have hspot : spot = Option.none := by simpa [Addr.add] using World.cell?_spot hc0
      subst hspot
      refine ⟨b, off, rfl, lt_cell hc0, fun i x hi => ?_⟩
      rw [List.getElem?_map] at hi
      obtain ⟨j, hj, rfl⟩ := Option.map_eq_some_iff.1 hi
      have hjl : i < len := by
        have := (List.getElem?_eq_some_iff.1 hj).1
        simpa using this
      have hji : j = i := by
        rw [List.getElem?_range hjl] at hj
        exact (Option.some.inj hj).symm
      subst hji
      have x1 := hf j hjl
      rw [Go.WideShapes.add_plain, Nat.mul_one, Nat.add_zero] at x1
      exact x1

theorem open_strs {v : Value} {d : DataW H} {p : List MemPlace} {r : Reach} {b0 : Nat} (hv : Value.okWide Try.prog w r b0 27 v) (h : DataW.Trod enc Try.prog w base spare held 27 v d p) : ∃ L, StrRow w v L ∧ L.length ≤ 9223372036854775807 ∧ NilOk v := by
  obtain ⟨a0, len0, cap0, rfl⟩ := okWide_slice Try.underlying27 hv
  obtain ⟨m, hm⟩ := h
  exact strs_row (v := .slice a0 len0 cap0) hm

/-- one's three cells -/
theorem one_dep {fuel : Nat} {cs : List Value} {x : DataW H × List MemPlace} (hl : cs.length = 3) (ht : DataW.trod enc Try.prog w base spare held fuel 42 cs = some x) :
    ∃ (d : Dp) (v : Value), cs = [.string d.out, .int .i64 d.time, v] ∧ StrRow w v d.deps ∧ I64 d.time ∧ d.deps.length ≤ 9223372036854775807 ∧ NilOk v := by
  match cs, hl with
  | [v0, v1, v2], _ =>
    obtain ⟨xs, n, _, _, _, hxl, hf⟩ := DataW.trod_struct Try.underlying42 ht
    have hxl3 : xs.length = 3 := hxl
    have f0 := hf 0 _ rfl
    have f1 := hf 1 _ rfl
    have f2 := hf 2 _ rfl
    rw [List.getElem?_eq_getElem (by omega)] at f0 f1 f2
    have k0 : DataW.trod enc Try.prog w base spare held n 9 [v0] = some _ := f0
    have k1 : DataW.trod enc Try.prog w base spare held n 3 [v1] = some _ := f1
    have k2 : DataW.trod enc Try.prog w base spare held n 27 [v2] = some _ := f2
    obtain ⟨s0, e0, _, _⟩ := DataW.trod_string Try.underlying9 k0
    obtain ⟨z1, e1, _, w1⟩ := DataW.trod_int Try.underlying3 k1
    simp only [List.cons.injEq, and_true] at e0 e1
    subst e0 e1
    obtain ⟨L, hL, hl, hno⟩ := strs_row k2
    exact ⟨⟨s0, z1, L⟩, v2, rfl, hL, i64_of w1, hl, hno⟩

theorem open_dep {v : Value} {d : DataW H} {p : List MemPlace} {r : Reach} {b0 : Nat} (hv : Value.okWide Try.prog w r b0 42 v) (h : DataW.Trod enc Try.prog w base spare held 42 v d p) :
    ∃ (q : Dp) (vd : Value), v = .agg (dpC q vd) ∧ StrRow w vd q.deps ∧ I64 q.time ∧ q.deps.length ≤ 9223372036854775807 ∧ NilOk vd := by
  obtain ⟨cs, rfl, hsz⟩ := okWide_struct Try.underlying42 hv
  obtain ⟨m, hm⟩ := h
  have hm : DataW.trod enc Try.prog w base spare held m 42 cs.toList = some (d, p) := hm
  obtain ⟨q, vd, e, hs, h64, hl, hno⟩ := one_dep (by rw [Array.length_toList, hsz, cellsDep]) hm
  refine ⟨q, vd, ?_, hs, h64, hl, hno⟩
  congr 1
  apply Array.ext'
  rw [e]
  rfl

theorem deps_row {v : Value} {d : DataW H} {p : List MemPlace} {r : Reach} {b0 : Nat} (hv : Value.okWide Try.prog w r b0 28 v) (h : DataW.Trod enc Try.prog w base spare held 28 v d p) :
    ∃ L, DepRow w v L ∧ L.length ≤ 9223372036854775807 ∧ ∀ x ∈ L, I64 x.time ∧ x.deps.length ≤ 9223372036854775807 := by
  obtain ⟨a0, len0, cap0, rfl⟩ := okWide_slice Try.underlying28 hv
  obtain ⟨m, hm⟩ := h
  have hm : DataW.trod enc Try.prog w base spare held m 28 [.slice a0 len0 cap0] = some (d, p) := hm
  rcases open_slice Try.underlying28 hm with ⟨e, _⟩ | ⟨a, len, cap, mm, n, D, Pl, e, _, hlc, hcm, hmm, _, hel⟩
  · simp only [List.cons.injEq, and_true] at e
    exact ⟨[], ⟨Option.none, 0, e, Nat.le_refl _, .inl rfl⟩, by simp, by simp⟩
  · simp only [List.cons.injEq, and_true] at e
    rw [e]
    have hlen : len ≤ mm := by rw [hmm]; split <;> omega
    rw [cellsDep] at hel
    have hex : ∀ i : Nat, ∃ s : Dp × Value, i < len → (I64 s.1.time ∧ s.1.deps.length ≤ 9223372036854775807) ∧ (StrRow w s.2 s.1.deps ∧ NilOk s.2) ∧ w.cell? (a.add (i * 3 + 0)) = some (.string s.1.out) ∧ w.cell? (a.add (i * 3 + 1)) = some (.int .i64 s.1.time) ∧ w.cell? (a.add (i * 3 + 2)) = some s.2 := by
      intro i
      by_cases hi : i < len
      · obtain ⟨cs', hc, ht⟩ := hel i (by omega)
        obtain ⟨_, hcl, hat⟩ := World.cells?_some hc
        obtain ⟨s, vd, rfl, hS, h64, hl, hno⟩ := one_dep hcl ht
        refine ⟨(s, vd), fun _ => ⟨⟨h64, hl⟩, ⟨hS, hno⟩, ?_, ?_, ?_⟩⟩
        · have := hat 0 (by omega); rw [Go.Deep.add_add] at this; exact this
        · have := hat 1 (by omega); rw [Go.Deep.add_add] at this; exact this
        · have := hat 2 (by omega); rw [Go.Deep.add_add] at this; exact this
      · exact ⟨(⟨⟨#[]⟩, 0, []⟩, .bool false), fun h => absurd h hi⟩
    obtain ⟨f, hf⟩ := Classical.axiomOfChoice hex
    refine ⟨(List.range len).map fun i => (f i).1, ⟨some a, cap, by simp, by simpa using hlc, ?_⟩, by have : cap ≤ 9223372036854775807 := hcm; simp; omega, fun i hi => ?_⟩
    · by_cases h0 : len = 0
      · left; subst h0; rfl
      · right
        obtain ⟨b, off, spot⟩ := a
        have hc0 := (hf 0 (by omega)).2.2.1
        have hspot : spot = Option.none := by simpa [Addr.add] using World.cell?_spot hc0
        subst hspot
        refine ⟨b, off, rfl, lt_cell hc0, fun i x hi => ?_⟩
        rw [List.getElem?_map] at hi
        obtain ⟨j, hj, rfl⟩ := Option.map_eq_some_iff.1 hi
        have hjl : i < len := by
          have := (List.getElem?_eq_some_iff.1 hj).1
          simpa using this
        have hji : j = i := by
          rw [List.getElem?_range hjl] at hj
          exact (Option.some.inj hj).symm
        subst hji
        obtain ⟨_, hS, x0, x1, x2⟩ := hf j hjl
        rw [Go.WideShapes.add_plain] at x0 x1 x2
        exact ⟨_, x0, x1, x2, hS.1, hS.2⟩
    · obtain ⟨j, hj, rfl⟩ := List.mem_map.1 hi
      exact (hf j (List.mem_range.1 hj)).1
end
end Go.Proofs.Ytofdnbddpageoaa.Nm
