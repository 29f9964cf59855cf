/-
  THE LAWS' ARGUMENTS: a run of the document, by value; a row of runs.
-/
import Derived.Test.YtdijpoemimebmaaRnEach
import Derived.Deep.Slices
import Derived.Deep.Fields
import Derived.ChangeSame
namespace Go.Proofs.Ytdijpoemimebmaa.Rn
open Go.RowKit Go.Maps Go.ChangeShapes Go.WideShapes Go.Deep

/-- an int's room -/
def I64 (z : Int) : Prop := -9223372036854775808 ≤ z ∧ z ≤ 9223372036854775807
/-- all of a run's times are ints -/
structure R64 (r : Run) : Prop where
  time : I64 r.time
  mark : I64 r.mark
  ins : ∀ i ∈ r.ins, I64 i.time
  fds : ∀ t ∈ r.found, I64 t

theorem i64_of {z : Int} (h : (Lit.int .i64 z).wf = true) : I64 z := by
  simpa [Lit.wf, IntKind.min, IntKind.max, IntKind.signed, IntKind.bits, I64] using h

theorem lt_cell {w : World} {p : Addr} {v : Value} (h : w.cell? p = some v) : p.block < w.heap.size := by
  rcases Nat.lt_or_ge p.block w.heap.size with h' | h'
  · exact h'
  · simp [World.cell?, Array.getElem?_eq_none h'] at h

theorem cellsIn : Try.prog.cellsOf 54 = 2 := by kernel_rfl
theorem cellsRun : Try.prog.cellsOf 25 = 6 := by kernel_rfl
theorem u8_of {z : Int} (h : (Lit.int .u8 z).wf = true) : ∃ n : Nat, z = (n : Int) ∧ n < 256 := by
  have hb : 0 ≤ z ∧ z ≤ 255 := by simpa [Lit.wf, IntKind.min, IntKind.max, IntKind.signed, IntKind.bits] using h
  exact ⟨z.toNat, by omega, by omega⟩
theorem cells5 : Try.prog.cellsOf 5 = 1 := by kernel_rfl
theorem cells3 : Try.prog.cellsOf 3 = 1 := by kernel_rfl

set_option maxRecDepth 100000
section
variable {H : Type} {enc : TypeId × Value → H} {w : World} {base : Nat} {spare : Nat → Bool} {held : Bool}

theorem one_in {fuel : Nat} {cs : List Value} {x : DataW H × List MemPlace} (hl : cs.length = 2) (ht : DataW.trod enc Try.prog w base spare held fuel 54 cs = some x) :
    ∃ s : In, I64 s.time ∧ cs = [.string s.name, .int .i64 s.time] := by
  match cs, hl with
  | [v0, v1], _ =>
    obtain ⟨xs, n, _, _, _, hxl, hf⟩ := DataW.trod_struct Try.underlying54 ht
    have hxl3 : xs.length = 2 := hxl
    have f0 := hf 0 _ rfl
    have f1 := hf 1 _ rfl
    rw [List.getElem?_eq_getElem (by omega)] at f0 f1
    have k0 : DataW.trod enc Try.prog w base spare held n 9 [v0] = some _ := f0
    have k1 : DataW.trod enc Try.prog w base spare held n 3 [v1] = some _ := f1
    obtain ⟨s0, e0, _, _⟩ := DataW.trod_string Try.underlying9 k0
    obtain ⟨z, e1, _, w1⟩ := DataW.trod_int Try.underlying3 k1
    simp only [List.cons.injEq, and_true] at e0 e1
    subst e0 e1
    exact ⟨⟨s0, z⟩, i64_of w1, rfl⟩

theorem ins_row {v : Value} {m : Nat} {x : DataW H × List MemPlace} (hm : DataW.trod enc Try.prog w base spare held m 22 [v] = some x) : ∃ L, InRow w v L ∧ ∀ i ∈ L, I64 i.time := by
  rcases open_slice Try.underlying22 hm with ⟨e, _⟩ | ⟨a, len, cap, mm, n, D, Pl, e, _, hlc, hcm, hmm, _, hel⟩
  · simp only [List.cons.injEq, and_true] at e
    exact ⟨[], ⟨Option.none, 0, e, fun _ => rfl, Nat.le_refl _, .inl rfl⟩, by simp⟩
  · simp only [List.cons.injEq, and_true] at e
    rw [e]
    have hlen : len ≤ mm := by rw [hmm]; split <;> omega
    rw [cellsIn] at hel
    have hex : ∀ i : Nat, ∃ s : In, i < len → I64 s.time ∧ w.cell? (a.add (i * 2 + 0)) = some (.string s.name) ∧ w.cell? (a.add (i * 2 + 1)) = some (.int .i64 s.time) := by
      intro i
      by_cases hi : i < len
      · obtain ⟨cs', hc, ht⟩ := hel i (by omega)
        obtain ⟨_, hcl, hat⟩ := World.cells?_some hc
        obtain ⟨s, hs, rfl⟩ := one_in hcl ht
        refine ⟨s, fun _ => ⟨hs, ?_, ?_⟩⟩
        · have := hat 0 (by omega); rw [Go.Deep.add_add] at this; exact this
        · have := hat 1 (by omega); rw [Go.Deep.add_add] at this; exact this
      · exact ⟨⟨⟨#[]⟩, 0⟩, fun h => absurd h hi⟩
    obtain ⟨f, hf⟩ := Classical.axiomOfChoice hex
    refine ⟨(List.range len).map f, ⟨some a, cap, by simp, by simp, by simpa using hlc, ?_⟩, fun i hi => ?_⟩
    · by_cases h0 : len = 0
      · left; subst h0; rfl
      · right
        obtain ⟨b, off, spot⟩ := a
        have hc0 := (hf 0 (by omega)).2.1
        have hspot : spot = Option.none := by simpa [Addr.add] using World.cell?_spot hc0
        subst hspot
        refine ⟨b, off, rfl, lt_cell hc0, fun i x hi => ?_⟩
        rw [List.getElem?_map] at hi
        obtain ⟨j, hj, rfl⟩ := Option.map_eq_some_iff.1 hi
        have hjl : i < len := by
          have := (List.getElem?_eq_some_iff.1 hj).1
          simpa using this
        have hji : j = i := by
          rw [List.getElem?_range hjl] at hj
          exact (Option.some.inj hj).symm
        subst hji
        obtain ⟨x0, x1, x2⟩ := hf j hjl
        refine ⟨?_, ?_⟩
        · rw [Go.WideShapes.add_plain] at x1; exact x1
        · rw [Go.WideShapes.add_plain] at x2; exact x2
    · obtain ⟨j, hj, rfl⟩ := List.mem_map.1 hi
      exact (hf j (List.mem_range.1 hj)).1

theorem fds_row {v : Value} {m : Nat} {x : DataW H × List MemPlace} (hm : DataW.trod enc Try.prog w base spare held m 23 [v] = some x) : ∃ L, FdRow w v L ∧ ∀ i ∈ L, I64 i := by
  rcases open_slice Try.underlying23 hm with ⟨e, _⟩ | ⟨a, len, cap, mm, n, D, Pl, e, _, hlc, hcm, hmm, _, hel⟩
  · simp only [List.cons.injEq, and_true] at e
    exact ⟨[], ⟨Option.none, 0, e, fun _ => rfl, Nat.le_refl _, .inl rfl⟩, by simp⟩
  · simp only [List.cons.injEq, and_true] at e
    rw [e]
    have hlen : len ≤ mm := by rw [hmm]; split <;> omega
    rw [cells3] at hel
    have hex : ∀ i : Nat, ∃ s : Int, i < len → I64 s ∧ w.cell? (a.add (i * 1 + 0)) = some (.int .i64 s) := by
      intro i
      by_cases hi : i < len
      · obtain ⟨cs', hc, ht⟩ := hel i (by omega)
        obtain ⟨_, hcl, hat⟩ := World.cells?_some hc
        match cs', hcl with
        | [v0], _ =>
          obtain ⟨z, e1, _, w1⟩ := DataW.trod_int Try.underlying3 ht
          simp only [List.cons.injEq, and_true] at e1
          subst e1
          refine ⟨z, fun _ => ⟨i64_of w1, ?_⟩⟩
          have := hat 0 (by simp); rw [Go.Deep.add_add] at this; exact this
      · exact ⟨0, fun h => absurd h hi⟩
    obtain ⟨f, hf⟩ := Classical.axiomOfChoice hex
    refine ⟨(List.range len).map f, ⟨some a, cap, by simp, by simp, by simpa using hlc, ?_⟩, fun i hi => ?_⟩
    · by_cases h0 : len = 0
      · left; subst h0; rfl
      · right
        obtain ⟨b, off, spot⟩ := a
        have hc0 := (hf 0 (by omega)).2
        have hspot : spot = Option.none := by simpa [Addr.add] using World.cell?_spot hc0
        subst hspot
        refine ⟨b, off, rfl, lt_cell hc0, fun i x hi => ?_⟩
        rw [List.getElem?_map] at hi
        obtain ⟨j, hj, rfl⟩ := Option.map_eq_some_iff.1 hi
        have hjl : i < len := by
          have := (List.getElem?_eq_some_iff.1 hj).1
          simpa using this
        have hji : j = i := by
          rw [List.getElem?_range hjl] at hj
          exact (Option.some.inj hj).symm
        subst hji
        obtain ⟨x0, x1⟩ := hf j hjl
        rw [Go.WideShapes.add_plain, Nat.mul_one, Nat.add_zero] at x1
        exact x1
    · obtain ⟨j, hj, rfl⟩ := List.mem_map.1 hi
      exact (hf j (List.mem_range.1 hj)).1

/-- one run's six cells -/
theorem one_run {fuel : Nat} {cs : List Value} {x : DataW H × List MemPlace} (hl : cs.length = 6) (ht : DataW.trod enc Try.prog w base spare held fuel 25 cs = some x) :
    ∃ (r : Run) (vi vf : Value), cs = [.string r.out, .string r.cmd, .int .i64 r.time, .int .i64 r.mark, vi, vf] ∧ InRow w vi r.ins ∧ FdRow w vf r.found ∧ R64 r := by
  match cs, hl with
  | [v0, v1, v2, v3, v4, v5], _ =>
    obtain ⟨xs, n, _, _, _, hxl, hf⟩ := DataW.trod_struct Try.underlying25 ht
    have hxl3 : xs.length = 6 := hxl
    have f0 := hf 0 _ rfl
    have f1 := hf 1 _ rfl
    have f2 := hf 2 _ rfl
    have f3 := hf 3 _ rfl
    have f4 := hf 4 _ rfl
    have f5 := hf 5 _ rfl
    rw [List.getElem?_eq_getElem (by omega)] at f0 f1 f2 f3 f4 f5
    have k0 : DataW.trod enc Try.prog w base spare held n 9 [v0] = some _ := f0
    have k1 : DataW.trod enc Try.prog w base spare held n 9 [v1] = some _ := f1
    have k2 : DataW.trod enc Try.prog w base spare held n 3 [v2] = some _ := f2
    have k3 : DataW.trod enc Try.prog w base spare held n 3 [v3] = some _ := f3
    have k4 : DataW.trod enc Try.prog w base spare held n 22 [v4] = some _ := f4
    have k5 : DataW.trod enc Try.prog w base spare held n 23 [v5] = some _ := f5
    obtain ⟨s0, e0, _, _⟩ := DataW.trod_string Try.underlying9 k0
    obtain ⟨s1, e1, _, _⟩ := DataW.trod_string Try.underlying9 k1
    obtain ⟨z2, e2, _, w2⟩ := DataW.trod_int Try.underlying3 k2
    obtain ⟨z3, e3, _, w3⟩ := DataW.trod_int Try.underlying3 k3
    simp only [List.cons.injEq, and_true] at e0 e1 e2 e3
    subst e0 e1 e2 e3
    obtain ⟨I, hI, tI⟩ := ins_row k4
    obtain ⟨F, hF, tF⟩ := fds_row k5
    exact ⟨⟨s0, s1, z2, z3, I, F⟩, v4, v5, rfl, hI, hF, i64_of w2, i64_of w3, tI, tF⟩

theorem open_run {v : Value} {d : DataW H} {p : List MemPlace} {r : Reach} {b0 : Nat} (hv : Value.okWide Try.prog w r b0 25 v) (h : DataW.Trod enc Try.prog w base spare held 25 v d p) :
    ∃ (q : Run) (vi vf : Value), v = .agg (runC q vi vf) ∧ InRow w vi q.ins ∧ FdRow w vf q.found ∧ R64 q := by
  obtain ⟨cs, rfl, hsz⟩ := okWide_struct Try.underlying25 hv
  obtain ⟨m, hm⟩ := h
  have hm : DataW.trod enc Try.prog w base spare held m 25 cs.toList = some (d, p) := hm
  obtain ⟨q, vi, vf, e, hi, hf, h64⟩ := one_run (by rw [Array.length_toList, hsz, cellsRun]) hm
  refine ⟨q, vi, vf, ?_, hi, hf, h64⟩
  congr 1
  apply Array.ext'
  rw [e]
  rfl

/-- a row of runs -/
def RunRow (w : World) (v : Value) (L : List Run) : Prop :=
  ∃ a c, v = .slice a L.length c ∧ (a = Option.none → c = 0) ∧ L.length ≤ c ∧ (L = [] ∨ ∃ b off, a = some ⟨b, off, Option.none⟩ ∧ b < w.heap.size ∧
    ∀ i x, L[i]? = some x → ∃ vi vf, w.cell? ⟨b, off + i * 6, Option.none⟩ = some (.string x.out) ∧ w.cell? ⟨b, off + i * 6 + 1, Option.none⟩ = some (.string x.cmd) ∧ w.cell? ⟨b, off + i * 6 + 2, Option.none⟩ = some (.int .i64 x.time) ∧
      w.cell? ⟨b, off + i * 6 + 3, Option.none⟩ = some (.int .i64 x.mark) ∧ w.cell? ⟨b, off + i * 6 + 4, Option.none⟩ = some vi ∧ w.cell? ⟨b, off + i * 6 + 5, Option.none⟩ = some vf ∧ InRow w vi x.ins ∧ FdRow w vf x.found)

theorem runs_row {v : Value} {d : DataW H} {p : List MemPlace} {r : Reach} {b0 : Nat} (hv : Value.okWide Try.prog w r b0 45 v) (h : DataW.Trod enc Try.prog w base spare held 45 v d p) :
    ∃ L, RunRow w v L ∧ ∀ x ∈ L, R64 x := by
  obtain ⟨a0, len0, cap0, rfl⟩ := okWide_slice Try.underlying45 hv
  obtain ⟨m, hm⟩ := h
  have hm : DataW.trod enc Try.prog w base spare held m 45 [.slice a0 len0 cap0] = some (d, p) := hm
  rcases open_slice Try.underlying45 hm with ⟨e, _⟩ | ⟨a, len, cap, mm, n, D, Pl, e, _, hlc, hcm, hmm, _, hel⟩
  · simp only [List.cons.injEq, and_true] at e
    exact ⟨[], ⟨Option.none, 0, e, fun _ => rfl, Nat.le_refl _, .inl rfl⟩, by simp⟩
  · simp only [List.cons.injEq, and_true] at e
    rw [e]
    have hlen : len ≤ mm := by rw [hmm]; split <;> omega
    rw [cellsRun] at hel
    have hex : ∀ i : Nat, ∃ s : Run × Value × Value, i < len → R64 s.1 ∧ InRow w s.2.1 s.1.ins ∧ FdRow w s.2.2 s.1.found ∧ w.cell? (a.add (i * 6 + 0)) = some (.string s.1.out) ∧ w.cell? (a.add (i * 6 + 1)) = some (.string s.1.cmd) ∧ w.cell? (a.add (i * 6 + 2)) = some (.int .i64 s.1.time) ∧
        w.cell? (a.add (i * 6 + 3)) = some (.int .i64 s.1.mark) ∧ w.cell? (a.add (i * 6 + 4)) = some s.2.1 ∧ w.cell? (a.add (i * 6 + 5)) = some s.2.2 := by
      intro i
      by_cases hi : i < len
      · obtain ⟨cs', hc, ht⟩ := hel i (by omega)
        obtain ⟨_, hcl, hat⟩ := World.cells?_some hc
        obtain ⟨s, vi, vf, rfl, hI, hF, h64⟩ := one_run hcl ht
        refine ⟨(s, vi, vf), fun _ => ⟨h64, hI, hF, ?_, ?_, ?_, ?_, ?_, ?_⟩⟩
        · have := hat 0 (by omega); rw [Go.Deep.add_add] at this; exact this
        · have := hat 1 (by omega); rw [Go.Deep.add_add] at this; exact this
        · have := hat 2 (by omega); rw [Go.Deep.add_add] at this; exact this
        · have := hat 3 (by omega); rw [Go.Deep.add_add] at this; exact this
        · have := hat 4 (by omega); rw [Go.Deep.add_add] at this; exact this
        · have := hat 5 (by omega); rw [Go.Deep.add_add] at this; exact this
      · exact ⟨(none, .bool false, .bool false), fun h => absurd h hi⟩
    obtain ⟨f, hf⟩ := Classical.axiomOfChoice hex
    refine ⟨(List.range len).map fun i => (f i).1, ⟨some a, cap, by simp, by simp, by simpa using hlc, ?_⟩, fun i hi => ?_⟩
    · by_cases h0 : len = 0
      · left; subst h0; rfl
      · right
        obtain ⟨b, off, spot⟩ := a
        have hc0 := (hf 0 (by omega)).2.2.2.1
        have hspot : spot = Option.none := by simpa [Addr.add] using World.cell?_spot hc0
        subst hspot
        refine ⟨b, off, rfl, lt_cell hc0, fun i x hi => ?_⟩
        rw [List.getElem?_map] at hi
        obtain ⟨j, hj, rfl⟩ := Option.map_eq_some_iff.1 hi
        have hjl : i < len := by
          have := (List.getElem?_eq_some_iff.1 hj).1
          simpa using this
        have hji : j = i := by
          rw [List.getElem?_range hjl] at hj
          exact (Option.some.inj hj).symm
        subst hji
        obtain ⟨_, hI, hF, x0, x1, x2, x3, x4, x5⟩ := hf j hjl
        rw [Go.WideShapes.add_plain] at x0 x1 x2 x3 x4 x5
        exact ⟨_, _, x0, x1, x2, x3, x4, x5, hI, hF⟩
    · obtain ⟨j, hj, rfl⟩ := List.mem_map.1 hi
      exact (hf j (List.mem_range.1 hj)).1

theorem bytes_row {v : Value} {d : DataW H} {p : List MemPlace} {r : Reach} {b0 : Nat} (hv : Value.okWide Try.prog w r b0 27 v) (h : DataW.Trod enc Try.prog w base spare held 27 v d p) :
    ∃ a n c l, v = .slice a n c ∧ Hid (n = l.length) ∧ Pk.Row w a l ∧ (∀ x ∈ l, x < 256) ∧ n ≤ c ∧ (a = Option.none → c = 0) := by
  obtain ⟨a0, len0, cap0, rfl⟩ := okWide_slice Try.underlying27 hv
  obtain ⟨m, hm⟩ := h
  have hm : DataW.trod enc Try.prog w base spare held m 27 [.slice a0 len0 cap0] = some (d, p) := hm
  rcases open_slice Try.underlying27 hm with ⟨e, _⟩ | ⟨a, len, cap, mm, n, D, Pl, e, _, hlc, hcm, hmm, _, hel⟩
  · simp only [List.cons.injEq, and_true] at e
    exact ⟨Option.none, 0, 0, [], e, Lib.hid rfl, .inl rfl, by simp, Nat.le_refl _, fun _ => rfl⟩
  · simp only [List.cons.injEq, and_true] at e
    rw [e]
    have hlen : len ≤ mm := by rw [hmm]; split <;> omega
    rw [cells5] at hel
    have hex : ∀ i : Nat, ∃ s : Nat, i < len → s < 256 ∧ w.cell? (a.add (i * 1 + 0)) = some (.int .u8 (s : Int)) := by
      intro i
      by_cases hi : i < len
      · obtain ⟨cs', hc, ht⟩ := hel i (by omega)
        obtain ⟨_, hcl, hat⟩ := World.cells?_some hc
        match cs', hcl with
        | [v0], _ =>
          obtain ⟨z, e1, _, w1⟩ := DataW.trod_int Try.underlying5 ht
          simp only [List.cons.injEq, and_true] at e1
          subst e1
          obtain ⟨k, rfl, hk⟩ := u8_of w1
          refine ⟨k, fun _ => ⟨hk, ?_⟩⟩
          have := hat 0 (by simp); rw [Go.Deep.add_add] at this; exact this
      · exact ⟨0, fun h => absurd h hi⟩
    obtain ⟨f, hf⟩ := Classical.axiomOfChoice hex
    refine ⟨some a, len, cap, (List.range len).map f, rfl, Lib.hid (by simp), ?_, fun x hx => ?_, hlc, by simp⟩
    · by_cases h0 : len = 0
      · left; subst h0; rfl
      · right
        obtain ⟨b, off, spot⟩ := a
        have hc0 := (hf 0 (by omega)).2
        have hspot : spot = Option.none := by simpa [Addr.add] using World.cell?_spot hc0
        subst hspot
        refine ⟨b, off, rfl, lt_cell hc0, fun i hi => ?_⟩
        have hjl : i < len := by simpa using hi
        obtain ⟨x0, x1⟩ := hf i hjl
        rw [Go.WideShapes.add_plain, Nat.mul_one, Nat.add_zero] at x1
        rw [x1]
        simp [List.getD, hjl]
    · obtain ⟨j, hj, rfl⟩ := List.mem_map.1 hx
      exact (hf j (List.mem_range.1 hj)).1
end
end Go.Proofs.Ytdijpoemimebmaa.Rn
