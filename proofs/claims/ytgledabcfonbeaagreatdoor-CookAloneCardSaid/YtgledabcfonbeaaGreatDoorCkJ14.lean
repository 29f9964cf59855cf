/-
  WHAT A LAW IS GIVEN, opened: bytes; a row of files.
-/
import Derived.Test.YtgledabcfonbeaaGreatDoorCkAwake
import Derived.Deep.Slices
import Derived.Deep.Fields
import Derived.ChangeSame
import Derived.Test.YtgledabcfonbeaaGreatDoorTie
import Derived.Test.YtgledabcfonbeaaGreatDoorCards
import Derived.HandedShaped
import Derived.Shelf.Vars
import Derived.ProofKit
import Derived.LaidMore
import Derived.Lay
import Derived.SevenTiedAt
import Derived.Stop.Joined
import Derived.ChangeOld
import Derived.Below
namespace Go.Proofs.YtgledabcfonbeaaGreatDoor.Df
open Go.RowKit Go.Maps Go.ChangeShapes Go.WideShapes Go.Deep Go.Proofs.YtgledabcfonbeaaGreatDoor
set_option linter.unusedVariables false

theorem lt_cell {w : World} {p : Addr} {v : Value} (h : w.cell? p = some v) : p.block < w.heap.size := by
  rcases Nat.lt_or_ge p.block w.heap.size with h' | h'
  · exact h'
  · simp [World.cell?, Array.getElem?_eq_none h'] at h
theorem cells5 : Tryz.prog.cellsOf 5 = 1 := by kernel_rfl
theorem cells9 : Tryz.prog.cellsOf 9 = 1 := by kernel_rfl
theorem cellsFl : Tryz.prog.cellsOf 45 = 2 := by kernel_rfl
def CapOk (v : Value) : Prop := ∀ a n c, v = .slice a n c → c ≤ 9223372036854775807
def NilOk (v : Value) : Prop := ∀ n c, v = .slice Option.none n c → c = 0

set_option maxRecDepth 100000
section
variable {H : Type} {enc : TypeId × Value → H} {w : World} {base : Nat} {spare : Nat → Bool} {held : Bool}

theorem byt_row {v : Value} {m : Nat} {x : DataW H × List MemPlace} (hm : DataW.trod enc Tryz.prog w base spare held m 24 [v] = some x) : ∃ b : Bs, Byt w v b ∧ CapOk v := by
  rcases open_slice Tryz.underlying24 hm with ⟨e, _⟩ | ⟨a, len, cap, mm, n, D, Pl, e, _, hlc, hcm, hmm, _, hel⟩
  · simp only [List.cons.injEq, and_true] at e
    exact ⟨[], by rw [e]; exact Byt.nil w, fun a n c h => by rw [e] at h; cases h; omega⟩
  · simp only [List.cons.injEq, and_true] at e
    rw [e]
    have hlen : len ≤ mm := by rw [hmm]; split <;> omega
    rw [cells5] at hel
    have hex : ∀ i : Nat, ∃ s : UInt8, i < len → w.cell? (a.add (i * 1 + 0)) = some (.int .u8 (s.toNat : Int)) := by
      intro i
      by_cases hi : i < len
      · obtain ⟨cs', hc, ht⟩ := hel i (by omega)
        obtain ⟨_, hcl, hat⟩ := World.cells?_some hc
        match cs', hcl with
        | [v0], _ =>
          obtain ⟨z, e1, _, w1⟩ := DataW.trod_int Tryz.underlying5 ht
          simp only [List.cons.injEq, and_true] at e1
          subst e1
          have hb : 0 ≤ z ∧ z ≤ 255 := by simpa [Lit.wf, IntKind.min, IntKind.max, IntKind.signed, IntKind.bits] using w1
          refine ⟨UInt8.ofNat z.toNat, fun _ => ?_⟩
          have h1 : ((UInt8.ofNat z.toNat).toNat : Int) = z := by
            rw [UInt8.toNat_ofNat']
            omega
          rw [h1]
          have := hat 0 (by simp); rw [Go.Deep.add_add] at this; exact this
      · exact ⟨0, fun h => absurd h hi⟩
    obtain ⟨f, hf⟩ := Classical.axiomOfChoice hex
    refine ⟨(List.range len).map f, ⟨some a, cap, by simp, by simpa using hlc, (fun e => by cases e), ?_⟩, fun a n c h => by cases h; exact hcm⟩
    by_cases h0 : len = 0
    · left; subst h0; rfl
    · right
      obtain ⟨b, off, spot⟩ := a
      have hc0 := hf 0 (by omega)
      have hspot : spot = Option.none := by simpa [Addr.add] using World.cell?_spot hc0
      subst hspot
      refine ⟨b, off, rfl, lt_cell hc0, fun i x hi => ?_⟩
      rw [List.getElem?_map] at hi
      obtain ⟨j, hj, rfl⟩ := Option.map_eq_some_iff.1 hi
      have hjl : i < len := by
        have := (List.getElem?_eq_some_iff.1 hj).1
        simpa using this
      have hji : j = i := by
        rw [List.getElem?_range hjl] at hj
        exact (Option.some.inj hj).symm
      subst hji
      have x1 := hf j hjl
      rw [Go.WideShapes.add_plain, Nat.mul_one, Nat.add_zero] at x1
      exact x1

theorem open_byt {v : Value} {d : DataW H} {p : List MemPlace} {r : Reach} {b0 : Nat} (hv : Value.okWide Tryz.prog w r b0 24 v) (h : DataW.Trod enc Tryz.prog w base spare held 24 v d p) : ∃ b : Bs, Byt w v b ∧ CapOk v := by
  obtain ⟨a0, len0, cap0, rfl⟩ := okWide_slice Tryz.underlying24 hv
  obtain ⟨m, hm⟩ := h
  exact byt_row (v := .slice a0 len0 cap0) hm

theorem one_file {fuel : Nat} {cs : List Value} {x : DataW H × List MemPlace} (hl : cs.length = 2) (ht : DataW.trod enc Tryz.prog w base spare held fuel 45 cs = some x) :
    ∃ (d : Fl) (v : Value), cs = [.string (mk d.1), v] ∧ Byt w v d.2 ∧ CapOk v := by
  match cs, hl with
  | [v0, v1], _ =>
    obtain ⟨xs, n, _, _, _, hxl, hf⟩ := DataW.trod_struct Tryz.underlying45 ht
    have hxl2 : xs.length = 2 := hxl
    have f0 := hf 0 _ rfl
    have f1 := hf 1 _ rfl
    rw [List.getElem?_eq_getElem (by omega)] at f0 f1
    have k0 : DataW.trod enc Tryz.prog w base spare held n 9 [v0] = some _ := f0
    have k1 : DataW.trod enc Tryz.prog w base spare held n 24 [v1] = some _ := f1
    obtain ⟨s0, e0, _, _⟩ := DataW.trod_string Tryz.underlying9 k0
    simp only [List.cons.injEq, and_true] at e0
    subst e0
    obtain ⟨L, hL, hc⟩ := byt_row k1
    exact ⟨(s0.data.toList, L), v1, by rw [mk_of], hL, hc⟩

theorem open_files {v : Value} {d : DataW H} {p : List MemPlace} {r : Reach} {b0 : Nat} (hv : Value.okWide Tryz.prog w r b0 22 v) (h : DataW.Trod enc Tryz.prog w base spare held 22 v d p) :
    ∃ L U, Fls w v L U ∧ (∀ u ∈ U, CapOk u) ∧ U.length = L.length ∧ L.length ≤ 9223372036854775807 := by
  obtain ⟨a0, len0, cap0, rfl⟩ := okWide_slice Tryz.underlying22 hv
  obtain ⟨m, hm⟩ := h
  have hm : DataW.trod enc Tryz.prog w base spare held m 22 [.slice a0 len0 cap0] = some (d, p) := hm
  rcases open_slice Tryz.underlying22 hm with ⟨e, _⟩ | ⟨a, len, cap, mm, n, D, Pl, e, _, hlc, hcm, hmm, _, hel⟩
  · simp only [List.cons.injEq, and_true] at e
    exact ⟨[], [], ⟨fun u hu => (by cases hu), Option.none, 0, e, Nat.le_refl _, .inl rfl⟩, fun u hu => (by cases hu), rfl, by simp⟩
  · simp only [List.cons.injEq, and_true] at e
    rw [e]
    have hlen : len ≤ mm := by rw [hmm]; split <;> omega
    rw [cellsFl] at hel
    have hex : ∀ i : Nat, ∃ s : Fl × Value, i < len → (Byt w s.2 s.1.2 ∧ CapOk s.2) ∧ w.cell? (a.add (i * 2 + 0)) = some (.string (mk s.1.1)) ∧ w.cell? (a.add (i * 2 + 1)) = some s.2 := by
      intro i
      by_cases hi : i < len
      · obtain ⟨cs', hc, ht⟩ := hel i (by omega)
        obtain ⟨_, hcl, hat⟩ := World.cells?_some hc
        obtain ⟨s, vd, rfl, hS, hcp⟩ := one_file hcl ht
        refine ⟨(s, vd), fun _ => ⟨⟨hS, hcp⟩, ?_, ?_⟩⟩
        · have := hat 0 (by omega); rw [Go.Deep.add_add] at this; exact this
        · have := hat 1 (by omega); rw [Go.Deep.add_add] at this; exact this
      · exact ⟨(([], []), .bool false), fun h => absurd h hi⟩
    obtain ⟨f, hf⟩ := Classical.axiomOfChoice hex
    have hU : ∀ u ∈ (List.range len).map (fun i => (f i).2), ∃ i, i < len ∧ u = (f i).2 := fun u hu => by
      obtain ⟨j, hj, rfl⟩ := List.mem_map.1 hu
      exact ⟨j, List.mem_range.1 hj, rfl⟩
    refine ⟨(List.range len).map fun i => (f i).1, (List.range len).map fun i => (f i).2, ⟨fun u hu => ?_, some a, cap, by simp, by simpa using hlc, ?_⟩, fun u hu => ?_, by simp, by have : cap ≤ 9223372036854775807 := hcm; simp; omega⟩
    · obtain ⟨i, hi, rfl⟩ := hU u hu
      obtain ⟨a, c, e, -⟩ := (hf i hi).1.1
      exact ⟨_, _, _, e⟩
    · by_cases h0 : len = 0
      · left; subst h0; rfl
      · right
        obtain ⟨b, off, spot⟩ := a
        have hc0 := (hf 0 (by omega)).2.1
        have hspot : spot = Option.none := by simpa [Addr.add] using World.cell?_spot hc0
        subst hspot
        refine ⟨b, off, rfl, lt_cell hc0, fun i x hi => ?_⟩
        rw [List.getElem?_map] at hi
        obtain ⟨j, hj, rfl⟩ := Option.map_eq_some_iff.1 hi
        have hjl : i < len := by
          have := (List.getElem?_eq_some_iff.1 hj).1
          simpa using this
        have hji : j = i := by
          rw [List.getElem?_range hjl] at hj
          exact (Option.some.inj hj).symm
        subst hji
        obtain ⟨hS, x0, x1⟩ := hf j hjl
        rw [Go.WideShapes.add_plain] at x0 x1
        exact ⟨(f j).2, by rw [List.getElem?_map, hj]; rfl, x0, x1, hS.1⟩
    · obtain ⟨i, hi, rfl⟩ := hU u hu
      exact (hf i hi).1.2
theorem decl_row {v : Value} {m : Nat} {x : DataW H × List MemPlace} (hm : DataW.trod enc Tryz.prog w base spare held m 32 [v] = some x) : ∃ L : List Bs, Strs w v L ∧ ∀ x ∈ L, x.length ≤ 9223372036854775807 := by
  rcases open_slice Tryz.underlying32 hm with ⟨e, _⟩ | ⟨a, len, cap, mm, n, D, Pl, e, _, hlc, hcm, hmm, _, hel⟩
  · simp only [List.cons.injEq, and_true] at e
    exact ⟨[], ⟨Option.none, 0, e, Nat.le_refl _, .inl rfl⟩, fun x hx => by cases hx⟩
  · simp only [List.cons.injEq, and_true] at e
    rw [e]
    have hlen : len ≤ mm := by rw [hmm]; split <;> omega
    rw [cells9] at hel
    have hex : ∀ i : Nat, ∃ s : Bs, s.length ≤ 9223372036854775807 ∧ (i < len → w.cell? (a.add (i * 1 + 0)) = some (.string (mk s))) := by
      intro i
      by_cases hi : i < len
      · obtain ⟨cs', hc, ht⟩ := hel i (by omega)
        obtain ⟨_, hcl, hat⟩ := World.cells?_some hc
        match cs', hcl with
        | [v0], _ =>
          obtain ⟨z, e1, _, w1⟩ := DataW.trod_string Tryz.underlying9 ht
          simp only [List.cons.injEq, and_true] at e1
          subst e1
          refine ⟨z.data.toList, ?_, fun _ => ?_⟩
          · have h1 : z.data.toList.length = z.size := by rw [Array.length_toList]; rfl
            rw [h1]
            unfold maxLen at w1
            omega
          · rw [mk_of]
            have := hat 0 (by simp); rw [Go.Deep.add_add] at this; exact this
      · exact ⟨[], Nat.zero_le _, fun h => absurd h hi⟩
    obtain ⟨f, hf⟩ := Classical.axiomOfChoice hex
    refine ⟨(List.range len).map f, ⟨some a, cap, by simp, by simpa using hlc, ?_⟩, fun x hx => by
      obtain ⟨i, _, rfl⟩ := List.mem_map.1 hx
      exact (hf i).1⟩
    by_cases h0 : len = 0
    · left; subst h0; rfl
    · right
      obtain ⟨b, off, spot⟩ := a
      have hc0 := (hf 0).2 (by omega)
      have hspot : spot = Option.none := by simpa [Addr.add] using World.cell?_spot hc0
      subst hspot
      refine ⟨b, off, rfl, lt_cell hc0, fun i x hi => ?_⟩
      rw [List.getElem?_map] at hi
      obtain ⟨j, hj, rfl⟩ := Option.map_eq_some_iff.1 hi
      have hjl : i < len := by
        have := (List.getElem?_eq_some_iff.1 hj).1
        simpa using this
      have hji : j = i := by
        rw [List.getElem?_range hjl] at hj
        exact (Option.some.inj hj).symm
      subst hji
      have x1 := (hf j).2 hjl
      rw [Go.WideShapes.add_plain, Nat.mul_one, Nat.add_zero] at x1
      exact x1
theorem open_decl {v : Value} {d : DataW H} {p : List MemPlace} {r : Reach} {b0 : Nat} (hv : Value.okWide Tryz.prog w r b0 32 v) (h : DataW.Trod enc Tryz.prog w base spare held 32 v d p) : ∃ L : List Bs, Strs w v L ∧ ∀ x ∈ L, x.length ≤ 9223372036854775807 := by
  obtain ⟨a0, len0, cap0, rfl⟩ := okWide_slice Tryz.underlying32 hv
  obtain ⟨m, hm⟩ := h
  exact decl_row (v := .slice a0 len0 cap0) hm

end
end Go.Proofs.YtgledabcfonbeaaGreatDoor.Df

/-! THE FRAME OF A CARD's PROOF, where the world's shape is wanted, too: what the library reads. -/
namespace Go.Proofs.YtgledabcfonbeaaGreatDoor.Df
open Go.RowKit Go.Proofs.YtgledabcfonbeaaGreatDoor

variable {H : Type} {enc : TypeId × Value → H}
theorem handed_and_shaped {a : Assume} {C : Checked} {os : Os} {f : FuncId} {fn : Func} {s : ChangeSpec} {conds : List PathCond} {apart fresh handsOn again : Bool} {X : World → Array Value → Prop}
    (own : ownKnob C.prog.godebug = none) (started : os.Started) (noInit : C.prog.inits.idxOf? f = none) (hfn : C.prog.funcs[f]? = some fn)
    (witness : ∃ (w : World) (tape : Tape) (i : Input), w.os = os ∧ (w.forCall tape i).Shaped C.prog ∧ i.vars = [] ∧ Input.okWide C.prog (w.forCall tape i) .any w.heap.size f i ∧
      ((s.pre enc C.prog fn conds apart (w.forCall tape i).memory i.args ∧ X (w.forCall tape i).memory i.args) ∧ sizedMet enc C.prog fn (OpenSpec.ofChange s) apart (w.forCall tape i).memory i.args) ∧ a.holds C.prog (lone (Frame.enter C.prog f i.args .normal) [] (w.forCall tape i)))
    (contract : ∀ (W : World) (base : Nat) (args : Array Value) (ds gs : List (DataW H)) (before : List MemPlace),
      (∀ (j : Nat) t v, fn.params[j]? = some t → args[j]? = some v → Value.okWide C.prog W .any base t v) →
      DataW.Whole enc C.prog fn.params.toList s.vars apart W args.toList ds gs before →
      W.ShapedOpen C.prog →
      Calls C.prog f args W fun e W' => ∃ v, e = .returned v ∧ s.post enc C.prog fn apart fresh handsOn again W args v W') :
    ReturnsInHanded a C os f .any (fun w args => (s.pre enc C.prog fn conds apart w args ∧ X w args) ∧ sizedMet enc C.prog fn (OpenSpec.ofChange s) apart w args) (s.post enc C.prog fn apart fresh handsOn again) := by
  refine returnsInHanded_of_calls own started noInit witness ?_
  intro w tape i _ hsh _ hok hpre _
  obtain ⟨_, _, _, fn', hfn', _, _, _, _, hval⟩ := hok
  have e : fn' = fn := Option.some.inj (hfn'.symm.trans hfn)
  subst e
  obtain ⟨⟨⟨ds, gs, before, hw, _⟩, _⟩, _⟩ := hpre
  have hw' := DataW.Whole.of_heap (w' := w.forCall tape i) (by rfl) hw
  refine (contract (w.forCall tape i) w.heap.size i.args ds gs before hval hw' hsh).mono fun e W' ⟨v, he, hp⟩ => ?_
  subst he
  exact ChangeSpec.post_blind hp

end Go.Proofs.YtgledabcfonbeaaGreatDoor.Df
