/-
  THE FRAME OF A CARD's PROOF, where the table of the bits package is read.
-/
import Derived.Test.YtgledabcfonbeaaGreatDoorCkJ14
import Derived.Test.YtgledabcfonbeaaGreatDoorCkSum
import Derived.Test.YtgledabcfonbeaaGreatDoorCkAwake
import Derived.Test.YtgledabcfonbeaaGreatDoorRows
import Derived.Lib.LaidTab
import Derived.Lib.LaidU8
import Derived.MakeChecks
namespace Go.Proofs.YtgledabcfonbeaaGreatDoor.Df
open Go.RowKit Go.Maps Go.Proofs.YtgledabcfonbeaaGreatDoor

theorem sumC_all {w : World} (hT : Tz w) {decl : List Bs} {L : List Fl} (hb : ∀ x ∈ L, x.2.length ≤ 200) (o : Cmd) : SumC w hashT decl (fileL L) o := fun _ =>
  ⟨fun r => by rw [hashT_len]; omega, fun W k m0 m1 m2 n0 n1 T F' hW hkf hal hax av hav => sum_a (hT.below hW) hkf.kn hkf.kb.ft hav (by omega) (fun a ha => by have := hax a ha; omega) (fun s b h => by
    unfold fileL at h
    cases hx : L.find? (fun x => decide (x.1 = s)) with
    | none => rw [hx] at h; cases h
    | some x => rw [hx] at h; cases h; exact hb x (List.mem_of_find?_eq_some hx))⟩
def tz64 : List Int := [0, 1, 56, 2, 57, 49, 28, 3, 61, 58, 42, 50, 38, 29, 17, 4, 62, 47, 59, 36, 45, 43, 51, 22, 53, 39, 33, 30, 24, 18, 12, 5, 63, 55, 48, 27, 60, 41, 37, 16, 46, 35, 44, 21, 52, 32, 23, 11, 54, 26, 40, 15, 34, 20, 31, 10, 25, 14, 19, 9, 13, 8, 7, 6]
theorem tz_of {l : List (String × DataW Unit)} {w w0 : World} (hh : w.heap = w0.heap) (hp : laidMetH Tryz.prog l w0 = laidMet Tryz.prog l w0) (hm : ("math/bits.deBruijn64tab", Lib.tabData .u8 tz64) ∈ l) (h : laidMetH Tryz.prog l w0) : Tz w := by
  rw [hp] at h
  obtain ⟨g, t, cs, fuel, p, h1, h2, h3, h4⟩ := Lib.laidMet.reads h hm
  obtain rfl : g = 3 := Option.some.inj (h1.symm.trans (show Tryz.prog.globalNamed "math/bits.deBruijn64tab" = some 3 by kernel_rfl))
  obtain rfl : t = 176 := Option.some.inj (h2.symm.trans (by kernel_rfl))
  have hc := Lib.cells_of_tab (k := .u8) (show Tryz.prog.underlying 176 = some (.array 64 5) by kernel_rfl) Tryz.underlying5 (by kernel_rfl) (by kernel_rfl) h4
  have ht : Lib.TabIs Tryz.prog w0 "math/bits.deBruijn64tab" .u8 tz64 := by
    unfold Lib.TabIs
    rw [h3, ← hc]
  have h5 := ht.cell h1 15 (by decide)
  have h6 : w.cell? ⟨3, 15, none⟩ = some (.int .u8 4) := (cell_of_block (by rw [hh])).trans h5
  refine ⟨h6, ?_⟩
  by_cases hlt : 3 < w.heap.size
  · exact hlt
  · have : w.heap[3]? = none := Array.getElem?_eq_none (by omega)
    simp [World.cell?, this] at h6
variable {H : Type} {enc : TypeId × Value → H}
theorem handed_and_laid {a : Assume} {C : Checked} {os : Os} {f : FuncId} {fn : Func} {s : ChangeSpec} {conds : List PathCond} {apart fresh handsOn again : Bool} {X : World → Array Value → Prop}
    (own : ownKnob C.prog.godebug = none) (started : os.Started) (noInit : C.prog.inits.idxOf? f = none) (hfn : C.prog.funcs[f]? = some fn)
    (witness : ∃ (w : World) (tape : Tape) (i : Input), w.os = os ∧ (w.forCall tape i).Shaped C.prog ∧ i.vars = [] ∧ Input.okWide C.prog (w.forCall tape i) .any w.heap.size f i ∧
      ((s.pre enc C.prog fn conds apart (w.forCall tape i).memory i.args ∧ X (w.forCall tape i).memory i.args) ∧ sizedMet enc C.prog fn (OpenSpec.ofChange s) apart (w.forCall tape i).memory i.args) ∧ a.holds C.prog (lone (Frame.enter C.prog f i.args .normal) [] (w.forCall tape i)))
    (contract : ∀ (W : World) (base : Nat) (args : Array Value) (ds gs : List (DataW H)) (before : List MemPlace),
      (∀ (j : Nat) t v, fn.params[j]? = some t → args[j]? = some v → Value.okWide C.prog W .any base t v) →
      DataW.Whole enc C.prog fn.params.toList s.vars apart W args.toList ds gs before →
      W.ShapedOpen C.prog → (∃ w0, W.heap = w0.heap ∧ X w0 args) →
      Calls C.prog f args W fun e W' => ∃ v, e = .returned v ∧ s.post enc C.prog fn apart fresh handsOn again W args v W') :
    ReturnsInHanded a C os f .any (fun w args => (s.pre enc C.prog fn conds apart w args ∧ X w args) ∧ sizedMet enc C.prog fn (OpenSpec.ofChange s) apart w args) (s.post enc C.prog fn apart fresh handsOn again) := by
  refine returnsInHanded_of_calls own started noInit witness ?_
  intro w tape i _ hsh _ hok hpre _
  obtain ⟨_, _, _, fn', hfn', _, _, _, _, hval⟩ := hok
  have e : fn' = fn := Option.some.inj (hfn'.symm.trans hfn)
  subst e
  obtain ⟨⟨⟨ds, gs, before, hw, _⟩, hX⟩, _⟩ := hpre
  have hw' := DataW.Whole.of_heap (w' := w.forCall tape i) (by rfl) hw
  refine (contract (w.forCall tape i) w.heap.size i.args ds gs before hval hw' hsh ⟨(w.forCall tape i).memory, rfl, hX⟩).mono fun e W' ⟨v, he, hp⟩ => ?_
  subst he
  exact ChangeSpec.post_blind hp
end Go.Proofs.YtgledabcfonbeaaGreatDoor.Df
