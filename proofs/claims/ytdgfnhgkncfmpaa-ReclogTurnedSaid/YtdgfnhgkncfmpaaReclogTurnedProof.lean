/-
  The law 'ReclogTurned' of the package bellowslaw05 returns true for every input, and leaves its arguments as they were. No condition.
-/
import Derived.Test.YtdgfnhgkncfmpaaRows
import Derived.Test.YtdgfnhgkncfmpaaArgs
import Derived.Test.YtdgfnhgkncfmpaaTurnedW
import Derived.WalkKit
import Derived.ProofKit
import Derived.OpenShut
import Derived.ShutString
import Derived.ChangeOld
import Derived.Below
import Derived.Deep.Slices
import Derived.Lib.SmallJoins
namespace Go.Proofs.Ytdgfnhgkncfmpaa.reclogTurned
open Go.ChangeShapes Go.WideShapes Go.ChangeAt Go.RowKit
open Go.ChangeMaps (open_string shut_string)
open Go.Joins (trod_struct4)
set_option linter.unusedVariables false

theorem own : ownKnob Try.prog.godebug = none := by kernel_rfl
theorem laidOut : laidOutB Try.prog = true := by kernel_rfl

theorem len4 {cs : Array Value} (h : cs.size = 4) : ∃ a b c d, cs = #[a, b, c, d] := by
  obtain ⟨l⟩ := cs
  match l, h with
  | [a, b, c, d], _ => exact ⟨a, b, c, d, rfl⟩

theorem mat_of {H : Type} {enc : TypeId × Value → H} {W : World} {base fuel : Nat} {held : Bool} {cs : List Value} {x : DataW H × List MemPlace} (h : DataW.trod enc Try.prog W base (fun _ => true) held fuel 54 cs = some x) :
    ∃ v rows, cs = [v] ∧ Mat W v rows ∧ ∀ a n c, v = .slice a n c → n ≤ c := by
  rcases Go.Deep.open_slice1 Try.underlying54 (by kernel_rfl) h with ⟨rfl, _⟩ | ⟨a, len, cap, m, n, V, D, Pl, rfl, hb, hl, hm, hmm, rfl, hx⟩
  · exact ⟨_, [], rfl, ⟨none, 0, rfl, fun j r hj => (by cases hj)⟩, fun a n c e => by cases e; exact Nat.le_refl _⟩
  · have hmm2 : m = cap := by simpa using hmm
    have hrow : ∀ j, j < len → ∃ bs, BRow W (V j) bs := fun j hj => by
      obtain ⟨_, h2⟩ := hx j (by omega)
      obtain ⟨v, bs, e, hbr⟩ := brow_of h2
      simp only [List.cons.injEq, and_true] at e
      subst e
      exact ⟨bs, hbr⟩
    obtain ⟨F, hF⟩ := Go.Deep.choose_lt (α := List UInt8) (p := fun j bs => BRow W (V j) bs) (n := len) hrow
    refine ⟨_, (List.range len).map F, rfl, ⟨some a, cap, by simp, fun j r hj => ?_⟩, fun a n c e => by cases e; omega⟩
    have hj2 : j < len := by
      have := (List.getElem?_eq_some_iff.1 hj).1
      simpa using this
    have hr : r = F j := by
      rw [List.getElem?_map, List.getElem?_range hj2] at hj
      simpa using hj.symm
    obtain ⟨h1, _⟩ := hx j (by omega)
    obtain ⟨b, o, spot⟩ := a
    have hspot : spot = none := by
      have := World.cell?_spot (hx 0 (by omega)).1
      simpa [Addr.add] using this
    subst hspot
    have h3 : W.cell? ⟨b, o + j, none⟩ = some (V j) := by rw [← Go.WideShapes.add_plain]; exact h1
    exact ⟨b, o, V j, rfl, lt_of_cell h3, h3, by rw [hr]; exact hF j hj2⟩

theorem byte_of {z : Int} (h : (Lit.int .u8 z).wf = true) : ∃ k : UInt8, z = (k.toNat : Int) := by
  have hb : 0 ≤ z ∧ z ≤ 255 := by simpa [Lit.wf, IntKind.min, IntKind.max, IntKind.signed, IntKind.bits] using h
  refine ⟨UInt8.ofNat z.toNat, ?_⟩
  have : (UInt8.ofNat z.toNat).toNat = z.toNat := by simp; omega
  rw [this]
  omega
theorem word_of {z : Int} (h : (Lit.int .u16 z).wf = true) : ∃ n : Nat, z = (n : Int) ∧ n < 65536 := by
  have hb : 0 ≤ z ∧ z ≤ 65535 := by simpa [Lit.wf, IntKind.min, IntKind.max, IntKind.signed, IntKind.bits] using h
  exact ⟨z.toNat, by omega, by omega⟩

/-! ### THE ROW's STEP: WRITTEN OUT: LEAVE IT -/
set_option maxRecDepth 100000 in
theorem lifted (os : Os) (started : os.Started) (H : Type) (enc : TypeId × Value → H) :
    ReturnsInHanded {} Try.checked os 8 .any (Rows.reclogTurnedSpec.pre6 enc Try.prog Try.f8 Rows.reclogTurnedRow.domain false) (Rows.reclogTurnedSpec.post enc Try.prog Try.f8 false true false false) := by
  refine returnsInHanded_of_change (C := Try.checked) own started (by kernel_rfl) Try.func8
    (ChangeSpec.witness6 (enc := enc) (C := Try.checked) false ⟨#[], #[.agg #[.slice none 0 0, .int .u8 0, .int .u16 0, .int .u8 0]], []⟩ 8 (by kernel_rfl) (by kernel_rfl) (by kernel_rfl) (by kernel_rfl)) ?_
  intro W base args ds gs before hval0 hW hcnd _
  have hval : ∀ (j : Nat) t v, Try.f8.params[j]? = some t → args[j]? = some v → Value.okWide Try.prog W .any base t v := hval0
  have hW' := hW
  obtain ⟨p, q, hA0, hV, rfl, hfz, hnd⟩ := hW
  have hA : DataW.TrodAll enc Try.prog W 0 (fun _ => true) true Try.f8.params.toList args.toList ds p := hA0
  rw [Try.params8] at hA hval
  obtain ⟨v0, vs0, d0, ds0, p0, q0, hargs, rfl, rfl, h0, r0⟩ := trodAll_cons hA
  obtain ⟨rfl, rfl, rfl⟩ := trodAll_nil r0
  obtain rfl : args = #[v0] := by cases args; simp_all
  obtain ⟨rfl, rfl⟩ := trodVars_none hV
  have k0 := h0
  have lt0 : ∀ x ∈ p0, x.block < W.heap.size := by obtain ⟨m, hm⟩ := k0; exact DataW.trod_lt m _ _ _ hm
  have hv0 := hval 0 75 v0 rfl rfl
  simp only [Value.okWide, Try.underlying75] at hv0
  obtain ⟨cs, rfl, hsz, _⟩ := hv0
  have hc4 : Try.prog.cellsOf 75 = 4 := by kernel_rfl
  obtain ⟨c0, c1, c2, c3, rfl⟩ := len4 (hsz.trans hc4)
  obtain ⟨fuel, hf⟩ := h0
  obtain ⟨y0, y1, y2, y3, n, _, _, g0, g1, g2, g3⟩ := trod_struct4 Try.underlying75 hf
  have kr : Try.prog.cellsOf 54 = 1 := by kernel_rfl
  have k5 : Try.prog.cellsOf 5 = 1 := by kernel_rfl
  have k16 : Try.prog.cellsOf 70 = 1 := by kernel_rfl
  simp only [kr, k5, k16] at g0 g1 g2 g3
  obtain ⟨u0, rows, e0, hM, hcap⟩ := mat_of (cs := [c0]) g0
  obtain ⟨x1, e1, _, w1⟩ := DataW.trod_int (cs := [c1]) Try.underlying5 g1
  obtain ⟨x2, e2, _, w2⟩ := DataW.trod_int (cs := [c2]) Try.underlying70 g2
  obtain ⟨x3, e3, _, w3⟩ := DataW.trod_int (cs := [c3]) Try.underlying5 g3
  simp only [List.cons.injEq, and_true] at e0 e1 e2 e3
  subst e0 e1 e2 e3
  clear hA0 hval0
  obtain ⟨k, hk⟩ := byte_of w1
  obtain ⟨at', ha, hat⟩ := word_of w2
  obtain ⟨by', hb⟩ := byte_of w3
  have main := Rl.turned_c k by' at' hat W hM hcap
  rw [← hk, ← ha, ← hb] at main
  refine main.mono fun e W' ⟨he, bel⟩ => ?_
  subst he
  exact ⟨_, rfl, _, _, _, [], _, [], hW', trodAll_mk1 (shut_bool Try.underlying4 _), (trodAll_cons_mk (Below.trod laidOut (by kernel_rfl) (of_decide_eq_true (by kernel_rfl)) k0 bel lt0) trodAll_mk0), rfl, bel.frame _, fun h => by cases h⟩

theorem over : Rows.reclogTurnedRow.holds Try.pinned (OpenSpec.ofChange Rows.reclogTurnedSpec) :=
  OpenClaim.holds_of_wide 8 Try.f8 rfl rfl rfl rfl rfl rfl rfl ⟨rfl, rfl, rfl, rfl, rfl⟩ rfl rfl rfl rfl rfl (by kernel_rfl) Try.func8 (by kernel_rfl)
    (of_decide_eq_true (by kernel_rfl)) (by unfold Func.isWrapper; first | (rw [if_pos (by decide +kernel)]; kernel_rfl) | (rw [if_neg (by decide +kernel)]; exact ⟨rfl, rfl⟩))
    (fun os started H enc _ => lifted os started H enc)

theorem proved : Rows.ReclogTurnedSaid := over
end Go.Proofs.Ytdgfnhgkncfmpaa.reclogTurned
