/-
  The law 'ReclogSpare' of the package bellowslaw05 returns true for every input, and leaves its arguments as they were. No condition.
-/
import Derived.Test.YtfmelhcpccghdaaGreatRows
import Derived.Test.YtfmelhcpccghdaaGreatArgs
import Derived.Test.YtfmelhcpccghdaaGreatSpareW
import Derived.WalkKit
import Derived.ProofKit
import Derived.OpenShut
import Derived.ShutString
import Derived.ChangeOld
import Derived.Below
import Derived.Deep.Slices
import Derived.ChangeSlices
import Derived.Lib.SmallJoins
namespace Go.Proofs.YtfmelhcpccghdaaGreat.reclogSpare
open Go.ChangeShapes Go.WideShapes Go.ChangeAt Go.RowKit
open Go.ChangeMaps (open_string shut_string)
set_option linter.unusedVariables false

theorem own : ownKnob Tryz.prog.godebug = none := by kernel_rfl
theorem laidOut : laidOutB Tryz.prog = true := by kernel_rfl

set_option maxRecDepth 100000 in
theorem top_slice {W : World} {base : Nat} {v : Value} (hv : Value.okWide Tryz.prog W .any base 31 v) : v.cells.toList = [v] := by
  cases v <;> first | rfl | (simp [Value.okWide, Cell.okWide, Cell.ok, Tryz.underlying31] at hv)
set_option maxRecDepth 100000 in
theorem top_rows {W : World} {base : Nat} {v : Value} (hv : Value.okWide Tryz.prog W .any base 28 v) : v.cells.toList = [v] := by
  cases v <;> first | rfl | (simp [Value.okWide, Cell.okWide, Cell.ok, Tryz.underlying28] at hv)

theorem mat_of {H : Type} {enc : TypeId × Value → H} {W : World} {base fuel : Nat} {held : Bool} {cs : List Value} {x : DataW H × List MemPlace} (h : DataW.trod enc Tryz.prog W base (fun _ => true) held fuel 28 cs = some x) :
    ∃ v rows, cs = [v] ∧ Mat W v rows ∧ ∀ a n c, v = .slice a n c → n ≤ c := by
  rcases Go.Deep.open_slice1 Tryz.underlying28 (by kernel_rfl) h with ⟨rfl, _⟩ | ⟨a, len, cap, m, n, V, D, Pl, rfl, hb, hl, hm, hmm, rfl, hx⟩
  · exact ⟨_, [], rfl, ⟨none, 0, rfl, fun j r hj => (by cases hj)⟩, fun a n c e => by cases e; exact Nat.le_refl _⟩
  · have hmm2 : m = cap := by simpa using hmm
    have hrow : ∀ j, j < len → ∃ bs, BRow W (V j) bs := fun j hj => by
      obtain ⟨_, h2⟩ := hx j (by omega)
      obtain ⟨v, bs, e, hbr⟩ := brow_of h2
      simp only [List.cons.injEq, and_true] at e
      subst e
      exact ⟨bs, hbr⟩
    obtain ⟨F, hF⟩ := Go.Deep.choose_lt (α := List UInt8) (p := fun j bs => BRow W (V j) bs) (n := len) hrow
    refine ⟨_, (List.range len).map F, rfl, ⟨some a, cap, by simp, fun j r hj => ?_⟩, fun a n c e => by cases e; omega⟩
    have hj2 : j < len := by
      have := (List.getElem?_eq_some_iff.1 hj).1
      simpa using this
    have hr : r = F j := by
      rw [List.getElem?_map, List.getElem?_range hj2] at hj
      simpa using hj.symm
    obtain ⟨h1, _⟩ := hx j (by omega)
    obtain ⟨b, o, spot⟩ := a
    have hspot : spot = none := by
      have := World.cell?_spot (hx 0 (by omega)).1
      simpa [Addr.add] using this
    subst hspot
    have h3 : W.cell? ⟨b, o + j, none⟩ = some (V j) := by rw [← Go.WideShapes.add_plain]; exact h1
    exact ⟨b, o, V j, rfl, lt_of_cell h3, h3, by rw [hr]; exact hF j hj2⟩

theorem byte_of {z : Int} (h : (Lit.int .u8 z).wf = true) : ∃ n : Nat, z = (n : Int) ∧ n < 256 := by
  have hb : 0 ≤ z ∧ z ≤ 255 := by simpa [Lit.wf, IntKind.min, IntKind.max, IntKind.signed, IntKind.bits] using h
  exact ⟨z.toNat, by omega, by omega⟩
/-! ### THE ROW's STEP: WRITTEN OUT: LEAVE IT -/
set_option maxRecDepth 100000 in
theorem lifted (os : Os) (started : os.Started) (H : Type) (enc : TypeId × Value → H) :
    ReturnsInHanded {} Tryz.checked os 5 .any (Rows.reclogSpareSpec.pre6 enc Tryz.prog Tryz.f5 Rows.reclogSpareRow.domain false) (Rows.reclogSpareSpec.post enc Tryz.prog Tryz.f5 false true false false) := by
  refine returnsInHanded_of_change (C := Tryz.checked) own started (by kernel_rfl) Tryz.func5
    (ChangeSpec.witness6 (enc := enc) (C := Tryz.checked) false ⟨#[], #[.slice none 0 0, .slice none 0 0, .int .u8 0], []⟩ 8 (by kernel_rfl) (by kernel_rfl) (by kernel_rfl) (by kernel_rfl)) ?_
  intro W base args ds gs before hval0 hW hcnd _
  have hval : ∀ (j : Nat) t v, Tryz.f5.params[j]? = some t → args[j]? = some v → Value.okWide Tryz.prog W .any base t v := hval0
  have hW' := hW
  obtain ⟨p, q, hA0, hV, rfl, hfz, hnd⟩ := hW
  have hA : DataW.TrodAll enc Tryz.prog W 0 (fun _ => true) true Tryz.f5.params.toList args.toList ds p := hA0
  rw [Tryz.params5] at hA hval
  obtain ⟨v0, vs0, d0, ds0, p0, q0, hargs, rfl, rfl, h0, r0⟩ := trodAll_cons hA
  obtain ⟨v1, vs1, d1, ds1, p1, q1, rfl, rfl, rfl, h1, r1⟩ := trodAll_cons r0
  obtain ⟨v2, vs2, d2, ds2, p2, q2, rfl, rfl, rfl, h2, r2⟩ := trodAll_cons r1
  obtain ⟨rfl, rfl, rfl⟩ := trodAll_nil r2
  obtain rfl : args = #[v0, v1, v2] := by cases args; simp_all
  obtain ⟨rfl, rfl⟩ := trodVars_none hV
  have k0 := h0
  have k1 := h1
  have lt0 : ∀ x ∈ p0, x.block < W.heap.size := by obtain ⟨m, hm⟩ := k0; exact DataW.trod_lt m _ _ _ hm
  have lt1 : ∀ x ∈ p1, x.block < W.heap.size := by obtain ⟨m, hm⟩ := k1; exact DataW.trod_lt m _ _ _ hm
  obtain ⟨a2, rfl, rfl, rfl, w2⟩ := open_int Tryz.underlying5 (hval 2 5 v2 rfl rfl) h2
  obtain ⟨m0, hm0⟩ := h0
  obtain ⟨m1, hm1⟩ := h1
  obtain ⟨u0, rows, e0, hM, _⟩ := mat_of hm0
  obtain ⟨u1, b, e1, hB⟩ := brow_of hm1
  rw [top_rows (hval 0 28 v0 rfl rfl)] at e0
  rw [top_slice (hval 1 31 v1 rfl rfl)] at e1
  simp only [List.cons.injEq, and_true] at e0 e1
  subst e0
  subst e1
  obtain ⟨va, vc, rfl, _⟩ := id hM
  obtain ⟨ba, bc, rfl⟩ := slice_of hB
  clear hA0 hval0
  obtain ⟨k, hk, hk2⟩ := byte_of w2
  have main := Rl.spare_law k hk2 W hM hB
  rw [← hk] at main
  refine main.mono fun e W' ⟨he, bel⟩ => ?_
  subst he
  exact ⟨_, rfl, _, _, _, [], _, [], hW', trodAll_mk1 (shut_bool Tryz.underlying4 _), (trodAll_cons_mk (Below.trod laidOut (by kernel_rfl) (of_decide_eq_true (by kernel_rfl)) k0 bel lt0) (trodAll_cons_mk (Below.trod laidOut (by kernel_rfl) (of_decide_eq_true (by kernel_rfl)) k1 bel lt1) (trodAll_cons_mk (shut_int Tryz.underlying5 w2) trodAll_mk0))), rfl, bel.frame _, fun h => by cases h⟩

theorem over : Rows.reclogSpareRow.holds Tryz.pinned (OpenSpec.ofChange Rows.reclogSpareSpec) :=
  OpenClaim.holds_of_wide 5 Tryz.f5 rfl rfl rfl rfl rfl rfl rfl ⟨rfl, rfl, rfl, rfl, rfl⟩ rfl rfl rfl rfl rfl (by kernel_rfl) Tryz.func5 (by kernel_rfl)
    (of_decide_eq_true (by kernel_rfl)) (by unfold Func.isWrapper; first | (rw [if_pos (by decide +kernel)]; kernel_rfl) | (rw [if_neg (by decide +kernel)]; exact ⟨rfl, rfl⟩))
    (fun os started H enc _ => lifted os started H enc)

theorem proved : Rows.ReclogSpareSaid := over
end Go.Proofs.YtfmelhcpccghdaaGreat.reclogSpare
