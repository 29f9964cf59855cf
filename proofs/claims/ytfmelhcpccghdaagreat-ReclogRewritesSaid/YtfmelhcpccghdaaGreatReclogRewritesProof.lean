/-
  The law 'ReclogRewrites' of the package bellowslaw05 returns true for every input, and leaves its arguments as they were. No condition.
-/
import Derived.Test.YtfmelhcpccghdaaGreatRows
import Derived.Test.YtfmelhcpccghdaaGreatArgs
import Derived.Test.YtfmelhcpccghdaaGreatRewritesW
import Derived.WalkKit
import Derived.ProofKit
import Derived.OpenShut
import Derived.ShutString
import Derived.ChangeOld
import Derived.Below
import Derived.Deep.Slices
import Derived.ChangeSlices
import Derived.Lib.SmallJoins
namespace Go.Proofs.YtfmelhcpccghdaaGreat.reclogRewrites
open Go.ChangeShapes Go.WideShapes Go.ChangeAt Go.RowKit
open Go.ChangeMaps (open_string shut_string)
set_option linter.unusedVariables false

theorem own : ownKnob Tryz.prog.godebug = none := by kernel_rfl
theorem laidOut : laidOutB Tryz.prog = true := by kernel_rfl

set_option maxRecDepth 100000 in
theorem top_rows {W : World} {base : Nat} {v : Value} (hv : Value.okWide Tryz.prog W .any base 28 v) : v.cells.toList = [v] := by
  cases v <;> first | rfl | (simp [Value.okWide, Cell.okWide, Cell.ok, Tryz.underlying28] at hv)

theorem mat_of {H : Type} {enc : TypeId × Value → H} {W : World} {base fuel : Nat} {held : Bool} {cs : List Value} {x : DataW H × List MemPlace} (h : DataW.trod enc Tryz.prog W base (fun _ => true) held fuel 28 cs = some x) :
    ∃ v rows, cs = [v] ∧ Mat W v rows ∧ ∀ a n c, v = .slice a n c → n ≤ c ∧ (a = none → c = 0) := by
  rcases Go.Deep.open_slice1 Tryz.underlying28 (by kernel_rfl) h with ⟨rfl, _⟩ | ⟨a, len, cap, m, n, V, D, Pl, rfl, hb, hl, hm, hmm, rfl, hx⟩
  · exact ⟨_, [], rfl, ⟨none, 0, rfl, fun j r hj => (by cases hj)⟩, fun a n c e => by cases e; exact ⟨Nat.le_refl _, fun _ => rfl⟩⟩
  · have hmm2 : m = cap := by simpa using hmm
    have hrow : ∀ j, j < len → ∃ bs, BRow W (V j) bs := fun j hj => by
      obtain ⟨_, h2⟩ := hx j (by omega)
      obtain ⟨v, bs, e, hbr⟩ := brow_of h2
      simp only [List.cons.injEq, and_true] at e
      subst e
      exact ⟨bs, hbr⟩
    obtain ⟨F, hF⟩ := Go.Deep.choose_lt (α := List UInt8) (p := fun j bs => BRow W (V j) bs) (n := len) hrow
    refine ⟨_, (List.range len).map F, rfl, ⟨some a, cap, by simp, fun j r hj => ?_⟩, fun a n c e => by cases e; exact ⟨by omega, fun e => by cases e⟩⟩
    have hj2 : j < len := by
      have := (List.getElem?_eq_some_iff.1 hj).1
      simpa using this
    have hr : r = F j := by
      rw [List.getElem?_map, List.getElem?_range hj2] at hj
      simpa using hj.symm
    obtain ⟨h1, _⟩ := hx j (by omega)
    obtain ⟨b, o, spot⟩ := a
    have hspot : spot = none := by
      have := World.cell?_spot (hx 0 (by omega)).1
      simpa [Addr.add] using this
    subst hspot
    have h3 : W.cell? ⟨b, o + j, none⟩ = some (V j) := by rw [← Go.WideShapes.add_plain]; exact h1
    exact ⟨b, o, V j, rfl, lt_of_cell h3, h3, by rw [hr]; exact hF j hj2⟩

theorem len2 {cs : Array Value} (h : cs.size = 2) : ∃ a b, cs = #[a, b] := by
  obtain ⟨l⟩ := cs
  match l, h with
  | [a, b], _ => exact ⟨a, b, rfl⟩

/-! ### THE ROW's STEP: WRITTEN OUT: LEAVE IT -/
set_option maxRecDepth 100000 in
theorem lifted (os : Os) (started : os.Started) (H : Type) (enc : TypeId × Value → H) :
    ReturnsInHanded {} Tryz.checked os 4 .any (Rows.reclogRewritesSpec.pre6 enc Tryz.prog Tryz.f4 Rows.reclogRewritesRow.domain false) (Rows.reclogRewritesSpec.post enc Tryz.prog Tryz.f4 false true false false) := by
  refine returnsInHanded_of_change (C := Tryz.checked) own started (by kernel_rfl) Tryz.func4
    (ChangeSpec.witness6 (enc := enc) (C := Tryz.checked) false ⟨#[], #[.slice none 0 0, .slice none 0 0, .agg #[.int .i64 0, .slice none 0 0]], []⟩ 8 (by kernel_rfl) (by kernel_rfl) (by kernel_rfl) (by kernel_rfl)) ?_
  intro W base args ds gs before hval0 hW hcnd _
  have hval : ∀ (j : Nat) t v, Tryz.f4.params[j]? = some t → args[j]? = some v → Value.okWide Tryz.prog W .any base t v := hval0
  have hW' := hW
  obtain ⟨p, q, hA0, hV, rfl, hfz, hnd⟩ := hW
  have hA : DataW.TrodAll enc Tryz.prog W 0 (fun _ => true) true Tryz.f4.params.toList args.toList ds p := hA0
  rw [Tryz.params4] at hA hval
  obtain ⟨v0, vs0, d0, ds0, p0, q0, hargs, rfl, rfl, h0, r0⟩ := trodAll_cons hA
  obtain ⟨v1, vs1, d1, ds1, p1, q1, rfl, rfl, rfl, h1, r1⟩ := trodAll_cons r0
  obtain ⟨v2, vs2, d2, ds2, p2, q2, rfl, rfl, rfl, h2, r2⟩ := trodAll_cons r1
  obtain ⟨rfl, rfl, rfl⟩ := trodAll_nil r2
  obtain rfl : args = #[v0, v1, v2] := by cases args; simp_all
  obtain ⟨rfl, rfl⟩ := trodVars_none hV
  have k0 := h0
  have k1 := h1
  have k2 := h2
  have lt0 : ∀ x ∈ p0, x.block < W.heap.size := by obtain ⟨m, hm⟩ := k0; exact DataW.trod_lt m _ _ _ hm
  have lt1 : ∀ x ∈ p1, x.block < W.heap.size := by obtain ⟨m, hm⟩ := k1; exact DataW.trod_lt m _ _ _ hm
  have lt2 : ∀ x ∈ p2, x.block < W.heap.size := by obtain ⟨m, hm⟩ := k2; exact DataW.trod_lt m _ _ _ hm
  obtain ⟨m, hm⟩ := h0
  obtain ⟨u0, rows, e0, hM, _⟩ := mat_of hm
  rw [top_rows (hval 0 28 v0 rfl rfl)] at e0
  simp only [List.cons.injEq, and_true] at e0
  subst e0
  obtain ⟨m1, hm1⟩ := h1
  obtain ⟨u1, rows2, e1, hM2, hcap⟩ := mat_of hm1
  rw [top_rows (hval 1 28 v1 rfl rfl)] at e1
  simp only [List.cons.injEq, and_true] at e1
  subst e1
  obtain ⟨va, vc, rfl, _⟩ := id hM
  obtain ⟨vb, vd, rfl, _⟩ := id hM2
  have hv2 := hval 2 41 v2 rfl rfl
  simp only [Value.okWide, Tryz.underlying41] at hv2
  obtain ⟨cs, rfl, hsz, _⟩ := hv2
  have hc2 : Tryz.prog.cellsOf 41 = 2 := by kernel_rfl
  obtain ⟨c0, c1, rfl⟩ := len2 (hsz.trans hc2)
  obtain ⟨fuel, hf⟩ := h2
  obtain ⟨y0, y1, n, _, _, g0, g1⟩ := trod_struct2 Tryz.underlying41 hf
  have kn3 : Tryz.prog.cellsOf 3 = 1 := by kernel_rfl
  have kn24 : Tryz.prog.cellsOf 32 = 1 := by kernel_rfl
  simp only [kn3, kn24] at g0 g1
  obtain ⟨x3, e3, _, w3⟩ := DataW.trod_int (cs := [c0]) Tryz.underlying3 g0
  obtain ⟨u4, ts, e4, b4⟩ := trow_of (cs := [c1]) g1
  simp only [List.cons.injEq, and_true] at e3 e4
  subst e3 e4
  clear hA0 hval0
  refine (Rl.rewrites_law x3 W hM hM2 b4 (hcap _ _ _ rfl).1 (hcap _ _ _ rfl).2).mono fun e W' ⟨he, bel⟩ => ?_
  subst he
  exact ⟨_, rfl, _, _, _, [], _, [], hW', trodAll_mk1 (shut_bool Tryz.underlying4 _), (trodAll_cons_mk (Below.trod laidOut (by kernel_rfl) (of_decide_eq_true (by kernel_rfl)) k0 bel lt0) (trodAll_cons_mk (Below.trod laidOut (by kernel_rfl) (of_decide_eq_true (by kernel_rfl)) k1 bel lt1) (trodAll_cons_mk (Below.trod laidOut (by kernel_rfl) (of_decide_eq_true (by kernel_rfl)) k2 bel lt2) trodAll_mk0))), rfl, bel.frame _, fun h => by cases h⟩

theorem over : Rows.reclogRewritesRow.holds Tryz.pinned (OpenSpec.ofChange Rows.reclogRewritesSpec) :=
  OpenClaim.holds_of_wide 4 Tryz.f4 rfl rfl rfl rfl rfl rfl rfl ⟨rfl, rfl, rfl, rfl, rfl⟩ rfl rfl rfl rfl rfl (by kernel_rfl) Tryz.func4 (by kernel_rfl)
    (of_decide_eq_true (by kernel_rfl)) (by unfold Func.isWrapper; first | (rw [if_pos (by decide +kernel)]; kernel_rfl) | (rw [if_neg (by decide +kernel)]; exact ⟨rfl, rfl⟩))
    (fun os started H enc _ => lifted os started H enc)

theorem proved : Rows.ReclogRewritesSaid := over
end Go.Proofs.YtfmelhcpccghdaaGreat.reclogRewrites
