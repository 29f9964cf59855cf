/-
  The law 'DiskSure' of the package bellowslaw04 returns true for every input, and leaves its arguments as they were. No condition.
-/
import Derived.Test.YtdgfnhgkncfmpaaRows
import Derived.Test.YtdgfnhgkncfmpaaArgs
import Derived.Test.YtdgfnhgkncfmpaaActsOf
import Derived.Test.YtdgfnhgkncfmpaaSureW
import Derived.WalkKit
import Derived.ProofKit
import Derived.OpenShut
import Derived.ShutString
import Derived.ChangeOld
import Derived.Below
import Derived.Lib.SmallJoins
namespace Go.Proofs.Ytdgfnhgkncfmpaa.diskSure
open Go.ChangeShapes Go.WideShapes Go.ChangeAt Go.RowKit
open Go.ChangeMaps (open_string shut_string)
set_option linter.unusedVariables false

theorem own : ownKnob Try.prog.godebug = none := by kernel_rfl
theorem laidOut : laidOutB Try.prog = true := by kernel_rfl

set_option maxRecDepth 100000 in
theorem top_slice {W : World} {base : Nat} {v : Value} (hv : Value.okWide Try.prog W .any base 22 v) : v.cells.toList = [v] := by
  cases v <;> first | rfl | (simp [Value.okWide, Cell.okWide, Cell.ok, Try.underlying22] at hv)
set_option maxRecDepth 100000 in
theorem top_bytes {W : World} {base : Nat} {v : Value} (hv : Value.okWide Try.prog W .any base 23 v) : v.cells.toList = [v] := by
  cases v <;> first | rfl | (simp [Value.okWide, Cell.okWide, Cell.ok, Try.underlying23] at hv)
theorem len2 {cs : Array Value} (h : cs.size = 2) : ∃ a b, cs = #[a, b] := by
  obtain ⟨l⟩ := cs
  match l, h with
  | [a, b], _ => exact ⟨a, b, rfl⟩

/-! ### THE ROW's STEP: WRITTEN OUT: LEAVE IT -/
set_option maxRecDepth 100000 in
theorem lifted (os : Os) (started : os.Started) (H : Type) (enc : TypeId × Value → H) :
    ReturnsInHanded {} Try.checked os 3 .any (Rows.diskSureSpec.pre6 enc Try.prog Try.f3 Rows.diskSureRow.domain false) (Rows.diskSureSpec.post enc Try.prog Try.f3 false true false false) := by
  refine returnsInHanded_of_change (C := Try.checked) own started (by kernel_rfl) Try.func3
    (ChangeSpec.witness6 (enc := enc) (C := Try.checked) false ⟨#[], #[.slice none 0 0, .slice none 0 0, .agg #[.int .i64 0, .slice none 0 0]], []⟩ 8 (by kernel_rfl) (by kernel_rfl) (by kernel_rfl) (by kernel_rfl)) ?_
  intro W base args ds gs before hval0 hW hcnd _
  have hval : ∀ (j : Nat) t v, Try.f3.params[j]? = some t → args[j]? = some v → Value.okWide Try.prog W .any base t v := hval0
  have hW' := hW
  obtain ⟨p, q, hA0, hV, rfl, hfz, hnd⟩ := hW
  have hA : DataW.TrodAll enc Try.prog W 0 (fun _ => true) true Try.f3.params.toList args.toList ds p := hA0
  rw [Try.params3] at hA hval
  obtain ⟨v0, vs0, d0, ds0, p0, q0, hargs, rfl, rfl, h0, r0⟩ := trodAll_cons hA
  obtain ⟨v1, vs1, d1, ds1, p1, q1, rfl, rfl, rfl, h1, r1⟩ := trodAll_cons r0
  obtain ⟨v2, vs2, d2, ds2, p2, q2, rfl, rfl, rfl, h2, r2⟩ := trodAll_cons r1
  obtain ⟨rfl, rfl, rfl⟩ := trodAll_nil r2
  obtain rfl : args = #[v0, v1, v2] := by cases args; simp_all
  obtain ⟨rfl, rfl⟩ := trodVars_none hV
  have k0 := h0
  have k1 := h1
  have k2 := h2
  have lt0 : ∀ x ∈ p0, x.block < W.heap.size := by obtain ⟨m, hm⟩ := k0; exact DataW.trod_lt m _ _ _ hm
  have lt1 : ∀ x ∈ p1, x.block < W.heap.size := by obtain ⟨m, hm⟩ := k1; exact DataW.trod_lt m _ _ _ hm
  have lt2 : ∀ x ∈ p2, x.block < W.heap.size := by obtain ⟨m, hm⟩ := k2; exact DataW.trod_lt m _ _ _ hm
  obtain ⟨m, hm⟩ := h0
  obtain ⟨va, xs, e0, hAc⟩ := acts_of hm
  rw [top_slice (hval 0 22 v0 rfl rfl)] at e0
  simp only [List.cons.injEq, and_true] at e0
  subst e0
  obtain ⟨m1, hm1⟩ := h1
  obtain ⟨vb, bs, e1, hBr⟩ := brow_of hm1
  rw [top_bytes (hval 1 23 v1 rfl rfl)] at e1
  simp only [List.cons.injEq, and_true] at e1
  subst e1
  have hv2 := hval 2 26 v2 rfl rfl
  simp only [Value.okWide, Try.underlying26] at hv2
  obtain ⟨cs, rfl, hsz, _⟩ := hv2
  have hc2 : Try.prog.cellsOf 26 = 2 := by kernel_rfl
  obtain ⟨c0, c1, rfl⟩ := len2 (hsz.trans hc2)
  obtain ⟨fuel, hf⟩ := h2
  obtain ⟨y0, y1, n, _, _, g0, g1⟩ := trod_struct2 Try.underlying26 hf
  have kn3 : Try.prog.cellsOf 3 = 1 := by kernel_rfl
  have kn24 : Try.prog.cellsOf 24 = 1 := by kernel_rfl
  simp only [kn3, kn24] at g0 g1
  obtain ⟨x3, e3, _, w3⟩ := DataW.trod_int (cs := [c0]) Try.underlying3 g0
  obtain ⟨u4, ts, e4, b4⟩ := trow_of (cs := [c1]) g1
  simp only [List.cons.injEq, and_true] at e3 e4
  subst e3 e4
  clear hA0 hval0
  refine (sure_c x3 W hAc hBr b4 fun k hk => b4.lt hk).mono fun e W' ⟨he, bel⟩ => ?_
  subst he
  exact ⟨_, rfl, _, _, _, [], _, [], hW', trodAll_mk1 (shut_bool Try.underlying4 _), (trodAll_cons_mk (Below.trod laidOut (by kernel_rfl) (of_decide_eq_true (by kernel_rfl)) k0 bel lt0) (trodAll_cons_mk (Below.trod laidOut (by kernel_rfl) (of_decide_eq_true (by kernel_rfl)) k1 bel lt1) (trodAll_cons_mk (Below.trod laidOut (by kernel_rfl) (of_decide_eq_true (by kernel_rfl)) k2 bel lt2) trodAll_mk0))), rfl, bel.frame _, fun h => by cases h⟩

theorem over : Rows.diskSureRow.holds Try.pinned (OpenSpec.ofChange Rows.diskSureSpec) :=
  OpenClaim.holds_of_wide 3 Try.f3 rfl rfl rfl rfl rfl rfl rfl ⟨rfl, rfl, rfl, rfl, rfl⟩ rfl rfl rfl rfl rfl (by kernel_rfl) Try.func3 (by kernel_rfl)
    (of_decide_eq_true (by kernel_rfl)) (by unfold Func.isWrapper; first | (rw [if_pos (by decide +kernel)]; kernel_rfl) | (rw [if_neg (by decide +kernel)]; exact ⟨rfl, rfl⟩))
    (fun os started H enc _ => lifted os started H enc)

theorem proved : Rows.DiskSureSaid := over
end Go.Proofs.Ytdgfnhgkncfmpaa.diskSure
