/-
  The law 'DiskRenames' of the package bellowslaw04 returns true for every input, and leaves its arguments as they were. No condition.
-/
import Derived.Test.YtkgipabcgbneoaaRows
import Derived.Test.YtkgipabcgbneoaaArgs
import Derived.Test.YtkgipabcgbneoaaRenW
import Derived.WalkKit
import Derived.ProofKit
import Derived.OpenShut
import Derived.ShutString
import Derived.ChangeOld
import Derived.Below
import Derived.Lib.SmallJoins
namespace Go.Proofs.Ytkgipabcgbneoaa.diskRenames
open Go.ChangeShapes Go.WideShapes Go.ChangeAt Go.RowKit
open Go.ChangeMaps (open_string shut_string)
open Go.Joins (trod_struct4)
set_option linter.unusedVariables false

theorem own : ownKnob Try.prog.godebug = none := by kernel_rfl
theorem laidOut : laidOutB Try.prog = true := by kernel_rfl

theorem len5 {cs : Array Value} (h : cs.size = 5) : ∃ a b c d e, cs = #[a, b, c, d, e] := by
  obtain ⟨l⟩ := cs
  match l, h with
  | [a, b, c, d, e], _ => exact ⟨a, b, c, d, e, rfl⟩

/-! ### THE ROW's STEP: WRITTEN OUT: LEAVE IT -/
set_option maxRecDepth 100000 in
theorem lifted (os : Os) (started : os.Started) (H : Type) (enc : TypeId × Value → H) :
    ReturnsInHanded {} Try.checked os 8 .any (Rows.diskRenamesSpec.pre6 enc Try.prog Try.f8 Rows.diskRenamesRow.domain false) (Rows.diskRenamesSpec.post enc Try.prog Try.f8 false true false false) := by
  refine returnsInHanded_of_change (C := Try.checked) own started (by kernel_rfl) Try.func8
    (ChangeSpec.witness6 (enc := enc) (C := Try.checked) false ⟨#[], #[.agg #[.slice none 0 0, .slice none 0 0, .int .u8 0, .int .i64 0, .slice none 0 0]], []⟩ 8 (by kernel_rfl) (by kernel_rfl) (by kernel_rfl) (by kernel_rfl)) ?_
  intro W base args ds gs before hval0 hW hcnd _
  have hval : ∀ (j : Nat) t v, Try.f8.params[j]? = some t → args[j]? = some v → Value.okWide Try.prog W .any base t v := hval0
  have hW' := hW
  obtain ⟨p, q, hA0, hV, rfl, hfz, hnd⟩ := hW
  have hA : DataW.TrodAll enc Try.prog W 0 (fun _ => true) true Try.f8.params.toList args.toList ds p := hA0
  rw [Try.params8] at hA hval
  obtain ⟨v0, vs0, d0, ds0, p0, q0, hargs, rfl, rfl, h0, r0⟩ := trodAll_cons hA
  obtain ⟨rfl, rfl, rfl⟩ := trodAll_nil r0
  obtain rfl : args = #[v0] := by cases args; simp_all
  obtain ⟨rfl, rfl⟩ := trodVars_none hV
  have k0 := h0
  have lt0 : ∀ x ∈ p0, x.block < W.heap.size := by obtain ⟨m, hm⟩ := k0; exact DataW.trod_lt m _ _ _ hm
  have hv0 := hval 0 57 v0 rfl rfl
  simp only [Value.okWide, Try.underlying57] at hv0
  obtain ⟨cs, rfl, hsz, ts, hts, _, hcells⟩ := hv0
  have hc5 : Try.prog.cellsOf 57 = 5 := by kernel_rfl
  obtain ⟨c0, c1, c2, c3, c4, rfl⟩ := len5 (hsz.trans hc5)
  have hct : Try.prog.cellTypes Try.prog.depth 57 = some [22, 22, 5, 3, 23] := by kernel_rfl
  rw [hct] at hts
  cases hts
  obtain ⟨fuel, hf⟩ := h0
  obtain ⟨y0, y1, y2, y3, n, _, _, g0, g1, g2, g3⟩ := trod_struct4 Try.underlying57 hf
  obtain ⟨z0, z1, n', _, _, g4, g5⟩ := trod_struct2 Try.underlying30 g3
  have k22 : Try.prog.cellsOf 22 = 1 := by kernel_rfl
  have k5 : Try.prog.cellsOf 5 = 1 := by kernel_rfl
  have k3 : Try.prog.cellsOf 3 = 1 := by kernel_rfl
  have k23 : Try.prog.cellsOf 23 = 1 := by kernel_rfl
  have k30 : Try.prog.cellsOf 30 = 2 := by kernel_rfl
  simp only [k22, k5, k3, k23, k30] at g0 g1 g2 g4 g5
  have o0 : Cell.okWide Try.prog W .any base 22 c0 := by
    obtain ⟨u, hu, ho⟩ := hcells 0 c0 rfl
    cases hu; exact ho
  have o1 : Cell.okWide Try.prog W .any base 22 c1 := by
    obtain ⟨u, hu, ho⟩ := hcells 1 c1 rfl
    cases hu; exact ho
  have o4 : Cell.okWide Try.prog W .any base 23 c4 := by
    obtain ⟨u, hu, ho⟩ := hcells 4 c4 rfl
    cases hu; exact ho
  obtain ⟨u0, was, e0, b0⟩ := brow_of (cs := [c0]) g0 (fun v hv => by cases hv; exact o0)
  obtain ⟨u1, thn, e1, b1⟩ := brow_of (cs := [c1]) g1 (fun v hv => by cases hv; exact o1)
  obtain ⟨x2, e2, _, w2⟩ := DataW.trod_int (cs := [c2]) Try.underlying5 g2
  obtain ⟨x3, e3, _, w3⟩ := DataW.trod_int (cs := [c3]) Try.underlying3 g4
  obtain ⟨u4, ts, e4, b4, l4⟩ := trow_of (cs := [c4]) g5 (fun v hv => by cases hv; exact o4)
  simp only [List.cons.injEq, and_true] at e0 e1 e2 e3 e4
  subst e0 e1 e2 e3 e4
  clear hA0 hval0
  refine (renames_c x2 x3 (by simpa [Lit.wf, IntKind.min, IntKind.max, IntKind.signed, IntKind.bits] using w2) W b0 b1 b4 l4).mono fun e W' ⟨he, bel⟩ => ?_
  subst he
  exact ⟨_, rfl, _, _, _, [], _, [], hW', trodAll_mk1 (shut_bool Try.underlying4 _), (trodAll_cons_mk (Below.trod laidOut (by kernel_rfl) (of_decide_eq_true (by kernel_rfl)) k0 bel lt0) trodAll_mk0), rfl, bel.frame _, fun h => by cases h⟩

theorem over : Rows.diskRenamesRow.holds Try.pinned (OpenSpec.ofChange Rows.diskRenamesSpec) :=
  OpenClaim.holds_of_wide 8 Try.f8 rfl rfl rfl rfl rfl rfl rfl ⟨rfl, rfl, rfl, rfl, rfl⟩ rfl rfl rfl rfl rfl (by kernel_rfl) Try.func8 (by kernel_rfl)
    (of_decide_eq_true (by kernel_rfl)) (by unfold Func.isWrapper; first | (rw [if_pos (by decide +kernel)]; kernel_rfl) | (rw [if_neg (by decide +kernel)]; exact ⟨rfl, rfl⟩))
    (fun os started H enc _ => lifted os started H enc)

theorem proved : Rows.DiskRenamesSaid := over
end Go.Proofs.Ytkgipabcgbneoaa.diskRenames
