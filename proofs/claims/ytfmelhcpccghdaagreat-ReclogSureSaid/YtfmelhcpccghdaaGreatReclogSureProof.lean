/-
  The law 'ReclogSure' of the package bellowslaw05 returns true for every input, and leaves its arguments as they were. No condition.
-/
import Derived.Test.YtfmelhcpccghdaaGreatRows
import Derived.Test.YtfmelhcpccghdaaGreatArgs
import Derived.Test.YtfmelhcpccghdaaGreatSureA
import Derived.WalkKit
import Derived.ProofKit
import Derived.OpenShut
import Derived.ShutString
import Derived.ChangeOld
import Derived.Below
import Derived.Deep.Slices
import Derived.ChangeSlices
namespace Go.Proofs.YtfmelhcpccghdaaGreat.reclogSure
open Go.ChangeShapes Go.WideShapes Go.ChangeAt Go.RowKit
open Go.ChangeMaps (open_string shut_string)
set_option linter.unusedVariables false

theorem own : ownKnob Tryz.prog.godebug = none := by kernel_rfl
theorem laidOut : laidOutB Tryz.prog = true := by kernel_rfl

set_option maxRecDepth 100000
theorem top_acts {W : World} {base : Nat} {v : Value} (hv : Value.okWide Tryz.prog W .any base 22 v) : v.cells.toList = [v] := by
  cases v <;> first | rfl | (simp [Value.okWide, Cell.okWide, Cell.ok, Tryz.underlying22] at hv)
theorem i64_wf {n : Int} (h : (Lit.int .i64 n).wf = true) : -9223372036854775808 ≤ n ∧ n ≤ 9223372036854775807 := by
  simpa [Lit.wf, IntKind.min, IntKind.max, IntKind.signed, IntKind.bits] using h
instance : Inhabited Rl.Act2 := ⟨⟨0, 0, [], []⟩⟩
theorem bytes_cap {H : Type} {enc : TypeId × Value → H} {W : World} {base fuel : Nat} {held : Bool} {cs : List Value} {x : DataW H × List MemPlace} (h : DataW.trod enc Tryz.prog W base (fun _ => true) held fuel 31 cs = some x) :
    ∃ a c l, cs = [.slice a l.length c] ∧ BRow W (.slice a l.length c) l ∧ (a = none → c = 0) := by
  obtain ⟨v, l, e, hb⟩ := brow_of h
  rcases open_ints Tryz.underlying31 Tryz.underlying5 (by kernel_rfl) h with ⟨e2, _⟩ | ⟨a, len, cap, zs, e2, _, hl, _⟩
  · rw [e] at e2
    simp only [List.cons.injEq, and_true] at e2
    subst e2
    rcases hb with ⟨_, hl⟩ | ⟨a, cap, e4, _⟩
    · subst hl
      exact ⟨none, 0, [], e, .inl ⟨rfl, rfl⟩, fun _ => rfl⟩
    · cases e4
  · rw [e] at e2
    simp only [List.cons.injEq, and_true] at e2
    subst e2
    obtain ⟨a', c', e3⟩ := slice_of hb
    cases e3
    exact ⟨_, _, l, e, hb, fun e => by cases e⟩
theorem act_of {H : Type} {enc : TypeId × Value → H} {W : World} {base fuel : Nat} {held : Bool} {cs : List Value} {x : DataW H × List MemPlace} (h : DataW.trod enc Tryz.prog W base (fun _ => true) held fuel 34 cs = some x)
    {b o : Nat} (hc : ∀ k, k < 4 → W.cell? ⟨b, o + k, none⟩ = cs[k]?) : ∃ x, Rl.Act2At W b o x := by
  have k22 : Tryz.prog.cellsOf 31 = 1 := by kernel_rfl
  have k3 : Tryz.prog.cellsOf 3 = 1 := by kernel_rfl
  have k23 : Tryz.prog.cellsOf 32 = 1 := by kernel_rfl
  have hc4 : Tryz.prog.cellsOf 34 = 4 := by kernel_rfl
  obtain ⟨xs, n, _, _, hlen, hxl, hx⟩ := DataW.trod_struct Tryz.underlying34 h
  rw [hc4] at hlen
  match cs, hlen, xs, hxl with
  | [c0, c1, c2, c3], _, [y0, y1, y2, y3], _ =>
  have g0 : DataW.trod enc Tryz.prog W base (fun _ => true) held n 3 (List.take (Tryz.prog.cellsOf 3) (List.drop 0 [c0, c1, c2, c3])) = some y0 := hx 0 _ rfl
  have g1 : DataW.trod enc Tryz.prog W base (fun _ => true) held n 3 (List.take (Tryz.prog.cellsOf 3) (List.drop 1 [c0, c1, c2, c3])) = some y1 := hx 1 _ rfl
  have g2 : DataW.trod enc Tryz.prog W base (fun _ => true) held n 31 (List.take (Tryz.prog.cellsOf 31) (List.drop 2 [c0, c1, c2, c3])) = some y2 := hx 2 _ rfl
  have g3 : DataW.trod enc Tryz.prog W base (fun _ => true) held n 32 (List.take (Tryz.prog.cellsOf 32) (List.drop 3 [c0, c1, c2, c3])) = some y3 := hx 3 _ rfl
  rw [k3] at g0 g1
  rw [k22] at g2
  rw [k23] at g3
  obtain ⟨x0, e0, _, w0⟩ := DataW.trod_int (cs := [c0]) Tryz.underlying3 g0
  obtain ⟨x1, e1, _, w1⟩ := DataW.trod_int (cs := [c1]) Tryz.underlying3 g1
  obtain ⟨a2, n2, bs, e2, b2, z2⟩ := bytes_cap (cs := [c2]) g2
  obtain ⟨u3, ts, e3, b3⟩ := trow_of (cs := [c3]) g3
  simp only [List.cons.injEq, and_true] at e0 e1 e2 e3
  subst e0 e1 e2 e3
  obtain ⟨a3, n3, e3, _⟩ := id b3
  subst e3
  exact ⟨⟨x0, x1, bs, ts⟩, hc 0 (by omega), hc 1 (by omega), ⟨a2, n2, hc 2 (by omega), b2, z2⟩, ⟨a3, n3, hc 3 (by omega), b3⟩, i64_wf w0, i64_wf w1⟩

theorem acts_of {H : Type} {enc : TypeId × Value → H} {W : World} {base fuel : Nat} {held : Bool} {cs : List Value} {x : DataW H × List MemPlace} (h : DataW.trod enc Tryz.prog W base (fun _ => true) held fuel 22 cs = some x) :
    ∃ v xs, cs = [v] ∧ Rl.Acts2 W v xs := by
  have hc6 : Tryz.prog.cellsOf 34 = 4 := by kernel_rfl
  rcases Go.Deep.open_slice Tryz.underlying22 h with ⟨rfl, _⟩ | ⟨a, len, cap, m, n, D, Pl, rfl, hb, hl, hm, hmm, rfl, hx⟩
  · exact ⟨_, [], rfl, none, 0, rfl, fun j r hj => by cases hj⟩
  · have hmm2 : m = cap := by simpa using hmm
    rw [hc6] at hx
    have hcell : ∀ j, j < len → ∃ cs', cs'.length = 4 ∧ (∀ k, k < 4 → W.cell? ((a.add (j * 4)).add k) = cs'[k]?) ∧ DataW.trod enc Tryz.prog W base (fun _ => true) held n 34 cs' = some (D j, Pl j) := fun j hj => by
      obtain ⟨cs', h1, h2⟩ := hx j (by omega)
      obtain ⟨_, h3, h4⟩ := World.cells?_some h1
      exact ⟨cs', h3, h4, h2⟩
    by_cases h0 : 0 < len
    · obtain ⟨b, o, spot⟩ := a
      have hspot : spot = none := by
        obtain ⟨cs', h3, h4, _⟩ := hcell 0 h0
        have h5 := h4 0 (by omega)
        rw [List.getElem?_eq_getElem (by omega)] at h5
        have := World.cell?_spot h5
        simpa [Addr.add] using this
      subst hspot
      have hact : ∀ j, j < len → ∃ x, Rl.Act2At W b (o + j * 4) x := fun j hj => by
        obtain ⟨cs', h3, h4, h5⟩ := hcell j hj
        exact act_of h5 fun k hk => by rw [← h4 k hk, Go.WideShapes.add_plain, Go.WideShapes.add_plain]
      obtain ⟨F, hF⟩ := Go.Deep.choose_lt (α := Rl.Act2) (p := fun j x => Rl.Act2At W b (o + j * 4) x) (n := len) hact
      refine ⟨_, (List.range len).map F, rfl, some ⟨b, o, none⟩, cap, by simp, fun j r hj => ?_⟩
      have hj2 : j < len := by
        have := (List.getElem?_eq_some_iff.1 hj).1
        simpa using this
      have hr : r = F j := by
        rw [List.getElem?_map, List.getElem?_range hj2] at hj
        simpa using hj.symm
      exact ⟨b, o, rfl, lt_of_cell (hF j hj2).c0, by rw [hr]; exact hF j hj2⟩
    · obtain rfl : len = 0 := by omega
      exact ⟨_, [], rfl, some a, cap, rfl, fun j r hj => by cases hj⟩
/-! ### THE ROW's STEP: WRITTEN OUT: LEAVE IT -/
set_option maxRecDepth 100000 in
theorem lifted (os : Os) (started : os.Started) (H : Type) (enc : TypeId × Value → H) :
    ReturnsInHanded {} Tryz.checked os 3 .any (Rows.reclogSureSpec.pre6 enc Tryz.prog Tryz.f3 Rows.reclogSureRow.domain false) (Rows.reclogSureSpec.post enc Tryz.prog Tryz.f3 false true false false) := by
  refine returnsInHanded_of_change (C := Tryz.checked) own started (by kernel_rfl) Tryz.func3
    (ChangeSpec.witness6 (enc := enc) (C := Tryz.checked) false ⟨#[], #[.slice none 0 0], []⟩ 8 (by kernel_rfl) (by kernel_rfl) (by kernel_rfl) (by kernel_rfl)) ?_
  intro W base args ds gs before hval0 hW hcnd _
  have hval : ∀ (j : Nat) t v, Tryz.f3.params[j]? = some t → args[j]? = some v → Value.okWide Tryz.prog W .any base t v := hval0
  have hW' := hW
  obtain ⟨p, q, hA0, hV, rfl, hfz, hnd⟩ := hW
  have hA : DataW.TrodAll enc Tryz.prog W 0 (fun _ => true) true Tryz.f3.params.toList args.toList ds p := hA0
  rw [Tryz.params3] at hA hval
  obtain ⟨v0, vs0, d0, ds0, p0, q0, hargs, rfl, rfl, h0, r0⟩ := trodAll_cons hA
  obtain ⟨rfl, rfl, rfl⟩ := trodAll_nil r0
  obtain rfl : args = #[v0] := by cases args; simp_all
  obtain ⟨rfl, rfl⟩ := trodVars_none hV
  have k0 := h0
  have lt0 : ∀ x ∈ p0, x.block < W.heap.size := by obtain ⟨m, hm⟩ := k0; exact DataW.trod_lt m _ _ _ hm
  obtain ⟨m0, hm0⟩ := h0
  obtain ⟨u0, xs, e0, hAc⟩ := acts_of hm0
  rw [top_acts (hval 0 22 v0 rfl rfl)] at e0
  simp only [List.cons.injEq, and_true] at e0
  subst e0
  clear hA0 hval0
  have main := Rl.sure_law W hAc
  refine main.mono fun e W' ⟨he, bel⟩ => ?_
  subst he
  exact ⟨_, rfl, _, _, _, [], _, [], hW', trodAll_mk1 (shut_bool Tryz.underlying4 _), (trodAll_cons_mk (Below.trod laidOut (by kernel_rfl) (of_decide_eq_true (by kernel_rfl)) k0 bel lt0) trodAll_mk0), rfl, bel.frame _, fun h => by cases h⟩

theorem over : Rows.reclogSureRow.holds Tryz.pinned (OpenSpec.ofChange Rows.reclogSureSpec) :=
  OpenClaim.holds_of_wide 3 Tryz.f3 rfl rfl rfl rfl rfl rfl rfl ⟨rfl, rfl, rfl, rfl, rfl⟩ rfl rfl rfl rfl rfl (by kernel_rfl) Tryz.func3 (by kernel_rfl)
    (of_decide_eq_true (by kernel_rfl)) (by unfold Func.isWrapper; first | (rw [if_pos (by decide +kernel)]; kernel_rfl) | (rw [if_neg (by decide +kernel)]; exact ⟨rfl, rfl⟩))
    (fun os started H enc _ => lifted os started H enc)

theorem proved : Rows.ReclogSureSaid := over
end Go.Proofs.YtfmelhcpccghdaaGreat.reclogSure
