/-
  EACH Ytmppjlgmopfaeaa IS TOLD ONCE: the law NamesOnce, walked.
-/
import Derived.Test.YtmppjlgmopfaeaaNmToldW
import Derived.Test.YtmppjlgmopfaeaaNmNames
namespace Go.Proofs.Ytmppjlgmopfaeaa.Nm
open Go.RowKit Go.Maps

theorem dep_row1 {w : World} {d : Dp} {dv : Value} (hd : StrRow w dv d.deps) (hno : NilOk dv) : DepRow (w.alloc (.cells #[.string d.out, .int .i64 d.time, dv] 42)) (.slice (some ⟨w.heap.size, 0, Option.none⟩) 1 1) [d] := by
  refine ⟨_, _, rfl, Nat.le_refl _, .inr ⟨_, 0, rfl, by rw [World.size_alloc]; omega, fun i x hi => ?_⟩⟩
  obtain ⟨rfl, rfl⟩ : i = 0 ∧ x = d := by
    cases i with
    | zero => simp at hi; exact ⟨rfl, hi.symm⟩
    | succ i => simp at hi
  have h := heap_alloc_new w (.cells #[.string x.out, .int .i64 x.time, dv] 42)
  obtain ⟨⟨c0, c1, c2⟩, -⟩ := thr_cells h
  exact ⟨dv, c0, c1, c2, hd.below (Pk.below_alloc _ _), hno⟩

/-- a box of what was found, below all that is made later -/
structure BoxD (w W : World) (d : Dp) (dv : Value) : Prop where
  h1 : W.heap[w.heap.size]? = some (.cells #[.string d.out, .int .i64 d.time, dv] 42 (0, 0))
  bel : Below w.heap.size w W
section
variable {w W W1 : World} {d : Dp} {dv : Value}
theorem BoxD.below (h : BoxD w W d dv) (hb : Below W.heap.size W W1) : BoxD w W1 d dv := ⟨(hb.block _ (lt_some h.h1)).trans h.h1, h.bel.trans (hb.mono h.bel.size)⟩
theorem BoxD.drew (h : BoxD w W d dv) : BoxD w W.drew d dv := ⟨h.h1, ⟨h.bel.os, h.bel.tape, h.bel.output, h.bel.size, h.bel.block⟩⟩
theorem BoxD.cells (h : BoxD w W d dv) : W.cell? ⟨w.heap.size, 0, Option.none⟩ = some (.string d.out) ∧ W.cell? ⟨w.heap.size, 1, Option.none⟩ = some (.int .i64 d.time) ∧ W.cell? ⟨w.heap.size, 2, Option.none⟩ = some dv := (thr_cells h.h1).1
end

theorem newO_c (w : World) : Calls Try.prog 10 #[] w fun e w' => ∃ q, e = .returned (.pointer (some ⟨q, 0, Option.none⟩)) ∧ Own w.heap.size 0 0 w' q ⟨[], []⟩ ∧ Below w.heap.size w w' :=
  (new_c w).mono fun _ _ ⟨he, hw⟩ => ⟨w.heap.size, he, by subst hw; exact (own_new w (w.heap.size + 1) 0 (by omega)).free, by subst hw; exact Pk.below_alloc _ _⟩

set_option maxRecDepth 100000 in
set_option maxHeartbeats 4000000 in
theorem once_c {w : World} {d : Dp} {dv : Value} {t : Nat} (hd : StrRow w dv d.deps) (hno : NilOk dv) (ht : t < 4294967296) :
    Calls Try.prog 7 #[.agg #[.string d.out, .int .i64 d.time, dv], .int .u32 (t : Int)] w fun e w' => e = .returned (.bool true) ∧ Below w.heap.size w w' := by
  obtain ⟨W0, hW0⟩ : ∃ W, w.alloc (.cells #[.string d.out, .int .i64 d.time, dv] 42) = W := ⟨_, rfl⟩
  have hx : BoxD w W0 d dv := by rw [← hW0]; exact ⟨heap_alloc_new _ _, Pk.below_alloc _ _⟩
  have X0 := Lib.hid hx
  have hd0 := hd.below hx.bel
  have HD0 := Lib.hid hd0
  obtain ⟨c0, c1, c2⟩ := hx.cells
  have cb := brief_c hd0
  have HNO := Lib.hid hno
  obtain ⟨da, dc, rfl, -, -⟩ := hd
  clear hx hd0 hno
  cases hz : briefB d with
  | false =>
    rw [hz] at cb
    clear hz
    go_enter Try.func7, Try.ntmps7
    go_wp2_with fail
    refine cb.mono ?_
    rintro e w1 ⟨rfl, hb⟩
    have HB := Lib.hid (X0.out.bel.trans (hb.mono X0.out.bel.size))
    clear hb cb
    go_wp2_with fail
    go_ret
    exact ⟨rfl, HB.out⟩
  | true =>
    rw [hz] at cb
    have hall : allB [d] = true := by unfold allB; simp [hz]
    obtain ⟨-, hmem⟩ := all_mem hall
    have hdl := (hmem d (by simp)).2.1
    have HALL := Lib.hid hall
    clear hz hmem hall
    go_enter Try.func7, Try.ntmps7
    go_wp2_with fail
    refine cb.mono ?_
    rintro e w1 ⟨rfl, hb⟩
    have X1 := Lib.hid (X0.out.below hb)
    obtain ⟨d0, d1, d2⟩ := X1.out.cells
    have hd1 := HD0.out.below hb
    have ct := told_c (dep_row1 hd1 HNO.out) HALL.out
    have HBA := Lib.hid (Pk.below_alloc w1 (.cells #[.string d.out, .int .i64 d.time, .slice da d.deps.length dc] 42))
    have X1A := Lib.hid (X1.out.below HBA.out)
    have HD1A := Lib.hid (hd1.below HBA.out)
    obtain ⟨p, hp⟩ : ∃ p, (w1.alloc (.cells #[.string d.out, .int .i64 d.time, .slice da d.deps.length dc] 42)).heap.size = p := ⟨_, rfl⟩
    have HP := Lib.hid hp
    clear hb cb hd1 hp hW0 c0 c1 c2
    go_wp2_with fail
    refine ct.mono ?_
    rintro e w2 ⟨rfl, hO2, hb2⟩
    rw [HP.out] at hO2 hb2 ⊢
    have hb2' := hb2
    rw [← HP.out] at hb2'
    have X2 := Lib.hid (X1A.out.below hb2')
    have HD2 := Lib.hid (HD1A.out.below hb2')
    have HO2 := Lib.hid hO2
    clear ct hO2 hb2 hb2' d0 d1 d2
    go_wp2_with fail
    have K0 := X2.out.drew.cells
    have nw := newO_c w2.drew
    go_region_held3 (fun w' => w'.cell? ⟨w.heap.size, 0, Option.none⟩ = some (.string d.out) ∧ w'.cell? ⟨w.heap.size, 1, Option.none⟩ = some (.int .i64 d.time) ∧ w'.cell? ⟨w.heap.size, 2, Option.none⟩ = some (.slice da d.deps.length dc))
      (first | with_reducible exact K0 | with_reducible exact K1 | with_reducible exact K2 | with_reducible exact K3 | fail)
      (first
        | (go_at_call 10; (with_reducible refine nw.mono ?_); rintro e V1 ⟨q, rfl, hq, hb1⟩; have C1 := Lib.hid (X2.out.below (below_of_drew hb1)); have K1 := C1.out.cells; have D1 := Lib.hid (HD2.out.below (below_of_drew hb1)); have cg := given_c D1.out HNO.out (by omega); have O1 := Lib.hid hq; have B1 := Lib.hid (below_of_drew hb1); clear hq hb1 nw)
        | (go_at_call 21; (with_reducible refine cg.mono ?_); rintro e V2 ⟨ga, gc, rfl, hgs, hb2⟩; have C2 := Lib.hid (C1.out.below hb2); have K2 := C2.out.cells; have D2 := Lib.hid (D1.out.below hb2); have cp := plan_own (O1.out.below hb2) hgs (by omega) (by simp); have B2 := Lib.hid (B1.out.trans (hb2.mono B1.out.size)); clear hgs hb2 cg)
        | (go_at_call 20; (with_reducible refine cp.mono ?_); rintro e V3 ⟨vr, rfl, hrs, hb3⟩; have C3 := Lib.hid (C2.out.below hb3); have K3 := C3.out.cells; have D3 := Lib.hid (D2.out.below hb3); have B3 := Lib.hid (B2.out.trans (hb3.mono B2.out.size)); clear hrs hb3 cp))
    have HO3 := Lib.hid (HO2.out.below B3.out)
    by_cases hE : planE d.out d.time d.deps = 0
    · have hE0 : dpE d = 0 := hE
      rw [hE]
      have HE0 := Lib.hid hE0
      clear hE hE0
      obtain ⟨k0, k1, k2⟩ := C3.out.cells
      have cg := given_c D3.out HNO.out (by omega)
      clear K0 K1 K2 K3
      go_wp2_with fail
      refine cg.mono ?_
      rintro e w4 ⟨ga, gc, rfl, hgs, hb4⟩
      obtain ⟨W5, hW5⟩ : ∃ W, w4.alloc (.cells #[.string ⟨#[]⟩, .int .i64 0, .slice Option.none 0 0] 39) = W := ⟨_, rfl⟩
      have z5 : W5.heap[w4.heap.size]? = some (.cells #[.string ⟨#[]⟩, .int .i64 0, .slice Option.none 0 0] 39 (0, 0)) := by rw [← hW5]; exact heap_alloc_new _ _
      have b5 : Below w4.heap.size w4 W5 := by rw [← hW5]; exact Pk.below_alloc _ _
      obtain ⟨⟨y0, y1, y2⟩, f0, f1, f2⟩ := thr_cells z5
      have z6 := thr_same (v0 := .string d.out) (v1 := .int .i64 d.time) (v2 := .slice ga d.deps.length gc) z5
      have b6 := thr_below (v0 := .string d.out) (v1 := .int .i64 d.time) (v2 := .slice ga d.deps.length gc) b5 (Nat.le_refl _) (Nat.le_refl w4.heap.size)
      obtain ⟨⟨s0, s1, s2⟩, g0, g1, g2⟩ := thr_cells z6
      have z7 := Pk.set_block (j := 1) (u := .int .i64 (t : Int)) z6
      have b7 : Below w4.heap.size w4 ((thr W5 w4.heap.size (.string d.out) (.int .i64 d.time) (.slice ga d.deps.length gc)).setCell ⟨w4.heap.size, 1, Option.none⟩ (.int .i64 (t : Int))) :=
        ⟨b6.os, b6.tape, b6.output, by rw [World.size_setCell]; exact b6.size, fun k hk => (set_off (by omega)).trans (b6.block k hk)⟩
      obtain ⟨⟨t0, t1, t2⟩, -⟩ := thr_cells (v0 := .string d.out) (v1 := .int .i64 (t : Int)) (v2 := .slice ga d.deps.length gc) z7
      have hO7 := HO3.out.below (hb4.trans (b7.mono hb4.size))
      have hok := told_ok (L := [d]) (by simp) (fun x hx => by simp at hx; subst hx; omega)
      have cp := plan_own (d := ⟨d.out, (t : Int), d.deps⟩) hO7 (hgs.below b7) (by show d.deps.length ≤ 1000000; omega) (by have := hok.2; simp at this; omega)
      have hE1 : planE d.out (t : Int) d.deps = 0 := once_e HE0.out (by omega)
      have hlen : (planD (toldB [d]).N ⟨d.out, (t : Int), d.deps⟩).length = 1 := once_plan HE0.out (by omega) t
      have HB7 := Lib.hid (C3.out.bel.trans ((hb4.trans (b7.mono hb4.size)).mono C3.out.bel.size))
      have cp2 : Calls Try.prog 20 #[.pointer (some ⟨p, 0, Option.none⟩), .agg #[.string d.out, .int .i64 (t : Int), .slice ga d.deps.length gc]] _ fun e w' => ∃ a c, e = .returned (.tuple #[.slice a 1 c, .int .i64 0]) ∧ Below w.heap.size w w' := cp.mono fun e w' hq => by
        obtain ⟨v, rfl, hr, hb⟩ := hq
        have hr : Rows _ Option.none w' v (if planE d.out (t : Int) d.deps = 0 then planD (toldB [d]).N ⟨d.out, (t : Int), d.deps⟩ else []) := hr
        rw [hE1, if_pos rfl] at hr
        obtain ⟨a, c, rfl⟩ := hr.val
        refine ⟨a, c, ?_, HB7.out.trans (hb.mono HB7.out.size)⟩
        show Ending.returned (.tuple #[.slice a (planD (toldB [d]).N ⟨d.out, (t : Int), d.deps⟩).length c, .int .i64 ((planE d.out (t : Int) d.deps : Nat) : Int)]) = _
        rw [hlen, hE1]
        rfl
      have htw : IntKind.i64.wrap (t : Int) = (t : Int) := by rw [IntKind.wrap_i64]; omega
      unfold thr at s0 s1 s2 g0 g1 g2 t0 t1 t2 cp2
      clear cp hok hlen hE1 hO7 z5 z6 z7 b5 b6 b7 hgs hb4 cg k0 k1 k2
      go_wp2_with fail
      refine cp2.mono ?_
      rintro e w8 ⟨ra, rc, rfl, hb8⟩
      clear cp2
      go_wp2_with fail
      refine (awake_c w8).mono ?_
      rintro e w9 ⟨rfl, hb9⟩
      go_wp2_with fail
      go_ret
      exact ⟨rfl, hb8.trans (hb9.mono hb8.size)⟩
    · have hT : toldB [d] = ⟨[], []⟩ := once_none hE
      have cn := names_c HO3.out
      have hp3 : planE d.out d.time d.deps = 1 ∨ planE d.out d.time d.deps = 3 := by
        rcases planE_cases d.out d.time d.deps with h | h | h
        · exact absurd h hE
        · exact .inl h
        · exact .inr h
      rw [hT] at cn
      clear K0 K1 K2 K3
      rcases hp3 with h | h
      all_goals
        rw [h]
        clear hE h hT
        go_wp2_with fail
        refine cn.mono ?_
        rintro e w4 ⟨na, nc, rfl, -, hb4⟩
        clear cn
        go_wp2_with fail
        refine (awake_c w4).mono ?_
        rintro e w5 ⟨rfl, hb5⟩
        go_wp2_with fail
        go_ret
        exact ⟨rfl, C3.out.bel.trans ((hb4.trans (hb5.mono hb4.size)).mono C3.out.bel.size)⟩
end Go.Proofs.Ytmppjlgmopfaeaa.Nm
