/-
  WHAT ANY BOOK's PLAN TELLS: the law NamesPlans, walked.
-/
import Derived.Test.YtofdnbddpageoaaNmPlanRW
import Derived.Test.YtofdnbddpageoaaNmNil
import Derived.Test.YtofdnbddpageoaaNmCopy
namespace Go.Proofs.Ytofdnbddpageoaa.Nm
open Go.RowKit Go.Maps

theorem TwoB.sameB {w0 w : World} {p q : Nat} {B : Bo} (h : TwoB w0 w p q B) (hsz : ∀ x ∈ allL B, x.out.size ≤ 1000000 ∧ x.deps.length ≤ 1000000) : Calls Try.prog 13 #[.pointer (some ⟨p, 0, Option.none⟩), .pointer (some ⟨q, 0, Option.none⟩)] w fun e w' => e = .returned (.bool true) ∧ Below w.heap.size w w' := by
  obtain ⟨S1, S2, v1, v2, v3, Q, vN, vL, G, h1, h2, h3, h4, h5, h6, h7, h8⟩ := h
  exact sameB_c (b := w0.heap.size) (lo := 0) (hi := 0) ⟨S1, v1, v2, v3, Q, h1, fun k hk => ⟨(h5 k hk).1, (h5 k hk).2, .inr (Nat.zero_le _)⟩⟩ h3 h4 h2 hsz
theorem TwoB.refPlan {w0 w : World} {p q : Nat} {B : Bo} (h : TwoB w0 w p q B) {out : ByteArray} {time : Int} {deps : List ByteArray} {da : Option Addr} {dc : Nat} (hd : StrRow w (.slice da deps.length dc) deps) (hdl : deps.length ≤ 1000) (hNl : B.N.length ≤ 90000) :
    Calls Try.prog 22 #[.pointer (some ⟨q, 0, Option.none⟩), .agg #[.string out, .int .i64 time, .slice da deps.length dc]] w (PlQ w B.N out time deps) := by
  obtain ⟨S1, S2, v1, v2, v3, Q, vN, vL, G, h1, h2, -⟩ := h
  obtain ⟨x1, x2⟩ := strRow_of h2.names
  exact refPlan_c h2.box x1 x2 hd hdl hNl
theorem TwoB.plan {w0 w : World} {p q : Nat} {B : Bo} (h : TwoB w0 w p q B) {out : ByteArray} {time : Int} {deps : List ByteArray} {dv : Value} (hd : StrRow w dv deps) (hdl : deps.length ≤ 1000000) (hNl : B.N.length < 40000) :
    Calls Try.prog 20 #[.pointer (some ⟨p, 0, Option.none⟩), .agg #[.string out, .int .i64 time, dv]] w (PlQ w B.N out time deps) := by
  obtain ⟨S1, S2, v1, v2, v3, Q, vN, vL, G, h1, h2, h3, h4, h5, h6, h7, h8⟩ := h
  exact plan_c h1 (fun k hk => (h5 k hk).2) hd hdl hNl

/-- the argument's box -/
def BxD (w W : World) (out : ByteArray) (time : Int) (dv : Value) (deps : List ByteArray) : Prop :=
  (W.cell? ⟨w.heap.size, 0, Option.none⟩ = some (.string out) ∧ W.cell? ⟨w.heap.size, 1, Option.none⟩ = some (.int .i64 time) ∧ W.cell? ⟨w.heap.size, 2, Option.none⟩ = some dv) ∧ StrRow W dv deps ∧ Below w.heap.size w W
theorem BxD.below {w W W' : World} {out : ByteArray} {time : Int} {dv : Value} {deps : List ByteArray} (h : BxD w W out time dv deps) (hlt : w.heap.size < W.heap.size) (hb : Below W.heap.size W W') : BxD w W' out time dv deps :=
  ⟨⟨(cell_of_block (hb.block _ hlt)).trans h.1.1, (cell_of_block (hb.block _ hlt)).trans h.1.2.1, (cell_of_block (hb.block _ hlt)).trans h.1.2.2⟩, h.2.1.below hb, h.2.2.trans (hb.mono h.2.2.size)⟩

set_option maxRecDepth 100000 in
set_option maxHeartbeats 16000000 in
theorem plansW_c {w : World} {v : Value} {rs : List (List Nat)} {d : Dp} {dv : Value} (h : RecNo w v rs) (hx : ∀ r ∈ rs, ∀ x ∈ r, x < 256) (hd : StrRow w dv d.deps) (hno : NilOk dv) :
    Calls Try.prog 4 #[v, .agg #[.string d.out, .int .i64 d.time, dv]] w fun e w' => e = .returned (.bool true) ∧ Below w.heap.size w w' := by
  obtain ⟨da, dc, rfl, hdc, hdr⟩ := hd
  have hd : StrRow w (.slice da d.deps.length dc) d.deps := ⟨da, dc, rfl, hdc, hdr⟩
  obtain ⟨out, time, deps⟩ := d
  simp only at *
  obtain ⟨W0, hW0⟩ : ∃ W, w.alloc (.cells #[.string out, .int .i64 time, .slice da deps.length dc] 42) = W := ⟨_, rfl⟩
  have hB0 : Below w.heap.size w W0 := by rw [← hW0]; exact Pk.below_alloc _ _
  have hp : W0.heap[w.heap.size]? = some (.cells #[.string out, .int .i64 time, .slice da deps.length dc] 42 (0, 0)) := by rw [← hW0]; exact heap_alloc_new _ _
  obtain ⟨⟨c0, c1, c2⟩, -⟩ := thr_cells hp
  have hbx : BxD w W0 out time (.slice da deps.length dc) deps := ⟨⟨c0, c1, c2⟩, hd.below hB0, hB0⟩
  have cb := brief_c (d := ⟨out, time, deps⟩) (hd.below hB0)
  have hlight := light_c (h.below hB0).row
  obtain ⟨a, c, rfl, hc, -⟩ := id h
  have HROW := Lib.hid h
  have HX := Lib.hid hx
  have HBX := Lib.hid hbx
  have HLT := Lib.hid (lt_some hp)
  have HNO := Lib.hid hno
  clear h hx hp hbx hB0 hd hno hdr hdc
  simp only at cb
  cases hlt : lightB rs with
  | false =>
    rw [hlt] at hlight
    clear hlt
    go_enter Try.func4, Try.ntmps4
    go_wp2_with fail
    refine hlight.mono ?_
    rintro e w1 ⟨rfl, rfl⟩
    go_wp2_with fail
    go_ret
    exact ⟨rfl, HBX.out.2.2⟩
  | true =>
  rw [hlt] at hlight
  cases hbr : briefB ⟨out, time, deps⟩ with
  | false =>
    rw [hbr] at cb
    clear hlt hbr
    go_enter Try.func4, Try.ntmps4
    go_wp2_with fail
    refine hlight.mono ?_
    rintro e w1 ⟨rfl, rfl⟩
    go_wp2_with fail
    refine cb.mono ?_
    rintro e w1 ⟨rfl, hb1⟩
    have HB1 := Lib.hid (HBX.out.2.2.trans (hb1.mono HBX.out.2.2.size))
    clear cb hb1
    go_wp2_with fail
    go_ret
    exact ⟨rfl, HB1.out⟩
  | true =>
  rw [hbr] at cb
  have hl60 : rs.length ≤ 60 ∧ ∀ r ∈ rs, r.length ≤ 1000 := by
    unfold lightB at hlt
    simp only [Bool.and_eq_true, decide_eq_true_eq, List.all_eq_true] at hlt
    exact hlt
  have hdl : deps.length ≤ 50 := by
    unfold briefB at hbr
    simp only [Bool.and_eq_true, decide_eq_true_eq] at hbr
    exact hbr.1.2
  have HL60 := Lib.hid hl60
  clear hlt hbr hl60
  go_enter Try.func4, Try.ntmps4
  go_wp2_with fail
  refine hlight.mono ?_
  rintro e w1 ⟨rfl, rfl⟩
  clear hlight
  go_wp2_with fail
  refine cb.mono ?_
  rintro e w1 ⟨rfl, hb1⟩
  have BX1 := Lib.hid (HBX.out.below HLT.out hb1)
  have HLT1 := Lib.hid (Nat.lt_of_lt_of_le HLT.out hb1.size)
  have hnew := new_c w1
  clear cb hb1 c0 c1 c2 hW0
  go_wp2_with fail
  refine hnew.mono ?_
  rintro e w2 ⟨rfl, rfl⟩
  clear hnew
  go_wp2_with fail
  have T0 := Lib.hid (two_new w1)
  have z1 : (w1.alloc (.cells #[.slice Option.none 0 0, .map Option.none, .slice Option.none 0 0] 69)).heap.size = w1.heap.size + 1 := World.size_alloc _ _
  try rw [z1]
  obtain ⟨p, hp⟩ : ∃ p, w1.heap.size = p := ⟨_, rfl⟩
  obtain ⟨q, hq⟩ : ∃ q, w1.heap.size + 1 = q := ⟨_, rfl⟩
  generalize hW1 : (w1.alloc (.cells #[.slice Option.none 0 0, .map Option.none, .slice Option.none 0 0] 69)).alloc (.cells #[.slice Option.none 0 0, .slice Option.none 0 0] 30) = W1 at *
  have T1 : Hid (TwoB w1 W1 p q ⟨[], []⟩) := by rw [← hp, ← hq]; exact T0
  rw [hq, hp]
  have S0 := Lib.hid sz_nil
  clear hW1 T0 z1 hp hq
  have HXW : Hid (∀ W, Below w1.heap.size w1 W → BxD w W out time (.slice da deps.length dc) deps) := Lib.hid fun W hW => BX1.out.below HLT1.out hW
  go_loopw [7] (fun i wr => ∃ (j : Nat) (B : Bo), j ≤ rs.length ∧ i = .int .i64 j ∧ Hid (TwoB w1 wr p q B) ∧ Hid (SzB B j)) (fun i _ => rs.length - (intOf i).toNat)
  case atStart => exact ⟨0, ⟨[], []⟩, Nat.zero_le _, rfl, T1, S0⟩
  case round =>
    obtain ⟨j, B, hj, rfl, hT, hS⟩ := hrel
    clear T1 S0
    by_cases hlt : j < rs.length
    · have hxj := List.getElem?_eq_getElem hlt
      have hmem := List.getElem_mem hlt
      obtain ⟨_, _, e1, _, hr⟩ := HROW.out.below BX1.out.2.2
      cases e1
      rcases hr with h0 | ⟨b, off, rfl, hb, hcell⟩
      · rw [h0] at hlt; simp at hlt
      obtain ⟨u, k, xw, hk, hroww, hnor⟩ := hcell j _ hxj
      have hr3 := HL60.out.2 _ hmem
      have hxb := HX.out _ hmem
      generalize rs[j] = r at *
      have HC : Hid (∀ W, Below w1.heap.size w1 W → W.cell? ⟨b, off + j, Option.none⟩ = some (.slice u r.length k) ∧ Pk.Row W u r) := Lib.hid fun W hW => ⟨(cell_of_block (hW.block b hb)).trans xw, hroww.below hW⟩
      obtain ⟨x0, hrow⟩ := HC.out _ hT.out.bel
      have HNJ : Hid (B.N.length ≤ 60) := Lib.hid (by have := hS.out.n; have := HL60.out.1; omega)
      have hAl : (allL B).length ≤ 60 := Nat.le_trans (allL_len B) (by rw [hS.out.f]; exact HNJ.out)
      have cr := hT.out.ref (l := r) hrow (Lib.hid rfl) hk (by omega) hxb (by have := HNJ.out; omega) (by omega)
      have HR3 := Lib.hid hr3
      have HXB := Lib.hid hxb
      have h60 : rs.length ≤ 60 := HL60.out.1
      have hi0 : (0 : Int) ≤ (j : Int) := by omega
      have hi1 : (j : Int) < (rs.length : Int) := by omega
      clear hxj hmem hcell hrow hAl hr3 hxb hroww xw
      go_wp2_with fail
      refine cr.mono ?_
      rintro e w3 ⟨rfl, hM⟩
      have HM := Lib.hid hM
      clear cr hM
      obtain ⟨x3, hrow3⟩ := HC.out _ HM.out.bel
      have ct := HM.out.take (l := r) hrow3 (Lib.hid rfl) hk (by have := HR3.out; omega) HXB.out (by have := HNJ.out; omega)
      have HSN := Lib.hid (sz_step hS.out HR3.out)
      clear hrow3 x0
      go_wp2_with fail
      refine ct.mono ?_
      rintro e w5 ⟨rfl, hT5⟩
      have HT5 := Lib.hid hT5
      clear ct hT5
      go_wp2_with fail
      go_roundw
      case rel => exact ⟨j + 1, (takeB B r).getD B, by omega, by go_num, HT5, HSN⟩
      case measure => simp [intOf]; omega
    · obtain rfl : j = rs.length := by omega
      have HNJ : Hid (B.N.length ≤ 60) := Lib.hid (by have := hS.out.n; have := HL60.out.1; omega)
      have HSA := Lib.hid (sz_all hS.out hT.out.few.2)
      obtain ⟨⟨c0, c1, c2⟩, hdw, -⟩ := HXW.out _ hT.out.bel
      have cg := given_c (d := ⟨out, time, deps⟩) hdw HNO.out (by simp only; omega)
      simp only at cg
      clear hdw
      go_wp2_with fail
      refine cg.mono ?_
      rintro e w2 ⟨ga, gc, rfl, hgs, hb2⟩
      have T2 := Lib.hid (hT.out.below hb2)
      have cp := T2.out.plan (out := out) (time := time) hgs (by omega) (by have := HNJ.out; omega)
      clear cg hgs hb2
      go_wp2_with fail
      refine cp.mono ?_
      rintro e w3 ⟨xv, rfl, hxr, hb3⟩
      have T3 := Lib.hid (T2.out.below hb3)
      obtain ⟨⟨d0, d1, d2⟩, hdw, -⟩ := HXW.out _ T3.out.bel
      have cq := T3.out.refPlan (out := out) (time := time) hdw (by omega) (by have := HNJ.out; omega)
      have HXR := Lib.hid hxr
      clear cp hb3 hdw hxr c0 c1 c2
      go_wp2_with fail
      refine cq.mono ?_
      rintro e w4 ⟨yv, rfl, hyr, hb4⟩
      have T4 := Lib.hid (T3.out.below hb4)
      have cs := T4.out.sameB HSA.out
      have HSM : Hid (∀ r ∈ (if planE out time deps = 0 then Nm.plan B.N out time.toNat deps else []), r.length ≤ 1000000 ∧ ∀ x ∈ r, x < 256) := Lib.hid (by
        by_cases hE : planE out time deps = 0
        · rw [if_pos hE]
          exact planD_small (d := ⟨out, time, deps⟩) hE
        · rw [if_neg hE]
          intro r hr
          cases hr)
      have HLN : Hid ((if planE out time deps = 0 then Nm.plan B.N out time.toNat deps else []).length ≤ 1000) := Lib.hid (by
        split
        · have := planD_len B.N ⟨out, time, deps⟩
          have e : planD B.N ⟨out, time, deps⟩ = Nm.plan B.N out time.toNat deps := rfl
          rw [e] at this
          simp only at this
          omega
        · simp)
      have HX4 := Lib.hid (HXR.out.below hb4)
      have HY4 := Lib.hid hyr
      clear hyr HXR
      generalize (if planE out time deps = 0 then Nm.plan B.N out time.toNat deps else []) = R at *
      generalize planE out time deps = pe at *
      obtain ⟨xa, xc, rfl⟩ := HX4.out.val
      obtain ⟨ya, yc, rfl⟩ := HY4.out.val
      have hpe : ((pe : Int) != (pe : Int)) = false := by simp
      have hpl : ((R.length : Int) != (R.length : Int)) = false := by simp
      clear cq hb4 d0 d1 d2
      go_wp2_with fail
      refine cs.mono ?_
      rintro e w5 ⟨rfl, hb5⟩
      have T5 := Lib.hid (T4.out.below hb5)
      have HX5 := Lib.hid (HX4.out.below hb5)
      have HY5 := Lib.hid (HY4.out.below hb5)
      clear cs hb5
      go_wp2_with fail
      go_loopw [12] (fun i wr => ∃ j : Nat, j ≤ R.length ∧ i = .int .i64 j ∧ Hid (Below w5.heap.size w5 wr)) (fun i _ => R.length - (intOf i).toNat)
      case atStart => exact ⟨0, Nat.zero_le _, rfl, Lib.hid (Below.refl _ _)⟩
      case round =>
        obtain ⟨j, hj, rfl, hBw⟩ := hrel
        have hRl : R.length ≤ 1000 := HLN.out
        by_cases hlt : j < R.length
        · have hxj := List.getElem?_eq_getElem hlt
          have hsm := HSM.out _ (List.getElem_mem hlt)
          obtain ⟨gx, ux, kx, rfl, -, hcx, hgx, hcellx, hkx, hrowx⟩ := (HX5.out.below hBw.out).atv hxj
          obtain ⟨gy, uy, ky, rfl, -, hcy, hgy, hcelly, hky, hrowy⟩ := (HY5.out.below hBw.out).atv hxj
          generalize R[j] = r at *
          have v1 : (convert 32 9 (.slice ux r.length kx)).run Try.prog wr.drew = .ok (.string (Pk.str r)) wr.drew := Pk.conv_row rfl hrowx.drew hsm.2 kx
          have v2 : (convert 32 9 (.slice uy r.length ky)).run Try.prog wr.drew = .ok (.string (Pk.str r)) wr.drew := Pk.conv_row rfl hrowy.drew hsm.2 ky
          have x1 : wr.drew.cell? ⟨gx, j, Option.none⟩ = some (.slice ux r.length kx) := hcellx
          have x2 : wr.drew.cell? ⟨gy, j, Option.none⟩ = some (.slice uy r.length ky) := hcelly
          have HBN := Lib.hid (show Below w5.heap.size w5 wr.drew from ⟨hBw.out.os, hBw.out.tape, hBw.out.output, hBw.out.size, hBw.out.block⟩)
          generalize r.length = rl at *
          have hst : ((Pk.str r).toList == (Pk.str r).toList) = true := by simp
          generalize Pk.str r = sr at *
          have hi0 : (0 : Int) ≤ (j : Int) := by omega
          have hi1 : (j : Int) < (R.length : Int) := by omega
          clear hxj hsm hrowx hrowy
          go_wp2_with fail
          go_region_held3 (fun w' => w'.cell? ⟨gx, j, Option.none⟩ = some (.slice ux rl kx) ∧ w'.cell? ⟨gy, j, Option.none⟩ = some (.slice uy rl ky) ∧ (convert 32 9 (.slice ux rl kx)).run Try.prog w' = .ok (.string sr) w' ∧ (convert 32 9 (.slice uy rl ky)).run Try.prog w' = .ok (.string sr) w')
            (first | exact ⟨x1, x2, v1, v2⟩ | fail) (first | fail)
          go_wp2_with fail
          go_roundw
          case rel => exact ⟨j + 1, by omega, by go_num, HBN⟩
          case measure => simp [intOf]; omega
        · obtain rfl : j = R.length := by omega
          have T6 := Lib.hid (T5.out.below hBw.out)
          obtain ⟨⟨c0, c1, c2⟩, hdw, -⟩ := HXW.out _ T6.out.bel
          have cg := given_c (d := ⟨out, time, deps⟩) hdw HNO.out (by simp only; omega)
          simp only at cg
          clear hdw
          go_wp2_with fail
          refine cg.mono ?_
          rintro e w6 ⟨ga, gc, rfl, -, hb6⟩
          have T7 := Lib.hid (T6.out.below hb6)
          have cp := planNil_c w6 out time (.slice ga deps.length gc)
          clear cg hb6 c0 c1 c2
          go_wp2_with fail
          refine cp.mono ?_
          rintro e w7 ⟨rfl, hb7⟩
          have T8 := Lib.hid (T7.out.below hb7)
          obtain ⟨⟨c0, c1, c2⟩, -, -⟩ := HXW.out _ T8.out.bel
          have cl := lookNil_c w7 out
          clear cp hb7
          go_wp2_with fail
          refine cl.mono ?_
          rintro e w8 ⟨rfl, hb8⟩
          have T9 := Lib.hid (T8.out.below hb8)
          clear cl hb8 c0 c1 c2
          obtain ⟨WA, hWA⟩ : ∃ W, w8.alloc (.cells #[.string ⟨#[]⟩, .int .i64 0, .slice Option.none 0 0] 39) = W := ⟨_, rfl⟩
          have zA : WA.heap[w8.heap.size]? = some (.cells #[.string ⟨#[]⟩, .int .i64 0, .slice Option.none 0 0] 39 (0, 0)) := by rw [← hWA]; exact heap_alloc_new _ _
          have bA : Below w8.heap.size w8 WA := by rw [← hWA]; exact Pk.below_alloc _ _
          obtain ⟨⟨y0, y1, y2⟩, f0, f1, f2⟩ := thr_cells zA
          have bB := thr_below (v0 := .string ⟨#[]⟩) (v1 := .int .i64 0) (v2 := .slice Option.none 0 0) bA (Nat.le_refl _) (Nat.le_refl w8.heap.size)
          obtain ⟨WB, hWB⟩ : ∃ W, thr WA w8.heap.size (.string ⟨#[]⟩) (.int .i64 0) (.slice Option.none 0 0) = W := ⟨_, rfl⟩
          rw [hWB] at bB
          have TB := Lib.hid (T9.out.below bB)
          unfold thr at hWB
          have ct := takeNil_c WB
          have ca := allNil_c WB
          have cm := namesNil_c WB
          have cr := recordsNil_c WB
          clear zA bA bB
          go_wp2_with fail
          clear hWA hWB y0 y1 y2 f0 f1 f2
          refine ct.mono ?_
          rintro e wx ⟨rfl, rfl⟩
          clear ct
          go_wp2_with fail
          refine ca.mono ?_
          rintro e wx ⟨rfl, rfl⟩
          clear ca
          go_wp2_with fail
          refine cm.mono ?_
          rintro e wx ⟨rfl, rfl⟩
          clear cm
          go_wp2_with fail
          refine cr.mono ?_
          rintro e wx ⟨rfl, hbx⟩
          have TX := Lib.hid (TB.out.below hbx)
          have cw := awake_c wx
          clear cr hbx
          go_wp2_with fail
          refine cw.mono ?_
          rintro e wy ⟨rfl, hby⟩
          have TY := Lib.hid (TX.out.below hby)
          clear cw hby
          go_wp2_with fail
          go_ret
          exact ⟨rfl, BX1.out.2.2.trans (TY.out.bel.mono BX1.out.2.2.size)⟩
end Go.Proofs.Ytofdnbddpageoaa.Nm
