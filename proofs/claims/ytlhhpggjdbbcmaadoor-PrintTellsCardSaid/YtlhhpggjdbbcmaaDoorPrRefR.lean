/-
  WHAT MAY BE PRINTED, by the document.
-/
import Derived.Test.YtlhhpggjdbbcmaaDoorPrPrint
namespace Go.Proofs.YtlhhpggjdbbcmaaDoor.Pr
open Go.RowKit Go.Proofs.YtlhhpggjdbbcmaaDoor Go.Proofs.YtlhhpggjdbbcmaaDoor.Df

set_option maxHeartbeats 1000000 in
theorem refRight_c (s : Bs) (hs : s.length ≤ 9223372036854775807) (w : World) : Calls Tryd.prog 17 #[.string (mk s)] w fun e w' => e = .returned (.bool (rightL s)) ∧ Below w.heap.size w w' := by
  have hcl := refClean_c s hs w
  have hr : rightL s = (decide ((cleanL s).2 = 0) && decide ((cleanL s).1 = s)) := rfl
  have hlen := cleanL_len s
  obtain ⟨⟨c, e⟩, hC⟩ : ∃ C, cleanL s = C := ⟨_, rfl⟩
  rw [hC] at hcl hr hlen
  have HR := Lib.hid hr
  clear hr hC
  go_enter Tryd.func17, Tryd.ntmps17
  go_wp2_with fail
  refine hcl.mono ?_
  rintro e w1 ⟨rfl, hb⟩
  go_wp2
  all_goals go_ret
  all_goals refine ⟨?_, hb⟩
  all_goals rw [HR.out]
  · rename_i h
    rw [cmpS, decide_eq_true h, Bool.true_and]
    rfl
  · rename_i h
    rw [decide_eq_false h, Bool.false_and]
    rfl

set_option maxRecDepth 100000 in
set_option maxHeartbeats 4000000 in
theorem paths_c {w : World} {v : Value} {K : List Bs} (h : Strs w v K) (hl : K.length ≤ 1000) (hx : ∀ x ∈ K, x.length ≤ 200) :
    Calls Tryd.prog 16 #[v] w fun e w' => e = .returned (.bool (K.all rightL)) ∧ Below w.heap.size w w' := by
  obtain ⟨a, c, rfl, hc, hrow⟩ := h
  have HROW := Lib.hid hrow
  have HX := Lib.hid hx
  obtain ⟨R, hR⟩ : ∃ R, K.all rightL = R := ⟨_, rfl⟩
  have HR := Lib.hid hR
  rw [hR]
  clear hx hrow hR
  go_enter Tryd.func16, Tryd.ntmps16
  go_wp2_with fail
  go_loopw [3] (fun i wr => ∃ j : Nat, j ≤ K.length ∧ i = .int .i64 j ∧ Hid ((K.take j).all rightL = true) ∧ Hid (Below w.heap.size w wr)) (fun i _ => K.length - (intOf i).toNat)
  case atStart => exact ⟨0, Nat.zero_le _, rfl, Lib.hid (by simp), Lib.hid (Below.refl _ _)⟩
  case round =>
    obtain ⟨j, hj, rfl, hA, hB⟩ := hrel
    by_cases hlt : j < K.length
    · have hx := List.getElem?_eq_getElem hlt
      have htk : (K.take (j + 1)).all rightL = ((K.take j).all rightL && rightL K[j]) := by
        rw [List.take_add_one, hx, List.all_append]
        generalize K[j] = y
        simp
      have hmem : K[j] ∈ K := List.getElem_mem hlt
      rcases HROW.out with h0 | ⟨b, off, rfl, hb, hcell⟩
      · rw [h0] at hlt; simp at hlt
      have hc0 : wr.cell? ⟨b, off + j, none⟩ = some (.string (mk K[j])) := (cell_of_block (hB.out.block b hb)).trans (hcell j _ hx)
      generalize K[j] = s at *
      have cl := refRight_c s (by have := HX.out _ hmem; omega) wr
      have hF : rightL s = false → R = false := fun h => by
        rw [← HR.out, List.all_eq_false]
        exact ⟨s, hmem, by rw [h]; simp⟩
      generalize rightL s = z at *
      have HTK := Lib.hid htk
      have hi0 : (0 : Int) ≤ (j : Int) := by omega
      have hi1 : (j : Int) < (K.length : Int) := by omega
      clear hcell hx htk hmem
      cases z with
      | false =>
        have HFR : Hid (R = false) := Lib.hid (hF rfl)
        clear hF
        go_wp2_with fail
        refine cl.mono ?_
        rintro e w1 ⟨rfl, hb1⟩
        have HB1 := Lib.hid (hB.out.trans (hb1.mono hB.out.size))
        clear cl hb1
        go_wp2_with fail
        go_ret
        exact ⟨by rw [HFR.out]; rfl, HB1.out⟩
      | true =>
        clear hF
        go_wp2_with fail
        refine cl.mono ?_
        rintro e w1 ⟨rfl, hb1⟩
        have HB1 := Lib.hid (hB.out.trans (hb1.mono hB.out.size))
        clear cl hb1
        go_wp2_with fail
        go_roundw
        case rel => exact ⟨j + 1, by omega, by go_num, Lib.hid (by rw [HTK.out, hA.out]; rfl), HB1⟩
        case measure => simp [intOf] <;> omega
    · obtain rfl : j = K.length := by omega
      rw [List.take_length] at hA
      go_wp2_with fail
      go_ret
      exact ⟨by rw [← HR.out, hA.out]; rfl, hB.out⟩

set_option maxRecDepth 100000 in
set_option maxHeartbeats 32000000 in
theorem refRightM_c {w : World} {u0 u1 : Value} {L : List Ed} {D : List Bs} (hL : Eds w u0 L) (hD : Strs w u1 D) (hl : L.length ≤ 30) (hd : D.length ≤ 20) (hx : ∀ x ∈ L, Sm x) (hy : ∀ x ∈ D, x.length ≤ 200) :
    Calls Tryd.prog 7 #[.agg #[u0, u1]] w fun x w' => x = .returned (.bool (rightM L D)) ∧ Below w.heap.size w w' := by
  have hA := below_alloc w (.cells #[u0, u1] 25)
  obtain ⟨wB, hwB⟩ : ∃ wB, w.alloc (.cells #[u0, u1] 25) = wB := ⟨_, rfl⟩
  have hQ : wB.heap[w.heap.size]? = some (.cells #[u0, u1] 25 (0, 0)) := by rw [← hwB]; exact heap_alloc_new w _
  rw [hwB] at hA
  have hc := paths_c (hD.below hA) (by omega) hy
  have HL := Lib.hid hL
  have HX := Lib.hid hx
  have HA := Lib.hid hA
  obtain ⟨a0, k0, rfl, -, -⟩ := id hL
  obtain ⟨a1, k1, rfl, -, -⟩ := id hD
  obtain ⟨R, hR⟩ : ∃ R, rightM L D = R := ⟨_, rfl⟩
  rw [hR]
  unfold rightM at hR
  obtain ⟨z, hz⟩ : ∃ z, D.all rightL = z := ⟨_, rfl⟩
  rw [hz] at hR hc
  have HR := Lib.hid hR
  have hcell : ∀ W, Below wB.heap.size wB W → W.cell? ⟨w.heap.size, 0, none⟩ = some (.slice a0 L.length k0) ∧ W.cell? ⟨w.heap.size, 1, none⟩ = some (.slice a1 D.length k1) := fun W hW => by
    have h1 := (hW.block _ (lt_some hQ)).trans hQ
    constructor <;> (rw [Lib.cell_of_heap h1]; rfl)
  have HC := Lib.hid hcell
  obtain ⟨c0, c1⟩ := hcell _ (Below.refl _ _)
  have hle : ¬ (200 : Int) < (L.length : Int) := by omega
  have hle2 : decide ((200 : Int) < (L.length : Int)) = false := decide_eq_false hle
  have HWB := Lib.hid hwB
  clear hL hD hx hy hA hQ hz hR hcell hwB
  cases z with
  | false =>
    go_enter Tryd.func7, Tryd.ntmps7
    go_upto_region 1 with fail
    rw [HWB.out]
    go_wp2_with fail
    refine hc.mono ?_
    rintro x w1 ⟨rfl, hb1⟩
    have HB1 := Lib.hid (HA.out.trans (hb1.mono HA.out.size))
    clear hb1 hc
    go_wp2_with fail
    go_ret
    exact ⟨by rw [← HR.out]; rfl, HB1.out⟩
  | true =>
  go_enter Tryd.func7, Tryd.ntmps7
  go_upto_region 1 with fail
  rw [HWB.out]
  go_wp2_with fail
  refine hc.mono ?_
  rintro x w1 ⟨rfl, hb1⟩
  have HB1 := Lib.hid hb1
  clear hb1 hc c0 c1
  go_wp2_with fail
  go_loopw [3, 4, 5] (fun i _ _ wr => ∃ j : Nat, j ≤ L.length ∧ i = .int .i64 j ∧ Hid ((L.take j).all rightE = true) ∧ Hid (Below wB.heap.size wB wr)) (fun i _ _ _ => L.length - (intOf i).toNat)
  case atStart => exact ⟨0, Nat.zero_le _, rfl, Lib.hid (by simp), HB1⟩
  case round =>
    clear HB1
    obtain ⟨j, hj, rfl, hT, HB⟩ := hrel
    obtain ⟨c0, c1⟩ := HC.out _ HB.out
    by_cases hlt : j < L.length
    · have hxj := List.getElem?_eq_getElem hlt
      have hmem := List.getElem_mem hlt
      have hsm := HX.out _ hmem
      have htk : (L.take (j + 1)).all rightE = ((L.take j).all rightE && rightE L[j]) := by
        rw [List.take_add_one, hxj, List.all_append]
        generalize L[j] = y
        simp
      generalize L[j] = x at *
      obtain ⟨g, off, c2, v0, v1, v2, v3, e, hg, hE, b0, b1, b2, b3, b4, b5⟩ := ((HL.out.below HA.out).below HB.out).at hxj
      cases e
      have hno : rightE x = false → R = false := fun h => by
        rw [← HR.out, Bool.true_and, List.all_eq_false]
        exact ⟨x, hmem, by rw [h]; simp⟩
      have HNO := Lib.hid hno
      have HTK := Lib.hid htk
      have HSM := Lib.hid hsm
      obtain ⟨y0, z0, y1, z1, y2, z2, y3, z3, rfl, rfl, rfl, rfl⟩ := hE.sl
      have HE := Lib.hid hE
      have hi0 : (0 : Int) ≤ (j : Int) := by omega
      have hi1 : (j : Int) < (L.length : Int) := by omega
      obtain ⟨wE, hwE⟩ : ∃ wE, wr.alloc (.cells #[.slice y0 x.outs.length z0, .slice y1 x.ins.length z1, .slice y2 x.imp.length z2, .slice y3 x.ord.length z3, .string (mk x.cmd), .string (mk x.dep)] 38) = wE := ⟨_, rfl⟩
      have hAE := below_alloc wr (.cells #[.slice y0 x.outs.length z0, .slice y1 x.ins.length z1, .slice y2 x.imp.length z2, .slice y3 x.ord.length z3, .string (mk x.cmd), .string (mk x.dep)] 38)
      have hQE := heap_alloc_new wr (.cells #[.slice y0 x.outs.length z0, .slice y1 x.ins.length z1, .slice y2 x.imp.length z2, .slice y3 x.ord.length z3, .string (mk x.cmd), .string (mk x.dep)] 38)
      rw [hwE] at hAE hQE
      have hcell : ∀ W, Below wE.heap.size wE W → W.cell? ⟨wr.heap.size, 0, none⟩ = some (.slice y0 x.outs.length z0) ∧ W.cell? ⟨wr.heap.size, 1, none⟩ = some (.slice y1 x.ins.length z1) ∧ W.cell? ⟨wr.heap.size, 2, none⟩ = some (.slice y2 x.imp.length z2) ∧ W.cell? ⟨wr.heap.size, 3, none⟩ = some (.slice y3 x.ord.length z3) ∧ W.cell? ⟨wr.heap.size, 4, none⟩ = some (.string (mk x.cmd)) ∧ W.cell? ⟨wr.heap.size, 5, none⟩ = some (.string (mk x.dep)) := fun W hW => by
        have h1 := (hW.block _ (lt_some hQE)).trans hQE
        refine ⟨?_, ?_, ?_, ?_, ?_, ?_⟩ <;> (rw [Lib.cell_of_heap h1]; rfl)
      have HCE := Lib.hid hcell
      have HAE := Lib.hid hAE
      have HWE := Lib.hid hwE
      have HBE := Lib.hid (HB.out.trans (hAE.mono HB.out.size))
      have HB0 := Lib.hid (Below.refl wE.heap.size wE)
      have hre : rightE x = (!x.outs.isEmpty && [x.outs, x.ins, x.imp, x.ord].all (fun K => K.all rightL) && comL x.cmd && (x.dep.isEmpty || rightL x.dep)) := rfl
      have hO : x.outs.isEmpty = decide (x.outs.length = 0) := by cases x.outs <;> simp
      have hP : [x.outs, x.ins, x.imp, x.ord].all (fun K => K.all rightL) = (x.outs.all rightL && (x.ins.all rightL && (x.imp.all rightL && x.ord.all rightL))) := by simp
      have cp0 := fun W (hW : Below wr.heap.size wr W) => paths_c (HE.out.o.below hW) (by have := HSM.out.o; omega) HSM.out.xo
      have cp1 := fun W (hW : Below wr.heap.size wr W) => paths_c (HE.out.i.below hW) (by have := HSM.out.i; omega) HSM.out.xi
      have cp2 := fun W (hW : Below wr.heap.size wr W) => paths_c (HE.out.m.below hW) (by have := HSM.out.m; omega) HSM.out.xm
      have cp3 := fun W (hW : Below wr.heap.size wr W) => paths_c (HE.out.r.below hW) (by have := HSM.out.r; omega) HSM.out.xr
      have cr := fun W => refRight_c x.dep (by have := HSM.out.d; omega) W
      have hD1 : (mk x.dep).toList.isEmpty = x.dep.isEmpty := by rw [mk_toList]
      have hC1 : (mk x.cmd).toList.isEmpty = x.cmd.isEmpty := by rw [mk_toList]
      have hcl : comL x.cmd = (x.cmd.all comB && !x.cmd.isEmpty) := rfl
      rw [hO, hP, hcl] at hre
      generalize x.outs.all rightL = p0 at *
      generalize x.ins.all rightL = p1 at *
      generalize x.imp.all rightL = p2 at *
      generalize x.ord.all rightL = p3 at *
      generalize rightL x.dep = pr at *
      generalize x.dep.isEmpty = de at *
      obtain ⟨ce, hce⟩ : ∃ ce, x.cmd.isEmpty = ce := ⟨_, rfl⟩
      rw [hce] at hC1 hre
      generalize x.outs.length = n0 at *
      have HRE := Lib.hid hre
      have HCP0 := Lib.hid cp0
      have HCP1 := Lib.hid cp1
      have HCP2 := Lib.hid cp2
      have HCP3 := Lib.hid cp3
      have HCR := Lib.hid cr
      clear hre hcell hAE hQE hwE hE hmem hsm hxj hno htk hg hO hP hcl hce cp0 cp1 cp2 cp3 cr
      go_upto_region 7 with fail
      rw [HWE.out]
      clear b0 b1 b2 b3 b4 b5
      obtain ⟨b0, b1, b2, b3, b4, b5⟩ := HCE.out _ (Below.refl _ _)
      by_cases hn0 : n0 = 0
      · have HFR : Hid (R = false) := Lib.hid (HNO.out (by rw [HRE.out, decide_eq_true hn0]; rfl))
        subst hn0
        go_wp2_with fail
        go_ret
        exact ⟨by rw [HFR.out]; rfl, (HA.out.trans ((HBE.out.trans (HB0.out.mono HBE.out.size)).mono HA.out.size))⟩
      have d0 : decide ((n0 : Int) = 0) = false := decide_eq_false (by omega)
      have d1 : decide (n0 = 0) = false := decide_eq_false hn0
      have d2 : ((n0 : Int) == 0) = false := by rw [beq_eq_false_iff_ne]; omega
      have HRE := Lib.hid (show rightE x = (p0 && (p1 && (p2 && p3)) && (x.cmd.all comB && !ce) && (de || pr)) by rw [HRE.out, d1]; rfl)
      have hn3 : ¬ (n0 : Int) = 0 := by omega
      cases p0 with
      | false =>
        have HFR : Hid (R = false) := Lib.hid (HNO.out (by rw [HRE.out]; simp))
        go_wp2_with fail
        refine (HCP0.out _ (HAE.out.trans (HB0.out.mono HAE.out.size))).mono ?_
        rintro e q0 ⟨rfl, hb⟩
        have HB1 := Lib.hid (HB0.out.trans (hb.mono HB0.out.size))
        clear hb b0 b1 b2 b3 b4 b5
        obtain ⟨b0, b1, b2, b3, b4, b5⟩ := HCE.out _ HB1.out
        go_wp2_with fail
        go_ret
        exact ⟨by rw [HFR.out]; rfl, (HA.out.trans ((HBE.out.trans (HB1.out.mono HBE.out.size)).mono HA.out.size))⟩
      | true =>
      cases p1 with
      | false =>
        have HFR : Hid (R = false) := Lib.hid (HNO.out (by rw [HRE.out]; simp))
        go_wp2_with fail
        refine (HCP0.out _ (HAE.out.trans (HB0.out.mono HAE.out.size))).mono ?_
        rintro e q0 ⟨rfl, hb⟩
        have HB1 := Lib.hid (HB0.out.trans (hb.mono HB0.out.size))
        clear hb b0 b1 b2 b3 b4 b5
        obtain ⟨b0, b1, b2, b3, b4, b5⟩ := HCE.out _ HB1.out
        go_wp2_with fail
        refine (HCP1.out _ (HAE.out.trans (HB1.out.mono HAE.out.size))).mono ?_
        rintro e q1 ⟨rfl, hb⟩
        have HB2 := Lib.hid (HB1.out.trans (hb.mono HB1.out.size))
        clear hb b0 b1 b2 b3 b4 b5
        obtain ⟨b0, b1, b2, b3, b4, b5⟩ := HCE.out _ HB2.out
        go_wp2_with fail
        go_ret
        exact ⟨by rw [HFR.out]; rfl, (HA.out.trans ((HBE.out.trans (HB2.out.mono HBE.out.size)).mono HA.out.size))⟩
      | true =>
      cases p2 with
      | false =>
        have HFR : Hid (R = false) := Lib.hid (HNO.out (by rw [HRE.out]; simp))
        go_wp2_with fail
        refine (HCP0.out _ (HAE.out.trans (HB0.out.mono HAE.out.size))).mono ?_
        rintro e q0 ⟨rfl, hb⟩
        have HB1 := Lib.hid (HB0.out.trans (hb.mono HB0.out.size))
        clear hb b0 b1 b2 b3 b4 b5
        obtain ⟨b0, b1, b2, b3, b4, b5⟩ := HCE.out _ HB1.out
        go_wp2_with fail
        refine (HCP1.out _ (HAE.out.trans (HB1.out.mono HAE.out.size))).mono ?_
        rintro e q1 ⟨rfl, hb⟩
        have HB2 := Lib.hid (HB1.out.trans (hb.mono HB1.out.size))
        clear hb b0 b1 b2 b3 b4 b5
        obtain ⟨b0, b1, b2, b3, b4, b5⟩ := HCE.out _ HB2.out
        go_wp2_with fail
        refine (HCP2.out _ (HAE.out.trans (HB2.out.mono HAE.out.size))).mono ?_
        rintro e q2 ⟨rfl, hb⟩
        have HB3 := Lib.hid (HB2.out.trans (hb.mono HB2.out.size))
        clear hb b0 b1 b2 b3 b4 b5
        obtain ⟨b0, b1, b2, b3, b4, b5⟩ := HCE.out _ HB3.out
        go_wp2_with fail
        go_ret
        exact ⟨by rw [HFR.out]; rfl, (HA.out.trans ((HBE.out.trans (HB3.out.mono HBE.out.size)).mono HA.out.size))⟩
      | true =>
      cases p3 with
      | false =>
        have HFR : Hid (R = false) := Lib.hid (HNO.out (by rw [HRE.out]; simp))
        go_wp2_with fail
        refine (HCP0.out _ (HAE.out.trans (HB0.out.mono HAE.out.size))).mono ?_
        rintro e q0 ⟨rfl, hb⟩
        have HB1 := Lib.hid (HB0.out.trans (hb.mono HB0.out.size))
        clear hb b0 b1 b2 b3 b4 b5
        obtain ⟨b0, b1, b2, b3, b4, b5⟩ := HCE.out _ HB1.out
        go_wp2_with fail
        refine (HCP1.out _ (HAE.out.trans (HB1.out.mono HAE.out.size))).mono ?_
        rintro e q1 ⟨rfl, hb⟩
        have HB2 := Lib.hid (HB1.out.trans (hb.mono HB1.out.size))
        clear hb b0 b1 b2 b3 b4 b5
        obtain ⟨b0, b1, b2, b3, b4, b5⟩ := HCE.out _ HB2.out
        go_wp2_with fail
        refine (HCP2.out _ (HAE.out.trans (HB2.out.mono HAE.out.size))).mono ?_
        rintro e q2 ⟨rfl, hb⟩
        have HB3 := Lib.hid (HB2.out.trans (hb.mono HB2.out.size))
        clear hb b0 b1 b2 b3 b4 b5
        obtain ⟨b0, b1, b2, b3, b4, b5⟩ := HCE.out _ HB3.out
        go_wp2_with fail
        refine (HCP3.out _ (HAE.out.trans (HB3.out.mono HAE.out.size))).mono ?_
        rintro e q3 ⟨rfl, hb⟩
        have HB4 := Lib.hid (HB3.out.trans (hb.mono HB3.out.size))
        clear hb b0 b1 b2 b3 b4 b5
        obtain ⟨b0, b1, b2, b3, b4, b5⟩ := HCE.out _ HB4.out
        go_wp2_with fail
        go_ret
        exact ⟨by rw [HFR.out]; rfl, (HA.out.trans ((HBE.out.trans (HB4.out.mono HBE.out.size)).mono HA.out.size))⟩
      | true =>
      cases ce with
      | true =>
        have HFR : Hid (R = false) := Lib.hid (HNO.out (by rw [HRE.out]; simp))
        go_wp2_with fail
        refine (HCP0.out _ (HAE.out.trans (HB0.out.mono HAE.out.size))).mono ?_
        rintro e q0 ⟨rfl, hb⟩
        have HB1 := Lib.hid (HB0.out.trans (hb.mono HB0.out.size))
        clear hb b0 b1 b2 b3 b4 b5
        obtain ⟨b0, b1, b2, b3, b4, b5⟩ := HCE.out _ HB1.out
        go_wp2_with fail
        refine (HCP1.out _ (HAE.out.trans (HB1.out.mono HAE.out.size))).mono ?_
        rintro e q1 ⟨rfl, hb⟩
        have HB2 := Lib.hid (HB1.out.trans (hb.mono HB1.out.size))
        clear hb b0 b1 b2 b3 b4 b5
        obtain ⟨b0, b1, b2, b3, b4, b5⟩ := HCE.out _ HB2.out
        go_wp2_with fail
        refine (HCP2.out _ (HAE.out.trans (HB2.out.mono HAE.out.size))).mono ?_
        rintro e q2 ⟨rfl, hb⟩
        have HB3 := Lib.hid (HB2.out.trans (hb.mono HB2.out.size))
        clear hb b0 b1 b2 b3 b4 b5
        obtain ⟨b0, b1, b2, b3, b4, b5⟩ := HCE.out _ HB3.out
        go_wp2_with fail
        refine (HCP3.out _ (HAE.out.trans (HB3.out.mono HAE.out.size))).mono ?_
        rintro e q3 ⟨rfl, hb⟩
        have HB4 := Lib.hid (HB3.out.trans (hb.mono HB3.out.size))
        clear hb b0 b1 b2 b3 b4 b5
        obtain ⟨b0, b1, b2, b3, b4, b5⟩ := HCE.out _ HB4.out
        go_wp2_with fail
        go_ret
        exact ⟨by rw [HFR.out]; rfl, (HA.out.trans ((HBE.out.trans (HB4.out.mono HBE.out.size)).mono HA.out.size))⟩
      | false =>
      cases de with
      | false =>
        cases pr with
        | false =>
          have HFR : Hid (R = false) := Lib.hid (HNO.out (by rw [HRE.out]; simp))
          go_wp2_with fail
          refine (HCP0.out _ (HAE.out.trans (HB0.out.mono HAE.out.size))).mono ?_
          rintro e q0 ⟨rfl, hb⟩
          have HB1 := Lib.hid (HB0.out.trans (hb.mono HB0.out.size))
          clear hb b0 b1 b2 b3 b4 b5
          obtain ⟨b0, b1, b2, b3, b4, b5⟩ := HCE.out _ HB1.out
          go_wp2_with fail
          refine (HCP1.out _ (HAE.out.trans (HB1.out.mono HAE.out.size))).mono ?_
          rintro e q1 ⟨rfl, hb⟩
          have HB2 := Lib.hid (HB1.out.trans (hb.mono HB1.out.size))
          clear hb b0 b1 b2 b3 b4 b5
          obtain ⟨b0, b1, b2, b3, b4, b5⟩ := HCE.out _ HB2.out
          go_wp2_with fail
          refine (HCP2.out _ (HAE.out.trans (HB2.out.mono HAE.out.size))).mono ?_
          rintro e q2 ⟨rfl, hb⟩
          have HB3 := Lib.hid (HB2.out.trans (hb.mono HB2.out.size))
          clear hb b0 b1 b2 b3 b4 b5
          obtain ⟨b0, b1, b2, b3, b4, b5⟩ := HCE.out _ HB3.out
          go_wp2_with fail
          refine (HCP3.out _ (HAE.out.trans (HB3.out.mono HAE.out.size))).mono ?_
          rintro e q3 ⟨rfl, hb⟩
          have HB4 := Lib.hid (HB3.out.trans (hb.mono HB3.out.size))
          clear hb b0 b1 b2 b3 b4 b5
          obtain ⟨b0, b1, b2, b3, b4, b5⟩ := HCE.out _ HB4.out
          go_wp2_with fail
          refine (HCR.out _).mono ?_
          rintro e q4 ⟨rfl, hb⟩
          have HB5 := Lib.hid (HB4.out.trans (hb.mono HB4.out.size))
          clear hb b0 b1 b2 b3 b4 b5
          obtain ⟨b0, b1, b2, b3, b4, b5⟩ := HCE.out _ HB5.out
          go_wp2_with fail
          go_ret
          exact ⟨by rw [HFR.out]; rfl, (HA.out.trans ((HBE.out.trans (HB5.out.mono HBE.out.size)).mono HA.out.size))⟩
        | true =>
          go_wp2_with fail
          refine (HCP0.out _ (HAE.out.trans (HB0.out.mono HAE.out.size))).mono ?_
          rintro e q0 ⟨rfl, hb⟩
          have HB1 := Lib.hid (HB0.out.trans (hb.mono HB0.out.size))
          clear hb b0 b1 b2 b3 b4 b5
          obtain ⟨b0, b1, b2, b3, b4, b5⟩ := HCE.out _ HB1.out
          go_wp2_with fail
          refine (HCP1.out _ (HAE.out.trans (HB1.out.mono HAE.out.size))).mono ?_
          rintro e q1 ⟨rfl, hb⟩
          have HB2 := Lib.hid (HB1.out.trans (hb.mono HB1.out.size))
          clear hb b0 b1 b2 b3 b4 b5
          obtain ⟨b0, b1, b2, b3, b4, b5⟩ := HCE.out _ HB2.out
          go_wp2_with fail
          refine (HCP2.out _ (HAE.out.trans (HB2.out.mono HAE.out.size))).mono ?_
          rintro e q2 ⟨rfl, hb⟩
          have HB3 := Lib.hid (HB2.out.trans (hb.mono HB2.out.size))
          clear hb b0 b1 b2 b3 b4 b5
          obtain ⟨b0, b1, b2, b3, b4, b5⟩ := HCE.out _ HB3.out
          go_wp2_with fail
          refine (HCP3.out _ (HAE.out.trans (HB3.out.mono HAE.out.size))).mono ?_
          rintro e q3 ⟨rfl, hb⟩
          have HB4 := Lib.hid (HB3.out.trans (hb.mono HB3.out.size))
          clear hb b0 b1 b2 b3 b4 b5
          obtain ⟨b0, b1, b2, b3, b4, b5⟩ := HCE.out _ HB4.out
          go_wp2_with fail
          refine (HCR.out _).mono ?_
          rintro e q4 ⟨rfl, hb⟩
          have HB5 := Lib.hid (HB4.out.trans (hb.mono HB4.out.size))
          clear hb b0 b1 b2 b3 b4 b5
          obtain ⟨b0, b1, b2, b3, b4, b5⟩ := HCE.out _ HB5.out
          have HRE := Lib.hid (show rightE x = x.cmd.all comB by rw [HRE.out]; simp)
          have hz := mk_size x.cmd
          have hcl3 := HSM.out.c
          have HWH : Hid (∃ W0, q4 = W0) := Lib.hid ⟨_, rfl⟩
          go_wp2_with fail
          go_loopw [5] (fun i W' => ∃ m : Nat, i = .int .i64 m ∧ m ≤ x.cmd.length ∧ Hid ((x.cmd.take m).all comB = true) ∧ q4 = W') (fun i _ => x.cmd.length - (intOf i).toNat)
          case atStart => exact ⟨0, rfl, Nat.zero_le _, Lib.hid rfl, rfl⟩
          case round =>
            obtain ⟨m, rfl, hm, HM, rfl⟩ := hrel
            by_cases hlm : m < x.cmd.length
            · have hms : m < (mk x.cmd).size := by rw [hz]; exact hlm
              have hb := get_mk x.cmd hms
              obtain ⟨c, hc⟩ : ∃ c, (mk x.cmd)[m] = c := ⟨_, rfl⟩
              have hcN : ((mk x.cmd)[m].toNat : Int) = (c.toNat : Int) := by rw [hc]
              rw [hc] at hb
              have htk := com_take hb
              have hmem : c ∈ x.cmd := List.mem_of_getElem? hb
              have hno : comB c = false → R = false := fun h => HNO.out (by
                rw [HRE.out, List.all_eq_false]
                exact ⟨c, hmem, by rw [h]; simp⟩)
              have HN := Lib.hid hno
              have HTM := Lib.hid htk
              have hji : (m : Int) < (x.cmd.length : Int) := by omega
              have hm0 : (0 : Int) ≤ (m : Int) := by omega
              have hcd : comB c = (decide (32 ≤ c.toNat) && decide (c.toNat ≤ 126)) := rfl
              have HCD := Lib.hid hcd
              clear hc hb hno htk hmem hcd
              by_cases h1 : c.toNat < 32
              · have d1 : (c.toNat : Int) < 32 := by omega
                have HFR : Hid (R = false) := Lib.hid (HN.out (by rw [HCD.out, decide_eq_false (by omega)]; rfl))
                go_wp2_with fail
                go_ret
                exact ⟨by rw [HFR.out]; rfl, (HA.out.trans ((HBE.out.trans (HB5.out.mono HBE.out.size)).mono HA.out.size))⟩
              · by_cases h2 : 126 < c.toNat
                · have d1 : ¬ (c.toNat : Int) < 32 := by omega
                  have d2 : (126 : Int) < (c.toNat : Int) := by omega
                  have d3 : decide ((126 : Int) < (c.toNat : Int)) = true := decide_eq_true d2
                  have HFR : Hid (R = false) := Lib.hid (HN.out (by rw [HCD.out, decide_eq_false (show ¬ c.toNat ≤ 126 by omega), Bool.and_false]))
                  go_wp2_with fail
                  go_ret
                  exact ⟨by rw [HFR.out]; rfl, (HA.out.trans ((HBE.out.trans (HB5.out.mono HBE.out.size)).mono HA.out.size))⟩
                · have d1 : ¬ (c.toNat : Int) < 32 := by omega
                  have d2 : ¬ (126 : Int) < (c.toNat : Int) := by omega
                  have d3 : decide ((126 : Int) < (c.toNat : Int)) = false := decide_eq_false d2
                  have HF : Hid (comB c = true) := Lib.hid (by rw [HCD.out, decide_eq_true (show 32 ≤ c.toNat by omega), decide_eq_true (show c.toNat ≤ 126 by omega)]; rfl)
                  go_wp2_with fail
                  go_roundw
                  case rel => exact ⟨m + 1, by go_num, by omega, Lib.hid (by rw [HTM.out, HM.out, HF.out]; rfl), trivial⟩
                  case measure => simp [intOf] <;> omega
            · have hji : ¬ (m : Int) < (x.cmd.length : Int) := by omega
              have hall : x.cmd.take m = x.cmd := List.take_of_length_le (by omega)
              rw [hall] at HM
              have HTN : Hid ((L.take (j + 1)).all rightE = true) := Lib.hid (by rw [HTK.out, hT.out, HRE.out, HM.out]; rfl)
              have HBN := Lib.hid (HBE.out.trans (HB5.out.mono HBE.out.size))
              clear hall
              go_wp2_with fail
              go_roundw
              case rel => exact ⟨j + 1, by omega, by go_num, HTN, HBN⟩
              case measure => simp [intOf] <;> omega
      | true =>
        go_wp2_with fail
        refine (HCP0.out _ (HAE.out.trans (HB0.out.mono HAE.out.size))).mono ?_
        rintro e q0 ⟨rfl, hb⟩
        have HB1 := Lib.hid (HB0.out.trans (hb.mono HB0.out.size))
        clear hb b0 b1 b2 b3 b4 b5
        obtain ⟨b0, b1, b2, b3, b4, b5⟩ := HCE.out _ HB1.out
        go_wp2_with fail
        refine (HCP1.out _ (HAE.out.trans (HB1.out.mono HAE.out.size))).mono ?_
        rintro e q1 ⟨rfl, hb⟩
        have HB2 := Lib.hid (HB1.out.trans (hb.mono HB1.out.size))
        clear hb b0 b1 b2 b3 b4 b5
        obtain ⟨b0, b1, b2, b3, b4, b5⟩ := HCE.out _ HB2.out
        go_wp2_with fail
        refine (HCP2.out _ (HAE.out.trans (HB2.out.mono HAE.out.size))).mono ?_
        rintro e q2 ⟨rfl, hb⟩
        have HB3 := Lib.hid (HB2.out.trans (hb.mono HB2.out.size))
        clear hb b0 b1 b2 b3 b4 b5
        obtain ⟨b0, b1, b2, b3, b4, b5⟩ := HCE.out _ HB3.out
        go_wp2_with fail
        refine (HCP3.out _ (HAE.out.trans (HB3.out.mono HAE.out.size))).mono ?_
        rintro e q3 ⟨rfl, hb⟩
        have HB4 := Lib.hid (HB3.out.trans (hb.mono HB3.out.size))
        clear hb b0 b1 b2 b3 b4 b5
        obtain ⟨b0, b1, b2, b3, b4, b5⟩ := HCE.out _ HB4.out
        have HRE := Lib.hid (show rightE x = x.cmd.all comB by rw [HRE.out]; simp)
        have hz := mk_size x.cmd
        have hcl3 := HSM.out.c
        have HWH : Hid (∃ W0, q3 = W0) := Lib.hid ⟨_, rfl⟩
        go_wp2_with fail
        go_loopw [5] (fun i W' => ∃ m : Nat, i = .int .i64 m ∧ m ≤ x.cmd.length ∧ Hid ((x.cmd.take m).all comB = true) ∧ q3 = W') (fun i _ => x.cmd.length - (intOf i).toNat)
        case atStart => exact ⟨0, rfl, Nat.zero_le _, Lib.hid rfl, rfl⟩
        case round =>
          obtain ⟨m, rfl, hm, HM, rfl⟩ := hrel
          by_cases hlm : m < x.cmd.length
          · have hms : m < (mk x.cmd).size := by rw [hz]; exact hlm
            have hb := get_mk x.cmd hms
            obtain ⟨c, hc⟩ : ∃ c, (mk x.cmd)[m] = c := ⟨_, rfl⟩
            have hcN : ((mk x.cmd)[m].toNat : Int) = (c.toNat : Int) := by rw [hc]
            rw [hc] at hb
            have htk := com_take hb
            have hmem : c ∈ x.cmd := List.mem_of_getElem? hb
            have hno : comB c = false → R = false := fun h => HNO.out (by
              rw [HRE.out, List.all_eq_false]
              exact ⟨c, hmem, by rw [h]; simp⟩)
            have HN := Lib.hid hno
            have HTM := Lib.hid htk
            have hji : (m : Int) < (x.cmd.length : Int) := by omega
            have hm0 : (0 : Int) ≤ (m : Int) := by omega
            have hcd : comB c = (decide (32 ≤ c.toNat) && decide (c.toNat ≤ 126)) := rfl
            have HCD := Lib.hid hcd
            clear hc hb hno htk hmem hcd
            by_cases h1 : c.toNat < 32
            · have d1 : (c.toNat : Int) < 32 := by omega
              have HFR : Hid (R = false) := Lib.hid (HN.out (by rw [HCD.out, decide_eq_false (by omega)]; rfl))
              go_wp2_with fail
              go_ret
              exact ⟨by rw [HFR.out]; rfl, (HA.out.trans ((HBE.out.trans (HB4.out.mono HBE.out.size)).mono HA.out.size))⟩
            · by_cases h2 : 126 < c.toNat
              · have d1 : ¬ (c.toNat : Int) < 32 := by omega
                have d2 : (126 : Int) < (c.toNat : Int) := by omega
                have d3 : decide ((126 : Int) < (c.toNat : Int)) = true := decide_eq_true d2
                have HFR : Hid (R = false) := Lib.hid (HN.out (by rw [HCD.out, decide_eq_false (show ¬ c.toNat ≤ 126 by omega), Bool.and_false]))
                go_wp2_with fail
                go_ret
                exact ⟨by rw [HFR.out]; rfl, (HA.out.trans ((HBE.out.trans (HB4.out.mono HBE.out.size)).mono HA.out.size))⟩
              · have d1 : ¬ (c.toNat : Int) < 32 := by omega
                have d2 : ¬ (126 : Int) < (c.toNat : Int) := by omega
                have d3 : decide ((126 : Int) < (c.toNat : Int)) = false := decide_eq_false d2
                have HF : Hid (comB c = true) := Lib.hid (by rw [HCD.out, decide_eq_true (show 32 ≤ c.toNat by omega), decide_eq_true (show c.toNat ≤ 126 by omega)]; rfl)
                go_wp2_with fail
                go_roundw
                case rel => exact ⟨m + 1, by go_num, by omega, Lib.hid (by rw [HTM.out, HM.out, HF.out]; rfl), trivial⟩
                case measure => simp [intOf] <;> omega
          · have hji : ¬ (m : Int) < (x.cmd.length : Int) := by omega
            have hall : x.cmd.take m = x.cmd := List.take_of_length_le (by omega)
            rw [hall] at HM
            have HTN : Hid ((L.take (j + 1)).all rightE = true) := Lib.hid (by rw [HTK.out, hT.out, HRE.out, HM.out]; rfl)
            have HBN := Lib.hid (HBE.out.trans (HB4.out.mono HBE.out.size))
            clear hall
            go_wp2_with fail
            go_roundw
            case rel => exact ⟨j + 1, by omega, by go_num, HTN, HBN⟩
            case measure => simp [intOf] <;> omega
    · obtain rfl : j = L.length := by omega
      rw [List.take_length] at hT
      have HFR : Hid (R = true) := Lib.hid (by rw [← HR.out, hT.out]; rfl)
      go_wp2_with fail
      go_ret
      exact ⟨by rw [HFR.out]; rfl, HA.out.trans (HB.out.mono HA.out.size)⟩
    end Go.Proofs.YtlhhpggjdbbcmaaDoor.Pr
