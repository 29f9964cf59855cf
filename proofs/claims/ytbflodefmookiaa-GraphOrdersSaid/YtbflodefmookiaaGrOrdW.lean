/-
  The law GraphOrders, walked.
-/
import Derived.Test.YtbflodefmookiaaGrUniq
import Derived.Test.YtbflodefmookiaaGrBrow
import Derived.Test.YtbflodefmookiaaGrAwake
import Derived.Test.YtbflodefmookiaaGrWrong
import Derived.Test.YtbflodefmookiaaGrOuts
namespace Go.Proofs.Ytbflodefmookiaa.Gr
open Go.RowKit Go.Maps Go.Proofs.Ytbflodefmookiaa Go.Proofs.Ytbflodefmookiaa.Pr

theorem lt_cellW {w : World} {b i : Nat} {v : Value} (h : w.cell? ⟨b, i, none⟩ = some v) : b < w.heap.size := by
  obtain ⟨C, t, x, hb⟩ := block_of_cell h
  exact lt_some hb
set_option maxRecDepth 100000 in
set_option maxHeartbeats 32000000 in
theorem graphOrders_w {w : World} {u0 u1 : Value} {L : List Ed} {D : List Bs}  (hL : Eds w u0 L) (hD : Strs w u1 D) :
    Calls Try.prog 5 #[.agg #[u0, u1]] w fun e w' => e = .returned (.bool true) ∧ Below w.heap.size w w' := by
  have hA := below_alloc w (.cells #[u0, u1] 25)
  have hb := heap_alloc_new w (.cells #[u0, u1] 25)
  obtain ⟨wB, hwB⟩ : ∃ wB, w.alloc (.cells #[u0, u1] 25) = wB := ⟨_, rfl⟩
  rw [hwB] at hA hb
  obtain ⟨a0, k0, rfl, -, -⟩ := id hL
  obtain ⟨a1, k1, rfl, -, -⟩ := id hD
  obtain ⟨bb, hbb⟩ : ∃ bb, w.heap.size = bb := ⟨_, rfl⟩
  have HC : Hid (∀ W, Below wB.heap.size wB W → W.cell? ⟨bb, 0, none⟩ = some (.slice a0 L.length k0) ∧ W.cell? ⟨bb, 1, none⟩ = some (.slice a1 D.length k1)) := Lib.hid fun W hW => by
    rw [← hbb]
    have h1 := (hW.block _ (lt_some hb)).trans hb
    constructor <;> (rw [Lib.cell_of_heap h1]; rfl)
  have HCB : Hid (wB.heap[bb]? = some (.cells #[.slice a0 L.length k0, .slice a1 D.length k1] 25 (0, 0))) := Lib.hid (by rw [← hbb]; exact hb)
  have hfew := few_c (hL.below hA) (hD.below hA)
  obtain ⟨c0, c1⟩ := HC.out wB (Below.refl _ _)
  have HL := Lib.hid (hL.below hA)
  have HD := Lib.hid (hD.below hA)
  have HA := Lib.hid hA
  have HWB := Lib.hid hwB
  clear hA hb hwB hL hD 
  go_enter Try.func5, Try.ntmps5
  go_upto_region 1 with fail
  rw [HWB.out]
  clear HWB
  go_wp2_with fail
  refine hfew.mono ?_
  rintro e w1 ⟨rfl, hb1⟩
  have HB1 := Lib.hid hb1
  clear hfew hb1 c0 c1
  cases hF : fewM L D with
  | false =>
    clear hF
    go_wp2_with fail
    go_ret
    exact ⟨rfl, HA.out.trans (HB1.out.mono HA.out.size)⟩
  | true =>
    obtain ⟨hl30, hd20, hDx, hSm⟩ := fewM_of hF
    clear hF
    obtain ⟨c0, c1⟩ := HC.out w1 HB1.out
    have hof := of_c (HL.out.below HB1.out) (HD.out.below HB1.out) hl30 hd20 hSm
    have HSM := Lib.hid hSm
    clear hDx hSm
    go_wp2_with fail
    refine hof.mono ?_
    rintro e w2 ⟨v, d, rfl, hv, hd, hb2⟩
    have HB2 := Lib.hid (HB1.out.trans (hb2.mono HB1.out.size))
    have hnew := New2_c hv hd HSM.out (by omega) (by omega)
    clear hof hv hd hb2 c0 c1
    go_wp2_with fail
    refine hnew.mono ?_
    rintro e w3 ⟨hres, -, hb3⟩
    have HB3 := Lib.hid (HB2.out.trans (hb3.mono HB2.out.size))
    clear hnew hb3
    obtain ⟨c0, c1⟩ := HC.out w3 HB3.out
    rcases hres with ⟨mkr, gp, ve, vd, m, n, hmk, hac, rfl, hG⟩ | ⟨er, hero, rfl, her⟩
    rotate_left 1
    · have hwr := wrongR_c (u1 := .slice a1 D.length k1) (HL.out.below HB3.out) HSM.out (by omega)
      have HER := Lib.hid her
      clear her
      rcases hero with rfl | rfl <;>
      · go_wp2_with fail
        refine hwr.mono ?_
        rintro e w4 ⟨⟨nn, rfl, hW⟩, hb4⟩
        have hnn := HER.out nn hW
        subst hnn
        have HB4 := Lib.hid (HB3.out.trans (hb4.mono HB3.out.size))
        clear hwr hW hb4 c0 c1
        go_wp2_with fail
        refine (awake_c w4).mono ?_
        rintro e w5 ⟨rfl, hb5⟩
        have HB5 := Lib.hid (HB4.out.trans (hb5.mono HB4.out.size))
        clear hb5
        go_wp2_with fail
        go_ret
        exact ⟨rfl, HA.out.trans (HB5.out.mono HA.out.size)⟩
    have hGn := nilG_no
    have HG := Lib.hid hG
    have HMK := Lib.hid hmk
    have HAC := Lib.hid hac
    clear hG hmk hac
    have hou := outs_c HG.out HMK.out
    clear c0 c1
    go_wp2_with fail
    refine hou.mono ?_
    rintro e w4 ⟨vK, K, rfl, hRi, hKo, hKl, hb4⟩
    have HB4 := Lib.hid (HB3.out.trans (hb4.mono HB3.out.size))
    have hG4 := HG.out.below hb4
    have hKm : ∀ s ∈ K, (mkr s).isSome = true := fun s hs => (hRi.mem s).1 hs
    have hKx : ∀ s ∈ K, s.length ≤ maxLen := fun s hs => by
      have h1 := (makers_out HMK.out s).1 (hKm s hs)
      obtain ⟨e, he, hse⟩ := List.mem_flatMap.1 h1
      have := (HSM.out e he).xo s hse
      unfold maxLen
      omega
    have hplan := plan_c hG4 (owns_strsT hKo).1 hKx (by omega)
    have HKM := Lib.hid hKm
    have HRI := Lib.hid hRi
    have HG4 := Lib.hid hG4
    clear hou hRi hKo hb4 hG4 hKm hKx
    go_wp2_with fail
    refine hplan.mono ?_
    rintro e w5 ⟨hb5, hres⟩
    rcases hres with ⟨⟨s, hs, hk⟩, -⟩ | ⟨-, vP, M, rfl, hMp, hMm, hrow⟩
    · exact absurd (.inr (HKM.out s hs)) hk
    have HB5 := Lib.hid (HB4.out.trans (hb5.mono HB4.out.size))
    have HG5 := Lib.hid (HG4.out.below hb5)
    have hcM : ∀ u ∈ M, ∀ d ∈ depsL mkr L u, d ∈ M := fun u hu d hd => (hMm d).2 (.step ((hMm u).1 hu) hd)
    have hlM : ∀ u ∈ M, u < L.length := fun u hu => ((hMm u).1 hu).lt HG.out.to
    have hacM : ∀ u ∈ M, ¬ Tc (depsL mkr L) u u := fun u hu => HAC.out u (hlM u hu)
    have hmP := mem_order hMp hcM hacM
    have hgd := order_gd (deps := depsL mkr L) hMp
    obtain ⟨⟨aP, cP, rfl⟩, -⟩ := id hrow
    obtain ⟨P, hPP⟩ : ∃ P, order (depsL mkr L) M = P := ⟨_, rfl⟩
    rw [hPP] at hmP hgd hrow ⊢
    have HGD := Lib.hid hgd
    have HPL : Hid (∀ x ∈ P, x < L.length) := Lib.hid fun x hx => hlM x ((hmP x).1 hx)
    have HOUT : Hid (∀ x e, L[x]? = some e → decide (x ∈ P) = decide (0 < e.outs.length)) := Lib.hid fun x e he => by
      refine decide_eq_decide.2 ?_
      rw [hmP, hMm]
      constructor
      · intro hr
        have hmk : ∃ s, mkr s = some x := by
          cases hr with
          | base _ h => exact ⟨_, h⟩
          | step _ hd =>
            unfold depsL at hd
            split at hd
            · obtain ⟨s, _, h⟩ := List.mem_filterMap.1 hd
              exact ⟨s, h⟩
            · cases hd
        obtain ⟨s, hs⟩ := hmk
        obtain ⟨e2, h1, h2⟩ := (makers_iff HMK.out s x).1 hs
        rw [he] at h1
        cases h1
        exact List.length_pos_of_mem h2
      · intro h0
        obtain ⟨s, hs⟩ := List.exists_mem_of_length_pos h0
        have hm := (makers_iff HMK.out s x).2 ⟨e, he, hs⟩
        exact .base ((HRI.out.mem s).2 (by rw [hm]; rfl)) hm
    have hPl : P.length ≤ 30 := by
      have := sub_len (A := P) (B := List.range L.length) hgd.nd fun x hx => List.mem_range.2 (HPL.out x hx)
      rw [List.length_range] at this
      omega
    have HRP := Lib.hid hrow
    obtain ⟨c0, c1⟩ := HC.out w5 HB5.out
    obtain ⟨hmk1, hbr1⟩ := Br.made (w := w5) (W := w5) (n := L.length) (Nat.le_refl _) (by omega)
    have hA6 := below_alloc w5 (.cells (madeCells #[.bool false] L.length) 4)
    have HBR1 : Hid (Br w5 (w5.alloc (.cells (madeCells #[.bool false] L.length) 4)) w5.heap.size L.length (fun x => decide (x ∈ P.take 0))) := Lib.hid (by simpa using hbr1)
    have HA6 := Lib.hid hA6
    obtain ⟨g1, hg1⟩ : ∃ g1, w5.heap.size = g1 := ⟨_, rfl⟩
    rw [hg1] at hmk1 HBR1
    have HGE := Lib.hid (Nat.le_of_eq hg1)
    obtain ⟨w6, hw6⟩ : ∃ w6, w5.alloc (.cells (madeCells #[.bool false] L.length) 4) = w6 := ⟨_, rfl⟩
    rw [hw6] at HBR1 HA6
    have HW6 := Lib.hid hw6
    obtain ⟨nl, hnl⟩ : ∃ nl, L.length = nl := ⟨_, rfl⟩
    have HNL := Lib.hid hnl
    rw [hnl] at HBR1 c0 hmk1 HW6 hl30 HC
    clear hplan hb5 hcM hlM hacM hmP hgd hMp hMm hrow hPP hbr1 hA6 hw6 hnl
    rw [HNL.out]
    go_upto_region 10 with fail
    rw [HW6.out]
    clear HW6 c0 c1 hmk1 hGn
    go_wp2_with fail
    go_loopw [8, 9, 10, 11, 12] (fun i _ _ _ _ W => ∃ j : Nat, j ≤ P.length ∧ i = .int .i64 j ∧ Hid (Br w5 W g1 nl (fun x => decide (x ∈ P.take j))) ∧ Hid (Below w5.heap.size w5 W)) (fun i _ _ _ _ _ => P.length - (intOf i).toNat)
    case atStart => exact ⟨0, Nat.zero_le _, rfl, HBR1, HA6⟩
    case round =>
      clear HBR1 HA6 w6
      obtain ⟨j, hj, rfl, HBR, HBW⟩ := hrel
      by_cases hlt : j < P.length
      · have hx := List.getElem?_eq_getElem hlt
        have hxl := HPL.out _ (List.getElem_mem hlt)
        generalize P[j] = x at *
        have hxe := List.getElem?_eq_getElem hxl
        have hsE := HSM.out _ (List.getElem_mem hxl)
        generalize L[x] = ed at *
        rw [HNL.out] at hxl
        obtain ⟨_, _, eR, hRr⟩ := (HRP.out.below (HBW.out.mono (Nat.le_refl _))).read
        cases eR
        rcases hRr with h | ⟨gP, oP, rfl, hgP, hcP⟩
        · rw [h] at hlt; simp at hlt
        have m0 := hcP j _ hx
        have t1 := HBR.out.cell hxl
        have hnt : x ∉ P.take j := at_not_take HGD.out.nd hx
        rw [decide_eq_false hnt] at t1
        have HBWB := Lib.hid (HB5.out.trans (HBW.out.mono HB5.out.size))
        obtain ⟨c0, c1⟩ := HC.out wr HBWB.out
        obtain ⟨ge, off, ce, v0, v1, v2, v3, e1, hge, hE, r0, r1, r2, r3, r4, r5⟩ := (HL.out.below HBWB.out).at hxe
        rw [HNL.out] at e1
        cases e1
        obtain ⟨y0, z0, y1, z1, y2, z2, y3, z3, rfl, rfl, rfl, rfl⟩ := hE.sl
        have hnd := needsR_c (w := wr.drew) (hE.below ⟨rfl, rfl, rfl, Nat.le_refl _, fun _ _ => rfl⟩) (by have := hsE.i; omega) (by have := hsE.m; omega) (by have := hsE.r; omega)
        have hnd2 := hnd.mono (R' := fun e w' => (∃ v, e = .returned v ∧ StrsT w' v (needsL ed) ∧ Below wr.heap.size wr w') ∧ (w'.cell? ⟨bb, 0, none⟩ = some (.slice (some ⟨ge, off, none⟩) nl k0) ∧ w'.cell? ⟨gP, oP + j, none⟩ = some (.int .i64 (x : Int)) ∧ w'.cell? ⟨ge, off + x * 6, none⟩ = some (.slice y0 ed.outs.length z0) ∧ w'.cell? ⟨ge, off + x * 6 + 1, none⟩ = some (.slice y1 ed.ins.length z1) ∧ w'.cell? ⟨ge, off + x * 6 + 2, none⟩ = some (.slice y2 ed.imp.length z2) ∧ w'.cell? ⟨ge, off + x * 6 + 3, none⟩ = some (.slice y3 ed.ord.length z3) ∧ w'.cell? ⟨ge, off + x * 6 + 4, none⟩ = some (.string (mk ed.cmd)) ∧ w'.cell? ⟨ge, off + x * 6 + 5, none⟩ = some (.string (mk ed.dep)))) fun e w' ⟨v, h1, h2, _, h3⟩ => by
          have h5 : Below wr.heap.size wr w' := ⟨h3.os, h3.tape, h3.output, h3.size, h3.block⟩
          have hbb := lt_cellW c0
          exact ⟨⟨v, h1, h2, h5⟩, (cell_of_block (h5.block bb hbb)).trans c0, (cell_of_block (h5.block gP hgP)).trans m0, (cell_of_block (h5.block ge hge)).trans r0, (cell_of_block (h5.block ge hge)).trans r1, (cell_of_block (h5.block ge hge)).trans r2, (cell_of_block (h5.block ge hge)).trans r3, (cell_of_block (h5.block ge hge)).trans r4, (cell_of_block (h5.block ge hge)).trans r5⟩
        have k0' : wr.drew.cell? ⟨bb, 0, none⟩ = some (.slice (some ⟨ge, off, none⟩) nl k0) ∧ wr.drew.cell? ⟨gP, oP + j, none⟩ = some (.int .i64 (x : Int)) ∧ wr.drew.cell? ⟨ge, off + x * 6, none⟩ = some (.slice y0 ed.outs.length z0) ∧ wr.drew.cell? ⟨ge, off + x * 6 + 1, none⟩ = some (.slice y1 ed.ins.length z1) ∧ wr.drew.cell? ⟨ge, off + x * 6 + 2, none⟩ = some (.slice y2 ed.imp.length z2) ∧ wr.drew.cell? ⟨ge, off + x * 6 + 3, none⟩ = some (.slice y3 ed.ord.length z3) ∧ wr.drew.cell? ⟨ge, off + x * 6 + 4, none⟩ = some (.string (mk ed.cmd)) ∧ wr.drew.cell? ⟨ge, off + x * 6 + 5, none⟩ = some (.string (mk ed.dep)) := ⟨c0, m0, r0, r1, r2, r3, r4, r5⟩
        have hj0 : (0 : Int) ≤ (j : Int) := by omega
        have hj1 : (j : Int) < (P.length : Int) := by omega
        have hx0 : (0 : Int) ≤ (x : Int) := by omega
        have hx1 : (x : Int) < (nl : Int) := by omega
        have hx2 : ¬ (x : Int) < 0 := by omega
        have hx3 : ¬ (nl : Int) ≤ (x : Int) := by omega
        have HX := Lib.hid hx
        have HXE := Lib.hid hxe
        have HSE := Lib.hid hsE
        clear hx hxe hsE hcP hE hnd hnt
        go_wp2_with fail
        go_region_held3 (fun w' => w'.cell? ⟨bb, 0, none⟩ = some (.slice (some ⟨ge, off, none⟩) nl k0) ∧ w'.cell? ⟨gP, oP + j, none⟩ = some (.int .i64 (x : Int)) ∧ w'.cell? ⟨ge, off + x * 6, none⟩ = some (.slice y0 ed.outs.length z0) ∧ w'.cell? ⟨ge, off + x * 6 + 1, none⟩ = some (.slice y1 ed.ins.length z1) ∧ w'.cell? ⟨ge, off + x * 6 + 2, none⟩ = some (.slice y2 ed.imp.length z2) ∧ w'.cell? ⟨ge, off + x * 6 + 3, none⟩ = some (.slice y3 ed.ord.length z3) ∧ w'.cell? ⟨ge, off + x * 6 + 4, none⟩ = some (.string (mk ed.cmd)) ∧ w'.cell? ⟨ge, off + x * 6 + 5, none⟩ = some (.string (mk ed.dep)))
          (first | exact k0' | exact k1)
          (first
            | (go_at_call 32; (with_reducible refine hnd2.mono ?_); rintro e w7 ⟨⟨vN, rfl, hS, hb7⟩, k1⟩))
        clear hnd2 k0' k1 c0 c1 r0 r1 r2 r3 r4 r5 m0 t1
        have HBW7 := Lib.hid (HBW.out.trans (hb7.mono HBW.out.size))
        have HBR7 := Lib.hid (HBR.out.below hb7)
        have HSt := Lib.hid hS
        obtain ⟨⟨aN, cN, rfl, -, -⟩, -⟩ := id hS
        have HSX : Hid ((needsL ed).length ≤ 30 ∧ ∀ y ∈ needsL ed, y.length ≤ 200) := Lib.hid (by
          have hsE := HSE.out
          refine ⟨by have := hsE.i; have := hsE.m; have := hsE.r; simp [needsL]; omega, fun y hy => ?_⟩
          simp only [needsL, List.mem_append] at hy
          rcases hy with (hy | hy) | hy
          · exact hsE.xi y hy
          · exact hsE.xm y hy
          · exact hsE.xr y hy)
        obtain ⟨R, hR⟩ : ∃ R, needsL ed = R := ⟨_, rfl⟩
        have HRR := Lib.hid hR
        rw [hR] at HSX HSt ⊢
        clear hS hb7 HBW HBR hR
        go_wp2_with fail
        go_loopw [10, 11, 12] (fun i _ _ W => ∃ q : Nat, q ≤ R.length ∧ i = .int .i64 q ∧ Hid (Below w7.heap.size w7 W)) (fun i _ _ _ => R.length - (intOf i).toNat)
        case atStart => exact ⟨0, Nat.zero_le _, rfl, Lib.hid (Below.refl _ _)⟩
        case round =>
          obtain ⟨q, hq, rfl, HB8⟩ := hrel
          by_cases hlq : q < R.length
          · have hx := List.getElem?_eq_getElem hlq
            have hsl := HSX.out.2 _ (List.getElem_mem hlq)
            have hRl := HSX.out.1
            generalize R[q] = s at *
            obtain ⟨_, _, eS, _, hSr⟩ := HSt.out.1.below HB8.out
            cases eS
            rcases hSr with h | ⟨gS, oS, rfl, hgS, hcS⟩
            · rw [h] at hlq; simp at hlq
            have s0 := hcS q s hx
            have hmk := maker_c (s := s) (HG5.out.below ((HBW7.out.trans (HB8.out.mono HBW7.out.size)).mono (Nat.le_refl _))) (by unfold maxLen; omega)
            have hq0 : (0 : Int) ≤ (q : Int) := by omega
            have hq1 : (q : Int) < (R.length : Int) := by omega
            have HXQ := Lib.hid hx
            cases hms : mkr s with
            | none =>
              rw [hms] at hmk
              clear hx hcS hms
              go_wp2_with fail
              refine hmk.mono ?_
              rintro e w9 ⟨rfl, rfl⟩
              simp only [Option.isSome_none, Option.getD_none]
              go_wp2_with fail
              go_roundw
              case rel => exact ⟨q + 1, by omega, by go_num, HB8⟩
              case measure => simp [intOf]; omega
            | some dd =>
              have hdP : dd ∈ P.take j := HGD.out.ahead j x HX.out dd (by
                unfold depsL
                rw [HXE.out]
                exact List.mem_filterMap.2 ⟨s, by rw [HRR.out]; exact List.mem_of_getElem? HXQ.out, hms⟩)
              have hdn : dd < nl := by
                have := HPL.out dd (List.mem_of_mem_take hdP)
                rw [HNL.out] at this
                exact this
              have t2 := (HBR7.out.below HB8.out).cell hdn
              rw [decide_eq_true hdP] at t2
              rw [hms] at hmk
              have hd0 : (0 : Int) ≤ (dd : Int) := by omega
              have hd1 : (dd : Int) < (nl : Int) := by omega
              clear hx hcS hms hdP
              go_wp2_with fail
              refine hmk.mono ?_
              rintro e w9 ⟨rfl, rfl⟩
              simp only [Option.isSome_some, Option.getD_some]
              go_wp2_with fail
              go_roundw
              case rel => exact ⟨q + 1, by omega, by go_num, HB8⟩
              case measure => simp [intOf]; omega
          · obtain rfl : q = R.length := by omega
            have HBW9 := Lib.hid (HBW7.out.trans (HB8.out.mono HBW7.out.size))
            have HBR9 := Lib.hid (HBR7.out.below HB8.out)
            obtain ⟨_, _, eR, hRr⟩ := (HRP.out.below (HBW9.out.mono (Nat.le_refl _))).read
            cases eR
            rcases hRr with h | ⟨_, _, e2, hgP2, hcP2⟩
            · rw [h] at hlt; simp at hlt
            cases e2
            have m0 := hcP2 j _ HX.out
            have t1 := HBR9.out.cell hxl
            have tf := HBR9.out.frz x
            have htk : ∀ y, y ∈ P.take (j + 1) ↔ y ∈ P.take j ∨ y = x := fun y => by rw [List.take_add_one, HX.out]; simp
            obtain ⟨hbr2, -, hb2, -⟩ := HBR9.out.set x (b' := fun y => decide (y ∈ P.take (j + 1))) (fun y => by
              by_cases e : y = x
              · subst e; simp [htk]
              · simp [htk, e])
            have hb3 := hb2 _ HBW9.out HGE.out
            obtain ⟨W1, hW1⟩ : ∃ W1, wr.setCell ⟨g1, x, none⟩ (.bool true) = W1 := ⟨_, rfl⟩
            rw [hW1] at hbr2 hb3
            have HBR2 := Lib.hid hbr2
            have HB2 := Lib.hid hb3
            have HW1 := Lib.hid hW1
            clear hcP2 htk hbr2 hb2 hb3 hW1
            go_upto_region 12 with fail
            rw [HW1.out]
            clear HW1 m0 t1 tf
            go_wp2_with fail
            go_roundw
            case rel => exact ⟨j + 1, by omega, by go_num, HBR2, HB2⟩
            case measure => simp [intOf]; omega
      · obtain rfl : j = P.length := by omega
        have HBRF : Hid (Br w5 wr g1 nl (fun x => decide (x ∈ P))) := Lib.hid (by
          have := HBR.out
          rwa [List.take_length] at this)
        clear HBR
        generalize wr = w8 at *
        go_wp2_with fail
        go_loopw [13] (fun i W => ∃ q : Nat, q ≤ nl ∧ i = .int .i64 q ∧ Hid (Below w8.heap.size w8 W)) (fun i _ => nl - (intOf i).toNat)
        case atStart => exact ⟨0, Nat.zero_le _, rfl, Lib.hid (Below.refl _ _)⟩
        case round =>
          obtain ⟨q, hq, rfl, HB8⟩ := hrel
          by_cases hlq : q < nl
          · have hlq2 : q < L.length := by rw [HNL.out]; exact hlq
            have hxe := List.getElem?_eq_getElem hlq2
            generalize L[q] = ed at *
            have hdone := HOUT.out q ed hxe
            have t0 := (HBRF.out.below HB8.out).cell hlq
            rw [hdone] at t0
            have HBWB := Lib.hid (HB5.out.trans ((HBW.out.trans (HB8.out.mono HBW.out.size)).mono HB5.out.size))
            obtain ⟨c0, c1⟩ := HC.out wr HBWB.out
            obtain ⟨ge, off, ce, v0, v1, v2, v3, e1, hge, hE, r0, r1, r2, r3, r4, r5⟩ := (HL.out.below HBWB.out).at hxe
            rw [HNL.out] at e1
            cases e1
            obtain ⟨y0, z0, y1, z1, y2, z2, y3, z3, rfl, rfl, rfl, rfl⟩ := hE.sl
            have hq0 : (0 : Int) ≤ (q : Int) := by omega
            have hq1 : (q : Int) < (nl : Int) := by omega
            obtain ⟨on, hon⟩ : ∃ on, ed.outs.length = on := ⟨_, rfl⟩
            rw [hon] at r0 t0
            clear hxe hE hdone hlq2 hge
            by_cases h0 : 0 < on
            · have h1 : (0 : Int) < (on : Int) := by omega
              have h2 : decide ((0 : Int) < (on : Int)) = true := decide_eq_true h1
              rw [decide_eq_true h0] at t0
              go_wp2_with fail
              go_quiet (fail)
              go_wp2_with fail
              go_roundw
              case rel => exact ⟨q + 1, by omega, by go_num, Lib.hid (bel_drawn HB8.out _)⟩
              case measure => simp [intOf]; omega
            · have h1 : ¬ (0 : Int) < (on : Int) := by omega
              have h2 : decide ((0 : Int) < (on : Int)) = false := decide_eq_false h1
              rw [decide_eq_false h0] at t0
              go_wp2_with fail
              go_quiet (fail)
              go_wp2_with fail
              go_roundw
              case rel => exact ⟨q + 1, by omega, by go_num, Lib.hid (bel_drawn HB8.out _)⟩
              case measure => simp [intOf]; omega
          · obtain rfl : q = nl := by omega
            have HBF := Lib.hid (HB5.out.trans ((HBW.out.trans (HB8.out.mono HBW.out.size)).mono HB5.out.size))
            go_wp2_with fail
            refine (awake_c wr).mono ?_
            rintro e w11 ⟨rfl, hb11⟩
            have HB11 := Lib.hid (HBF.out.trans (hb11.mono HBF.out.size))
            clear hb11
            go_wp2_with fail
            go_ret
            exact ⟨rfl, HA.out.trans (HB11.out.mono HA.out.size)⟩
end Go.Proofs.Ytbflodefmookiaa.Gr
