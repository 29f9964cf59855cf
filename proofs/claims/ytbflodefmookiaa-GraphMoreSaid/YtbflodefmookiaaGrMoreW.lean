/-
  The law GraphMore, walked.
-/
import Derived.Test.YtbflodefmookiaaGrUniq
import Derived.Test.YtbflodefmookiaaGrBrow
import Derived.Test.YtbflodefmookiaaGrAwake
import Derived.Test.YtbflodefmookiaaGrWrong
namespace Go.Proofs.Ytbflodefmookiaa.Gr
open Go.RowKit Go.Maps Go.Proofs.Ytbflodefmookiaa Go.Proofs.Ytbflodefmookiaa.Pr

theorem strs_take {w : World} {a : Option Addr} {c k : Nat} {K : List Bs} (h : Strs w (.slice a K.length c) K) (hk : k ≤ K.length) : Strs w (.slice a k c) (K.take k) := by
  obtain ⟨_, _, e, hc, h⟩ := h
  cases e
  have hl : (K.take k).length = k := by rw [List.length_take]; omega
  refine ⟨a, c, by rw [hl], by omega, ?_⟩
  rcases h with h | ⟨g, off, e, hg, hcell⟩
  · exact .inl (by rw [h]; simp)
  · refine .inr ⟨g, off, e, hg, fun j p hp => hcell j p ?_⟩
    have hj : j < k := by
      have := (List.getElem?_eq_some_iff.1 hp).1
      omega
    rwa [List.getElem?_take_of_lt hj] at hp

set_option maxRecDepth 100000 in
set_option maxHeartbeats 32000000 in
theorem graphMore_w {w : World} {u0 u1 : Value} {L : List Ed} {D : List Bs} {u2 : Value} {K : List Bs} {at0 : Nat} (hK : Strs w u2 K) (hKl : ∀ x ∈ K, x.length ≤ maxLen) (ha : at0 < 256) (hL : Eds w u0 L) (hD : Strs w u1 D) :
    Calls Try.prog 6 #[.agg #[u0, u1], u2, .int .u8 (at0 : Int)] w fun e w' => e = .returned (.bool true) ∧ Below w.heap.size w w' := by
  have hA := below_alloc w (.cells #[u0, u1] 25)
  have hb := heap_alloc_new w (.cells #[u0, u1] 25)
  obtain ⟨wB, hwB⟩ : ∃ wB, w.alloc (.cells #[u0, u1] 25) = wB := ⟨_, rfl⟩
  rw [hwB] at hA hb
  obtain ⟨a0, k0, rfl, -, -⟩ := id hL
  obtain ⟨a1, k1, rfl, -, -⟩ := id hD
  obtain ⟨bb, hbb⟩ : ∃ bb, w.heap.size = bb := ⟨_, rfl⟩
  have HC : Hid (∀ W, Below wB.heap.size wB W → W.cell? ⟨bb, 0, none⟩ = some (.slice a0 L.length k0) ∧ W.cell? ⟨bb, 1, none⟩ = some (.slice a1 D.length k1)) := Lib.hid fun W hW => by
    rw [← hbb]
    have h1 := (hW.block _ (lt_some hb)).trans hb
    constructor <;> (rw [Lib.cell_of_heap h1]; rfl)
  have HCB : Hid (wB.heap[bb]? = some (.cells #[.slice a0 L.length k0, .slice a1 D.length k1] 25 (0, 0))) := Lib.hid (by rw [← hbb]; exact hb)
  have hfew := few_c (hL.below hA) (hD.below hA)
  obtain ⟨c0, c1⟩ := HC.out wB (Below.refl _ _)
  have HL := Lib.hid (hL.below hA)
  have HD := Lib.hid (hD.below hA)
  have HA := Lib.hid hA
  have HWB := Lib.hid hwB
  obtain ⟨aK, cK, rfl, hKc, -⟩ := id hK
  have HK := Lib.hid (hK.below hA)
  have HKL := Lib.hid hKl
  clear hA hb hwB hL hD hK hKl
  go_enter Try.func6, Try.ntmps6
  go_upto_region 1 with fail
  rw [HWB.out]
  clear HWB
  go_wp2_with fail
  refine hfew.mono ?_
  rintro e w1 ⟨rfl, hb1⟩
  have HB1 := Lib.hid hb1
  clear hfew hb1 c0 c1
  cases hF : fewM L D with
  | false =>
    clear hF
    go_wp2_with fail
    go_ret
    exact ⟨rfl, HA.out.trans (HB1.out.mono HA.out.size)⟩
  | true =>
    obtain ⟨hl30, hd20, hDx, hSm⟩ := fewM_of hF
    clear hF
    by_cases h20 : 20 < K.length
    · have d0 : (20 : Int) < (K.length : Int) := by omega
      have d1 : decide ((20 : Int) < (K.length : Int)) = true := decide_eq_true d0
      clear h20
      go_wp2_with fail
      go_ret
      exact ⟨rfl, HA.out.trans (HB1.out.mono HA.out.size)⟩
    have d0 : ¬ (20 : Int) < (K.length : Int) := by omega
    have d1 : decide ((20 : Int) < (K.length : Int)) = false := decide_eq_false d0
    obtain ⟨c0, c1⟩ := HC.out w1 HB1.out
    have hof := of_c (HL.out.below HB1.out) (HD.out.below HB1.out) hl30 hd20 hSm
    have HSM := Lib.hid hSm
    clear hDx hSm
    go_wp2_with fail
    refine hof.mono ?_
    rintro e w2 ⟨v, d, rfl, hv, hd, hb2⟩
    have HB2 := Lib.hid (HB1.out.trans (hb2.mono HB1.out.size))
    have hnew := New2_c hv hd HSM.out (by omega) (by omega)
    clear hof hv hd hb2 c0 c1
    go_wp2_with fail
    refine hnew.mono ?_
    rintro e w3 ⟨hres, -, hb3⟩
    have HB3 := Lib.hid (HB2.out.trans (hb3.mono HB2.out.size))
    clear hnew hb3
    obtain ⟨c0, c1⟩ := HC.out w3 HB3.out
    rcases hres with ⟨mkr, gp, ve, vd, m, n, hmk, hac, rfl, hG⟩ | ⟨er, hero, rfl, her⟩
    rotate_left 1
    · have hwr := wrongR_c (u1 := .slice a1 D.length k1) (HL.out.below HB3.out) HSM.out (by omega)
      have HER := Lib.hid her
      clear her
      rcases hero with rfl | rfl <;>
      · go_wp2_with fail
        refine hwr.mono ?_
        rintro e w4 ⟨⟨nn, rfl, hW⟩, hb4⟩
        have hnn := HER.out nn hW
        subst hnn
        have HB4 := Lib.hid (HB3.out.trans (hb4.mono HB3.out.size))
        clear hwr hW hb4 c0 c1
        go_wp2_with fail
        refine (awake_c w4).mono ?_
        rintro e w5 ⟨rfl, hb5⟩
        have HB5 := Lib.hid (HB4.out.trans (hb5.mono HB4.out.size))
        clear hb5
        go_wp2_with fail
        go_ret
        exact ⟨rfl, HA.out.trans (HB5.out.mono HA.out.size)⟩
    have hGn := nilG_no
    have HG := Lib.hid hG
    have HMK := Lib.hid hmk
    have HAC := Lib.hid hac
    clear hG hmk hac
    obtain ⟨kk, hkk, hkle⟩ : ∃ kk : Nat, (at0 : Int) % ((K.length : Int) + 1) = (kk : Int) ∧ kk ≤ K.length := ⟨at0 % (K.length + 1), by simp, by have := Nat.mod_lt at0 (show 0 < K.length + 1 by omega); omega⟩
    have hplan := plan_c HG.out (HK.out.below HB3.out) HKL.out (by omega)
    clear c0 c1
    go_wp2_with fail
    rw [hkk]
    clear hkk
    refine hplan.mono ?_
    rintro e w4 ⟨hb4, hres⟩
    have HB4 := Lib.hid (HB3.out.trans (hb4.mono HB3.out.size))
    have HG4 := Lib.hid (HG.out.below hb4)
    have hKt := strs_take (HK.out.below HB4.out) hkle
    have hplan2 := plan_c HG4.out hKt (fun x hx => HKL.out x (List.mem_of_mem_take hx)) (by rw [List.length_take]; omega)
    have q0 : (0 : Int) ≤ (kk : Int) := by omega
    have q1 : (kk : Int) ≤ (cK : Int) := by omega
    clear hplan hb4 hKt
    rcases hres with ⟨-, rfl⟩ | ⟨hall, vP, M, rfl, hMp, hMm, hrow⟩
    · clear hGn
      go_wp2_with fail
      refine hplan2.mono ?_
      rintro e w5 ⟨hb5, hres⟩
      have HB5 := Lib.hid (HB4.out.trans (hb5.mono HB4.out.size))
      clear hplan2 hb5
      rcases hres with ⟨-, rfl⟩ | ⟨-, v2, M2, rfl, -, -, -⟩ <;>
      · go_wp2_with fail
        refine (awake_c w5).mono ?_
        rintro e w6 ⟨rfl, hb6⟩
        have HB6 := Lib.hid (HB5.out.trans (hb6.mono HB5.out.size))
        clear hb6
        go_wp2_with fail
        go_ret
        exact ⟨rfl, HA.out.trans (HB6.out.mono HA.out.size)⟩
    have HALL := Lib.hid hall
    have HMM := Lib.hid (show M.Pairwise (· < ·) ∧ ∀ x, x ∈ M ↔ Reach mkr L K x from ⟨hMp, hMm⟩)
    have HROW := Lib.hid hrow
    obtain ⟨⟨aP, cP, rfl⟩, -⟩ := id hrow
    clear hGn hall hMp hMm hrow
    go_wp2_with fail
    refine hplan2.mono ?_
    rintro e w5 ⟨hb5, hres⟩
    rcases hres with ⟨⟨s, hs, hk⟩, -⟩ | ⟨-, v2, M2, rfl, hMp2, hMm2, hrow2⟩
    · exact absurd (HALL.out s (List.mem_of_mem_take hs)) hk
    have HB5 := Lib.hid (HB4.out.trans (hb5.mono HB4.out.size))
    have hsub : ∀ x ∈ M2, x ∈ M := fun x hx => (HMM.out.2 x).2 (by
      have hr := (hMm2 x).1 hx
      clear hx
      induction hr with
      | base hs he => exact .base (List.mem_of_mem_take hs) he
      | step _ hd ih => exact .step ih hd)
    have hcM : ∀ u ∈ M, ∀ d ∈ depsL mkr L u, d ∈ M := fun u hu d hd => (HMM.out.2 d).2 (.step ((HMM.out.2 u).1 hu) hd)
    have hcN : ∀ u ∈ M2, ∀ d ∈ depsL mkr L u, d ∈ M2 := fun u hu d hd => (hMm2 d).2 (.step ((hMm2 u).1 hu) hd)
    have hlM : ∀ u ∈ M, u < L.length := fun u hu => ((HMM.out.2 u).1 hu).lt HG.out.to
    have hacM : ∀ u ∈ M, ¬ Tc (depsL mkr L) u u := fun u hu => HAC.out u (hlM u hu)
    have hQ := order_sub HMM.out.1 hMp2 hsub hcM hcN hacM
    have hmP := mem_order HMM.out.1 hcM hacM
    have hmQ := mem_order hMp2 hcN fun u hu => hacM u (hsub u hu)
    have hndP := (order_gd (deps := depsL mkr L) HMM.out.1).nd
    have hrowP := HROW.out.below (hb5.mono (Nat.le_refl _))
    have hrowQ := hrow2
    obtain ⟨⟨aQ, cQ, rfl⟩, -⟩ := id hrow2
    obtain ⟨P, hPP⟩ : ∃ P, order (depsL mkr L) M = P := ⟨_, rfl⟩
    obtain ⟨Q, hQQ⟩ : ∃ Q, order (depsL mkr L) M2 = Q := ⟨_, rfl⟩
    rw [hPP] at hQ hmP hndP hrowP
    rw [hQQ] at hQ hmQ hrowQ
    rw [hPP, hQQ]
    have HPL : Hid (∀ x ∈ P, x < L.length) := Lib.hid fun x hx => hlM x ((hmP x).1 hx)
    have HQP : Hid (∀ x ∈ Q, x ∈ P) := Lib.hid fun x hx => (hmP x).2 (hsub x ((hmQ x).1 hx))
    have HPQ : Hid (P.filter (fun x => decide (x ∈ Q)) = Q) := Lib.hid ((List.filter_congr fun x _ => decide_eq_decide.2 (hmQ x)).trans hQ)
    have hPl : P.length ≤ 30 := by
      have := sub_len (A := P) (B := List.range L.length) hndP fun x hx => List.mem_range.2 (HPL.out x hx)
      rw [List.length_range] at this
      omega
    have hQl : Q.length ≤ 30 := by
      have := List.length_filter_le (fun x => decide (x ∈ Q)) P
      rw [HPQ.out] at this
      omega
    have HRP := Lib.hid hrowP
    have HRQ := Lib.hid hrowQ
    obtain ⟨c0, c1⟩ := HC.out w5 HB5.out
    have hsz5 : w.heap.size ≤ w5.heap.size := Nat.le_trans HA.out.size HB5.out.size
    obtain ⟨hmk1, hbr1⟩ := Br.made (w := w) (W := w5) (n := L.length) hsz5 (by omega)
    have hA6 := below_alloc w5 (.cells (madeCells #[.bool false] L.length) 4)
    have HBR1 : Hid (Br w (w5.alloc (.cells (madeCells #[.bool false] L.length) 4)) w5.heap.size L.length (fun x => decide (x ∈ P.take 0))) := Lib.hid (by simpa using hbr1)
    have HB6 := Lib.hid (HB5.out.trans (hA6.mono HB5.out.size))
    have HRP6 := Lib.hid (HRP.out.below (hA6.mono (Nat.le_refl _)))
    have HRQ6 := Lib.hid (HRQ.out.below (hA6.mono (Nat.le_refl _)))
    obtain ⟨g1, hg1⟩ : ∃ g1, w5.heap.size = g1 := ⟨_, rfl⟩
    rw [hg1] at hmk1 HBR1
    obtain ⟨w6, hw6⟩ : ∃ w6, w5.alloc (.cells (madeCells #[.bool false] L.length) 4) = w6 := ⟨_, rfl⟩
    rw [hw6] at HBR1 HB6 HRP6 HRQ6
    have HW6 := Lib.hid hw6
    obtain ⟨nl, hnl⟩ : ∃ nl, L.length = nl := ⟨_, rfl⟩
    have HNL := Lib.hid hnl
    rw [hnl] at HBR1 c0 hmk1 HW6 hl30 HCB
    clear hplan2 hb5 hsub hcM hcN hlM hacM hQ hmP hmQ hndP hrowP hrowQ hrow2 hMp2 hMm2 hPP hQQ hbr1 hA6 hw6 HRP HRQ hnl HROW HB4 HG4 hsz5
    rw [HNL.out]
    go_upto_region 12 with fail
    rw [HW6.out]
    clear HW6 c0 c1 hmk1
    go_wp2_with fail
    go_loopw [15] (fun i W => ∃ j : Nat, j ≤ P.length ∧ i = .int .i64 j ∧ Hid (Br w W g1 nl (fun x => decide (x ∈ P.take j))) ∧ Hid (KeepN w6 W) ∧ Hid (w6.heap.size ≤ W.heap.size) ∧ Hid (Below w.heap.size w W)) (fun i _ => P.length - (intOf i).toNat)
    case atStart => exact ⟨0, Nat.zero_le _, rfl, HBR1, Lib.hid (KeepN.refl _), Lib.hid (Nat.le_refl _), Lib.hid (HA.out.trans (HB6.out.mono HA.out.size))⟩
    case round =>
      clear HBR1
      obtain ⟨j, hj, rfl, HBR, HKN, HSZ, HBW⟩ := hrel
      by_cases hlt : j < P.length
      · have hx := List.getElem?_eq_getElem hlt
        have hxn := HPL.out _ (List.getElem_mem hlt)
        rw [HNL.out] at hxn
        generalize P[j] = x at *
        obtain ⟨_, _, eR, hRr⟩ := (HRP6.out.keepN HKN.out).read
        cases eR
        rcases hRr with h | ⟨gP, oP, rfl, hgP, hcP⟩
        · rw [h] at hlt; simp at hlt
        have m0 := hcP j _ hx
        have t1 := HBR.out.cell hxn
        have tf := HBR.out.frz x
        have htk : ∀ y, y ∈ P.take (j + 1) ↔ y ∈ P.take j ∨ y = x := fun y => by rw [List.take_add_one, hx]; simp
        obtain ⟨hbr2, hk2, hb2, hs2⟩ := HBR.out.set x (b' := fun y => decide (y ∈ P.take (j + 1))) (fun y => by
          by_cases e : y = x
          · subst e; simp [htk]
          · simp [htk, e])
        have hj0 : (0 : Int) ≤ (j : Int) := by omega
        have hj1 : (j : Int) < (P.length : Int) := by omega
        have hx0 : (0 : Int) ≤ (x : Int) := by omega
        have hx1 : (x : Int) < (nl : Int) := by omega
        obtain ⟨W1, hW1⟩ : ∃ W1, wr.setCell ⟨g1, x, none⟩ (.bool true) = W1 := ⟨_, rfl⟩
        have hgb := HBR.out.blk.1
        have hb3 := hb2 _ HBW.out hgb
        rw [hW1] at hbr2 hk2 hb3 hs2
        have HBR2 := Lib.hid hbr2
        have HK2 := Lib.hid (HKN.out.trans hk2)
        have HB2 := Lib.hid hb3
        have HS2 := Lib.hid (show w6.heap.size ≤ W1.heap.size by rw [hs2]; exact HSZ.out)
        have HW1 := Lib.hid hW1
        clear hx hcP htk hbr2 hk2 hb2 hb3 hs2 hW1 hgb
        go_upto_region 14 with fail
        rw [HW1.out]
        clear HW1 m0 t1 tf
        go_wp2_with fail
        go_roundw
        case rel => exact ⟨j + 1, by omega, by go_num, HBR2, HK2, HS2, HB2⟩
        case measure => simp [intOf]; omega
      · obtain rfl : j = P.length := by omega
        have hbxr := (HKN.out bb _ _ _ (by decide) ((HB6.out.block _ (lt_some HCB.out)).trans HCB.out)).trans ((HB6.out.block _ (lt_some HCB.out)).trans HCB.out)
        have c0 : wr.cell? ⟨bb, 0, none⟩ = some (.slice a0 nl k0) := by rw [Lib.cell_of_heap hbxr]; rfl
        have hszr := HBW.out.size
        obtain ⟨hmk2, hbr2⟩ := Br.made (w := w) (W := wr) (n := nl) hszr (by omega)
        have hA7 := below_alloc wr (.cells (madeCells #[.bool false] nl) 4)
        have HBR2 : Hid (Br w (wr.alloc (.cells (madeCells #[.bool false] nl) 4)) wr.heap.size nl (fun x => decide (x ∈ Q.take 0))) := Lib.hid (by simpa using hbr2)
        have HBR1 : Hid (Br w (wr.alloc (.cells (madeCells #[.bool false] nl) 4)) g1 nl (fun x => decide (x ∈ P))) := Lib.hid (by
          have := HBR.out.below hA7
          rwa [List.take_length] at this)
        have HGG : Hid (g1 ≠ wr.heap.size) := Lib.hid (by
          obtain ⟨_, D1, hD1⟩ := HBR.out.blk
          exact Nat.ne_of_lt (lt_some hD1))
        have HB7 := Lib.hid (HBW.out.trans (hA7.mono hszr))
        have HRP7 := Lib.hid ((HRP6.out.keepN HKN.out).below (hA7.mono (Nat.le_refl _)))
        have HRQ7 := Lib.hid ((HRQ6.out.keepN HKN.out).below (hA7.mono (Nat.le_refl _)))
        obtain ⟨g2, hg2⟩ : ∃ g2, wr.heap.size = g2 := ⟨_, rfl⟩
        rw [hg2] at hmk2 HBR2 HGG
        obtain ⟨w7, hw7⟩ : ∃ w7, wr.alloc (.cells (madeCells #[.bool false] nl) 4) = w7 := ⟨_, rfl⟩
        rw [hw7] at HBR1 HBR2 HB7 HRP7 HRQ7
        have HW7 := Lib.hid hw7
        clear hbxr hszr hbr2 hA7 hw7 HBR HKN HSZ HBW
        go_upto_region 17 with fail
        rw [HW7.out]
        clear HW7 c0 hmk2
        go_wp2_with fail
        go_loopw [17] (fun i W => ∃ j : Nat, j ≤ Q.length ∧ i = .int .i64 j ∧ Hid (Br w W g1 nl (fun x => decide (x ∈ P))) ∧ Hid (Br w W g2 nl (fun x => decide (x ∈ Q.take j))) ∧ Hid (KeepN w7 W) ∧ Hid (w7.heap.size ≤ W.heap.size) ∧ Hid (Below w.heap.size w W)) (fun i _ => Q.length - (intOf i).toNat)
        case atStart => exact ⟨0, Nat.zero_le _, rfl, HBR1, HBR2, Lib.hid (KeepN.refl _), Lib.hid (Nat.le_refl _), HB7⟩
        case round =>
          clear HBR1 HBR2 HB7
          obtain ⟨j, hj, rfl, HBM, HBR, HKN, HSZ, HBW⟩ := hrel
          by_cases hlt : j < Q.length
          · have hx := List.getElem?_eq_getElem hlt
            have hxP := HQP.out _ (List.getElem_mem hlt)
            have hxn := HPL.out _ hxP
            rw [HNL.out] at hxn
            generalize Q[j] = x at *
            obtain ⟨_, _, eR, hRr⟩ := (HRQ7.out.keepN HKN.out).read
            cases eR
            rcases hRr with h | ⟨gP, oP, rfl, hgP, hcP⟩
            · rw [h] at hlt; simp at hlt
            have m0 := hcP j _ hx
            have t0 := HBM.out.cell hxn
            rw [decide_eq_true hxP] at t0
            have t1 := HBR.out.cell hxn
            have tf := HBR.out.frz x
            have htk : ∀ y, y ∈ Q.take (j + 1) ↔ y ∈ Q.take j ∨ y = x := fun y => by rw [List.take_add_one, hx]; simp
            obtain ⟨hbr2, hk2, hb2, hs2⟩ := HBR.out.set x (b' := fun y => decide (y ∈ Q.take (j + 1))) (fun y => by
              by_cases e : y = x
              · subst e; simp [htk]
              · simp [htk, e])
            have hbm2 := HBM.out.other HGG.out x (.bool true) HBR.out
            have hj0 : (0 : Int) ≤ (j : Int) := by omega
            have hj1 : (j : Int) < (Q.length : Int) := by omega
            have hx0 : (0 : Int) ≤ (x : Int) := by omega
            have hx1 : (x : Int) < (nl : Int) := by omega
            obtain ⟨W1, hW1⟩ : ∃ W1, wr.setCell ⟨g2, x, none⟩ (.bool true) = W1 := ⟨_, rfl⟩
            have hgb := HBR.out.blk.1
            have hb3 := hb2 _ HBW.out hgb
            rw [hW1] at hbr2 hk2 hb3 hs2 hbm2
            have HBM2 := Lib.hid hbm2
            have HBR2 := Lib.hid hbr2
            have HK2 := Lib.hid (HKN.out.trans hk2)
            have HB2 := Lib.hid hb3
            have HS2 := Lib.hid (show w7.heap.size ≤ W1.heap.size by rw [hs2]; exact HSZ.out)
            have HW1 := Lib.hid hW1
            clear hx hcP htk hbr2 hk2 hb2 hb3 hs2 hW1 hgb hbm2 hxP
            go_upto_region 19 with fail
            rw [HW1.out]
            clear HW1 m0 t0 t1 tf
            go_wp2_with fail
            go_roundw
            case rel => exact ⟨j + 1, by omega, by go_num, HBM2, HBR2, HK2, HS2, HB2⟩
            case measure => simp [intOf]; omega
          · obtain rfl : j = Q.length := by omega
            have HBR1 : Hid (Br w wr g2 nl (fun x => decide (x ∈ Q))) := Lib.hid (by
              have := HBR.out
              rwa [List.take_length] at this)
            have HRP8 := Lib.hid (HRP7.out.keepN HKN.out)
            have HRQ8 := Lib.hid (HRQ7.out.keepN HKN.out)
            clear HBR HBM HKN HSZ
            generalize wr = w8 at *
            go_wp2_with fail
            go_loopw [18, 19] (fun v i W => ∃ (j : Nat) (S : List Nat) (aS : Option Addr) (cS : Nat), j ≤ P.length ∧ i = .int .i64 j ∧ v = .slice aS S.length cS ∧ Hid (S = (P.take j).filter (fun x => decide (x ∈ Q))) ∧ Hid (RowI W w8.heap.size (.slice aS S.length cS) S) ∧ Hid (Below w8.heap.size w8 W) ∧ S.length ≤ j) (fun _ i _ => P.length - (intOf i).toNat)
            case atStart => exact ⟨0, [], none, 0, Nat.zero_le _, rfl, rfl, Lib.hid (by simp), Lib.hid ⟨⟨none, 0, rfl⟩, World.ownsRow_nil _ _ _ _⟩, Lib.hid (Below.refl _ _), by simp⟩
            case round =>
              obtain ⟨j, S, aS, cS, hj, rfl, rfl, HS, HRS, HBW8, hSl⟩ := hrel
              by_cases hlt : j < P.length
              · have hx := List.getElem?_eq_getElem hlt
                have hxn := HPL.out _ (List.getElem_mem hlt)
                rw [HNL.out] at hxn
                generalize P[j] = x at *
                obtain ⟨_, _, eR, hRr⟩ := (HRP8.out.below (HBW8.out.mono (Nat.le_refl _))).read
                cases eR
                rcases hRr with h | ⟨gP, oP, rfl, hgP, hcP⟩
                · rw [h] at hlt; simp at hlt
                have m0 := hcP j _ hx
                have t0 := (HBR1.out.below HBW8.out).cell hxn
                have htk : P.take (j + 1) = P.take j ++ [x] := by rw [List.take_add_one, hx]; rfl
                have hj0 : (0 : Int) ≤ (j : Int) := by omega
                have hj1 : (j : Int) < (P.length : Int) := by omega
                have hx0 : (0 : Int) ≤ (x : Int) := by omega
                have hx1 : (x : Int) < (nl : Int) := by omega
                by_cases hxQ : x ∈ Q
                · rw [decide_eq_true hxQ] at t0
                  have HS2 : Hid (S ++ [x] = (P.take (j + 1)).filter (fun y => decide (y ∈ Q))) := Lib.hid (by
                    rw [htk, List.filter_append, HS.out]
                    simp [hxQ])
                  have hA9 := below_alloc wr (.cells #[.int .i64 (x : Int)] 3)
                  obtain ⟨a', c', W9, hrun, hrow9, hg9, ho9⟩ := run_pushI Try.underlying37 (HRS.out.below hA9) (Nat.le_trans HBW8.out.size hA9.size) (by omega) (heap_alloc_new wr (.cells #[.int .i64 (x : Int)] 3))
                  have HRS9 := Lib.hid hrow9
                  have HB9 : Hid (Below w8.heap.size w8 W9) := Lib.hid ((HBW8.out.trans (hA9.mono HBW8.out.size)).trans ⟨hg9.os, hg9.tape, hg9.output, hg9.size, fun q hq => hg9.block q (by have := HBW8.out.size; rw [World.size_alloc]; omega) fun e => by
                    have := (owns_block HRS.out.2 e.symm).1
                    omega⟩)
                  have HLN : Hid ((S ++ [x]).length = S.length + 1) := Lib.hid (by simp)
                  clear hx hcP htk hxQ hA9 hrow9 hg9 ho9 HRS
                  go_wp2_with (at_builtin; refine wpList_run rfl (.tmp 126) (.tmp 131) rfl rfl rfl hrun ?_)
                  clear hrun m0 t0
                  go_roundw
                  case rel => exact ⟨j + 1, S ++ [x], a', c', by omega, by go_num, by rw [HLN.out], HS2, HRS9, HB9, by have := HLN.out; omega⟩
                  case measure => simp [intOf]; omega
                · rw [decide_eq_false hxQ] at t0
                  have HS2 : Hid (S = (P.take (j + 1)).filter (fun y => decide (y ∈ Q))) := Lib.hid (by
                    rw [htk, List.filter_append, HS.out]
                    simp [hxQ])
                  clear hx hcP htk hxQ
                  go_wp2_with fail
                  go_roundw
                  case rel => exact ⟨j + 1, S, aS, cS, by omega, by go_num, rfl, HS2, HRS, HBW8, by omega⟩
                  case measure => simp [intOf]; omega
              · obtain rfl : j = P.length := by omega
                have hSQ : S = Q := by rw [HS.out, List.take_length, HPQ.out]
                have hnum := numbers_c HRS.out.read (HRQ8.out.below HBW8.out).read (by omega)
                rw [decide_eq_true hSQ] at hnum
                have HBF := Lib.hid (HBW.out.trans (HBW8.out.mono HBW.out.size))
                clear hSQ
                go_wp2_with fail
                refine hnum.mono ?_
                rintro e w10 ⟨rfl, hb10⟩
                have HB10 := Lib.hid (HBF.out.trans (hb10.mono HBF.out.size))
                clear hnum hb10
                go_wp2_with fail
                refine (awake_c w10).mono ?_
                rintro e w11 ⟨rfl, hb11⟩
                have HB11 := Lib.hid (HB10.out.trans (hb11.mono HB10.out.size))
                clear hb11
                go_wp2_with fail
                go_ret
                exact ⟨rfl, HB11.out⟩
end Go.Proofs.Ytbflodefmookiaa.Gr
