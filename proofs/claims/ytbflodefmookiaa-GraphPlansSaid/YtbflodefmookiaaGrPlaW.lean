/-
  The law GraphPlans, walked.
-/
import Derived.Test.YtbflodefmookiaaGrPlanR
import Derived.Test.YtbflodefmookiaaGrTgt
import Derived.Test.YtbflodefmookiaaGrSrc
import Derived.Test.YtbflodefmookiaaGrAwake
namespace Go.Proofs.Ytbflodefmookiaa.Gr
open Go.RowKit Go.Maps Go.Proofs.Ytbflodefmookiaa Go.Proofs.Ytbflodefmookiaa.Pr

theorem is_out {L : List Ed} {mkr : Bs → Option Nat} (h : makers L = some mkr) (s : Bs) : (mkr s).isSome = true ↔ s ∈ allOuts L := by
  unfold allOuts
  rw [Option.isSome_iff_exists, List.mem_flatMap]
  constructor
  · rintro ⟨n, hn⟩
    obtain ⟨e, h1, h2⟩ := (makers_iff h s n).1 hn
    exact ⟨e, List.mem_of_getElem? h1, h2⟩
  · rintro ⟨e, h1, h2⟩
    obtain ⟨n, hn⟩ := List.getElem?_of_mem h1
    exact ⟨n, (makers_iff h s n).2 ⟨e, hn, h2⟩⟩
/-- what both tell of a plan -/
def Plz (mkr : Bs → Option Nat) (L : List Ed) (K : List Bs) (z : Int) (P : List Nat) : Prop :=
  (z = 6 ∧ P = [] ∧ ∃ s ∈ K, ¬ Kno mkr L s) ∨ (z = 0 ∧ (∀ s ∈ K, Kno mkr L s) ∧ ∃ M, M.Pairwise (· < ·) ∧ (∀ x, x ∈ M ↔ Reach mkr L K x) ∧ P = order (depsL mkr L) M)
theorem Plz.len {mkr : Bs → Option Nat} {L : List Ed} {K : List Bs} {z : Int} {P : List Nat} (h : Plz mkr L K z P) (ht : ∀ s k, mkr s = some k → k < L.length) : P.length ≤ L.length := by
  rcases h with ⟨-, rfl, -⟩ | ⟨-, -, M, hM, hMe, rfl⟩
  · simp
  · have hg := order_gd (deps := depsL mkr L) hM
    have := sub_len (B := List.range L.length) hg.nd fun x hx => List.mem_range.2 (((hMe x).1 (hg.sub x hx)).lt ht)
    rwa [List.length_range] at this
theorem Plz.same {mkr : Bs → Option Nat} {L : List Ed} {K : List Bs} {z y : Int} {P Q : List Nat} (h : Plz mkr L K z P) (k : Plz mkr L K y Q) : z = y ∧ P = Q := by
  rcases h with ⟨rfl, rfl, s, hs, hn⟩ | ⟨rfl, ha, M, hM, hMe, rfl⟩ <;> rcases k with ⟨rfl, rfl, s', hs', hn'⟩ | ⟨rfl, ha', M', hM', hMe', rfl⟩
  · exact ⟨rfl, rfl⟩
  · exact absurd (ha' s hs) hn
  · exact absurd (ha s' hs') hn'
  · rw [rise_eq hM hM' fun x => (hMe x).trans (hMe' x).symm]
    exact ⟨rfl, rfl⟩
theorem ints_none (w : World) : IntR w (.slice none 0 0) [] := ⟨none, 0, rfl, .inl rfl⟩

set_option maxRecDepth 100000 in
set_option maxHeartbeats 32000000 in
theorem graphPlans_w {w : World} {u0 u1 : Value} {L : List Ed} {D : List Bs} {u2 : Value} {K : List Bs} (hK : Strs w u2 K) (hKl : ∀ x ∈ K, x.length ≤ maxLen) (hL : Eds w u0 L) (hD : Strs w u1 D) :
    Calls Try.prog 3 #[.agg #[u0, u1], u2] w fun e w' => e = .returned (.bool true) ∧ Below w.heap.size w w' := by
  have hA := below_alloc w (.cells #[u0, u1] 25)
  have hb := heap_alloc_new w (.cells #[u0, u1] 25)
  obtain ⟨wB, hwB⟩ : ∃ wB, w.alloc (.cells #[u0, u1] 25) = wB := ⟨_, rfl⟩
  rw [hwB] at hA hb
  obtain ⟨a0, k0, rfl, -, -⟩ := id hL
  obtain ⟨a1, k1, rfl, -, -⟩ := id hD
  obtain ⟨bb, hbb⟩ : ∃ bb, w.heap.size = bb := ⟨_, rfl⟩
  have HC : Hid (∀ W, Below wB.heap.size wB W → W.cell? ⟨bb, 0, none⟩ = some (.slice a0 L.length k0) ∧ W.cell? ⟨bb, 1, none⟩ = some (.slice a1 D.length k1)) := Lib.hid fun W hW => by
    rw [← hbb]
    have h1 := (hW.block _ (lt_some hb)).trans hb
    constructor <;> (rw [Lib.cell_of_heap h1]; rfl)
  have HCB : Hid (wB.heap[bb]? = some (.cells #[.slice a0 L.length k0, .slice a1 D.length k1] 25 (0, 0))) := Lib.hid (by rw [← hbb]; exact hb)
  have hfew := few_c (hL.below hA) (hD.below hA)
  obtain ⟨c0, c1⟩ := HC.out wB (Below.refl _ _)
  have HL := Lib.hid (hL.below hA)
  have HD := Lib.hid (hD.below hA)
  have HA := Lib.hid hA
  have HWB := Lib.hid hwB
  obtain ⟨aK, cK, rfl, hKc, -⟩ := id hK
  have HK := Lib.hid (hK.below hA)
  have HKL := Lib.hid hKl
  clear hA hb hwB hL hD hK hKl
  go_enter Try.func3, Try.ntmps3
  go_upto_region 1 with fail
  rw [HWB.out]
  clear HWB
  go_wp2_with fail
  refine hfew.mono ?_
  rintro e w1 ⟨rfl, hb1⟩
  have HB1 := Lib.hid hb1
  clear hfew hb1 c0 c1
  cases hF : fewM L D with
  | false =>
    clear hF
    go_wp2_with fail
    go_ret
    exact ⟨rfl, HA.out.trans (HB1.out.mono HA.out.size)⟩
  | true =>
    obtain ⟨hl30, hd20, hDx, hSm⟩ := fewM_of hF
    clear hF
    by_cases h20 : 20 < K.length
    · have d0 : (20 : Int) < (K.length : Int) := by omega
      have d1 : decide ((20 : Int) < (K.length : Int)) = true := decide_eq_true d0
      clear h20
      go_wp2_with fail
      go_ret
      exact ⟨rfl, HA.out.trans (HB1.out.mono HA.out.size)⟩
    have d0 : ¬ (20 : Int) < (K.length : Int) := by omega
    have d1 : decide ((20 : Int) < (K.length : Int)) = false := decide_eq_false d0
    obtain ⟨c0, c1⟩ := HC.out w1 HB1.out
    have hof := of_c (HL.out.below HB1.out) (HD.out.below HB1.out) hl30 hd20 hSm
    have HSM := Lib.hid hSm
    clear hDx hSm
    go_wp2_with fail
    refine hof.mono ?_
    rintro e w2 ⟨v, d, rfl, hv, hd, hb2⟩
    have HB2 := Lib.hid (HB1.out.trans (hb2.mono HB1.out.size))
    have hnew := New2_c hv hd HSM.out (by omega) (by omega)
    clear hof hv hd hb2 c0 c1
    go_wp2_with fail
    refine hnew.mono ?_
    rintro e w3 ⟨hres, -, hb3⟩
    have HB3 := Lib.hid (HB2.out.trans (hb3.mono HB2.out.size))
    clear hnew hb3
    obtain ⟨c0, c1⟩ := HC.out w3 HB3.out
    rcases hres with ⟨mkr, gp, ve, vd, m, n, hmk, hac, rfl, hG⟩ | ⟨er, hero, rfl, her⟩
    rotate_left 1
    · have hwr := wrongR_c (u1 := .slice a1 D.length k1) (HL.out.below HB3.out) HSM.out (by omega)
      have HER := Lib.hid her
      clear her
      rcases hero with rfl | rfl <;>
      · go_wp2_with fail
        refine hwr.mono ?_
        rintro e w4 ⟨⟨nn, rfl, hW⟩, hb4⟩
        have hnn := HER.out nn hW
        subst hnn
        have HB4 := Lib.hid (HB3.out.trans (hb4.mono HB3.out.size))
        clear hwr hW hb4 c0 c1
        go_wp2_with fail
        refine (awake_c w4).mono ?_
        rintro e w5 ⟨rfl, hb5⟩
        have HB5 := Lib.hid (HB4.out.trans (hb5.mono HB4.out.size))
        clear hb5
        go_wp2_with fail
        go_ret
        exact ⟨rfl, HA.out.trans (HB5.out.mono HA.out.size)⟩
    have hwr := wrongR_c (u1 := .slice a1 D.length k1) (HL.out.below HB3.out) HSM.out (by omega)
    have hGn := nilG_no
    have HG := Lib.hid hG
    have HMK := Lib.hid hmk
    have HAC := Lib.hid hac
    clear hG hmk hac
    go_wp2_with fail
    refine hwr.mono ?_
    rintro e w4 ⟨⟨nn, rfl, hW⟩, hb4⟩
    obtain rfl : nn = 0 := by
      rcases hW with ⟨h, -⟩ | ⟨mkr2, h, ⟨-, i, h1, h2⟩ | ⟨h1, -⟩⟩
      · rw [HMK.out] at h; cases h
      · rw [HMK.out] at h
        cases h
        exact absurd h2 (HAC.out i h1)
      · exact h1
    have HB4 := Lib.hid (HB3.out.trans (hb4.mono HB3.out.size))
    have HG4 := Lib.hid (HG.out.below hb4)
    clear hwr hW hb4 c0 c1 HG
    have hAp := below_alloc w4 (.cells #[] 9)
    obtain ⟨aQ, cQ, W5, hrun, hS, hB5⟩ := run_copyK (heap_alloc_new w4 (.cells #[] 9)) ((HK.out.below HB4.out).below hAp) (by omega)
    have hB5' := hAp.trans (hB5.mono hAp.size)
    have HB5 := Lib.hid (HB4.out.trans (hB5'.mono HB4.out.size))
    have HG5 := Lib.hid (HG4.out.below hB5')
    have hplan := (plan_c HG5.out hS.1 HKL.out (by omega)).mono (R' := fun e w' => Below W5.heap.size W5 w' ∧ ∃ v z P, e = .returned (.tuple #[v, .int .i64 z]) ∧ IntR w' v P ∧ Plz mkr L K z P) fun e w' ⟨h1, h2⟩ => by
      refine ⟨h1, ?_⟩
      rcases h2 with ⟨h2, rfl⟩ | ⟨h2, v, M, rfl, h3, h4, h5⟩
      · exact ⟨_, _, [], rfl, ints_none _, .inl ⟨rfl, rfl, h2⟩⟩
      · exact ⟨_, _, _, rfl, h5.read, .inr ⟨rfl, h2, M, h3, h4, rfl⟩⟩
    clear hAp hS hB5 hB5' HG4
    go_wp2_with (at_builtin; refine wpList_run rfl (.tmp 52) (.tmp 53) rfl rfl rfl hrun ?_)
    clear hrun hGn
    refine hplan.mono ?_
    rintro e w6 ⟨hb6, vP, z, P, rfl, hP, hPl⟩
    have HB6 := Lib.hid (HB5.out.trans (hb6.mono HB5.out.size))
    have HG6 := Lib.hid (HG5.out.below hb6)
    have HP := Lib.hid hP
    have HPL := Lib.hid hPl
    clear hplan hb6 hP hPl HB5 HG5
    obtain ⟨c0, c1⟩ := HC.out w6 HB6.out
    have hplanR := (planR_c (u1 := .slice a1 D.length k1) (HL.out.below HB6.out) HMK.out HSM.out (by omega) HAC.out (HK.out.below HB6.out) (by omega)).mono (R' := fun e w' => Below w6.heap.size w6 w' ∧ ∃ v z P, e = .returned (.tuple #[v, .int .i64 z]) ∧ IntR w' v P ∧ Plz mkr L K z P) fun e w' ⟨h1, h2⟩ => by
      refine ⟨h1, ?_⟩
      rcases h2 with ⟨h2, rfl⟩ | ⟨h2, v, rfl, h3⟩
      · exact ⟨_, _, [], rfl, ints_none _, .inl ⟨rfl, rfl, h2⟩⟩
      · obtain ⟨M, hM, hMe⟩ : ∃ M : List Nat, M.Pairwise (· < ·) ∧ ∀ x, x ∈ M ↔ Reach mkr L K x := by
          rcases HPL.out with ⟨-, -, s, hs, hn⟩ | ⟨-, -, M, hM, hMe, -⟩
          · exact absurd (h2 s hs) hn
          · exact ⟨M, hM, hMe⟩
        exact ⟨_, _, _, rfl, h3 M hM hMe, .inr ⟨rfl, h2, M, hM, hMe, rfl⟩⟩
    go_wp2_with fail
    refine hplanR.mono ?_
    rintro e w7 ⟨hb7, vQ, y, Q, rfl, hQ, hQl⟩
    obtain ⟨rfl, rfl⟩ := HPL.out.same hQl
    have HB7 := Lib.hid (HB6.out.trans (hb7.mono HB6.out.size))
    have HG7 := Lib.hid (HG6.out.below hb7)
    have HP7 := Lib.hid (HP.out.below hb7)
    have HQ7 := Lib.hid hQ
    clear hplanR hb7 hQ hQl HB6 HG6 HP c0 c1
    go_wp2_with fail
    go_loopw [12, 13, 14, 15] (fun i _ _ _ W => ∃ (j : Nat), j ≤ K.length ∧ i = .int .i64 j ∧ Hid (Below w7.heap.size w7 W)) (fun i _ _ _ _ => K.length - (intOf i).toNat)
    case atStart => exact ⟨0, Nat.zero_le _, rfl, Lib.hid (Below.refl _ _)⟩
    case round =>
      obtain ⟨j, hj, rfl, HB⟩ := hrel
      have HBW := Lib.hid (HB7.out.trans (HB.out.mono HB7.out.size))
      obtain ⟨c0, c1⟩ := HC.out wr HBW.out
      by_cases hlt : j < K.length
      · have hx := List.getElem?_eq_getElem hlt
        have hsl := HKL.out _ (List.getElem_mem hlt)
        generalize K[j] = s at *
        obtain ⟨_, _, eS, _, hSr⟩ := HK.out.below HBW.out
        cases eS
        rcases hSr with h | ⟨gS, oS, rfl, hgS, hcS⟩
        · rw [h] at hlt; simp at hlt
        have s0 := hcS j s hx
        have hmk := maker_c (HG7.out.below HB.out) hsl
        have hmr := makerR_c (w := wr.drew) (u1 := .slice a1 D.length k1) (s := s) ((HL.out.below HBW.out).below ⟨rfl, rfl, rfl, Nat.le_refl _, fun _ _ => rfl⟩) HMK.out (by omega) (fun e he => by have := (HSM.out e he).o; omega)
        have hbl : bb < wr.heap.size := lt_cellW c0
        have hmr2 := hmr.mono (R' := fun e w' => (e = .returned (mkV (mkr s)) ∧ Below wr.heap.size wr w') ∧ (w'.cell? ⟨bb, 0, none⟩ = some (.slice a0 L.length k0) ∧ w'.cell? ⟨bb, 1, none⟩ = some (.slice a1 D.length k1) ∧ w'.cell? ⟨gS, oS + j, none⟩ = some (.string (mk s)))) fun e w' ⟨h1, h2⟩ => by
          have h5 : Below wr.heap.size wr w' := ⟨h2.os, h2.tape, h2.output, h2.size, h2.block⟩
          exact ⟨⟨h1, h5⟩, (cell_of_block (h5.block bb hbl)).trans c0, (cell_of_block (h5.block bb hbl)).trans c1, (cell_of_block (h5.block gS hgS)).trans s0⟩
        have k0' : wr.drew.cell? ⟨bb, 0, none⟩ = some (.slice a0 L.length k0) ∧ wr.drew.cell? ⟨bb, 1, none⟩ = some (.slice a1 D.length k1) ∧ wr.drew.cell? ⟨gS, oS + j, none⟩ = some (.string (mk s)) := ⟨c0, c1, s0⟩
        have hj0 : (0 : Int) ≤ (j : Int) := by omega
        have hj1 : (j : Int) < (K.length : Int) := by omega
        clear hx hcS hmr hbl hgS
        cases hms : mkr s with
        | some x =>
          simp only [hms, mkV, Option.getD_some, Option.isSome_some] at hmr2 hmk
          have hx0 : (0 : Int) ≤ (x : Int) := by omega
          have hx1 : max (x : Int) 0 = (x : Int) := by omega
          clear hms
          go_wp2_with fail
          refine hmk.mono ?_
          rintro e w8 ⟨rfl, rfl⟩
          clear hmk
          go_wp2_with fail
          go_region_held3 (fun w' => w'.cell? ⟨bb, 0, none⟩ = some (.slice a0 L.length k0) ∧ w'.cell? ⟨bb, 1, none⟩ = some (.slice a1 D.length k1) ∧ w'.cell? ⟨gS, oS + j, none⟩ = some (.string (mk s)))
            (first | exact k0' | exact k1)
            (first
              | (go_at_call 18; (with_reducible refine hmr2.mono ?_); rintro e w9 ⟨⟨rfl, hb9⟩, k1⟩))
          have HB9 := Lib.hid (HB.out.trans (hb9.mono HB.out.size))
          clear hmr2 k0' k1 c0 c1 s0 hb9
          go_wp2_with fail
          go_roundw
          case rel => exact ⟨j + 1, by omega, by go_num, HB9⟩
          case measure => simp [intOf]; omega
        | none =>
          simp only [hms, mkV, Option.getD_none, Option.isSome_none] at hmr2 hmk
          clear hms
          go_wp2_with fail
          refine hmk.mono ?_
          rintro e w8 ⟨rfl, rfl⟩
          clear hmk
          go_wp2_with fail
          go_region_held3 (fun w' => w'.cell? ⟨bb, 0, none⟩ = some (.slice a0 L.length k0) ∧ w'.cell? ⟨bb, 1, none⟩ = some (.slice a1 D.length k1) ∧ w'.cell? ⟨gS, oS + j, none⟩ = some (.string (mk s)))
            (first | exact k0' | exact k1)
            (first
              | (go_at_call 18; (with_reducible refine hmr2.mono ?_); rintro e w9 ⟨⟨rfl, hb9⟩, k1⟩))
          have HB9 := Lib.hid (HB.out.trans (hb9.mono HB.out.size))
          clear hmr2 k0' k1 c0 c1 s0 hb9
          go_wp2_with fail
          go_roundw
          case rel => exact ⟨j + 1, by omega, by go_num, HB9⟩
          case measure => simp [intOf]; omega
      · obtain rfl : j = K.length := by omega
        have HF : Hid (Below w.heap.size w wr) := Lib.hid (HA.out.trans (HBW.out.mono HA.out.size))
        have hzz : (z == z) = true := beq_self_eq_true z
        have hLr := HL.out.below HBW.out
        have hDr := HD.out.below HBW.out
        have hGr := HG7.out.below HB.out
        have hPr := HP7.out.below HB.out
        have hQr := HQ7.out.below HB.out
        have hbl : bb < wr.heap.size := lt_cellW c0
        have hPl := HPL.out.len HG7.out.to
        have hcl : ∀ W, Below wr.heap.size wr W → W.cell? ⟨bb, 0, none⟩ = some (.slice a0 L.length k0) ∧ W.cell? ⟨bb, 1, none⟩ = some (.slice a1 D.length k1) := fun W hW => ⟨(cell_of_block (hW.block bb hbl)).trans c0, (cell_of_block (hW.block bb hbl)).trans c1⟩
        have hmm : ∀ {W W' : World}, Below wr.heap.size wr W → Below W.heap.size W W' → Below wr.heap.size wr W' := fun h k => h.trans (k.mono h.size)
        have hNum : ∀ W, Below wr.heap.size wr W → Calls Try.prog 19 #[vP, vQ] W fun e w' => (e = .returned (.bool true) ∧ Below W.heap.size W w' ∧ Below wr.heap.size wr w') ∧ (w'.cell? ⟨bb, 0, none⟩ = some (.slice a0 L.length k0) ∧ w'.cell? ⟨bb, 1, none⟩ = some (.slice a1 D.length k1)) := fun W hW => by
          refine (numbers_c (hPr.below hW) (hQr.below hW) (by omega)).mono ?_
          rintro e w' ⟨rfl, hb⟩
          exact ⟨⟨by simp, hb, hmm hW hb⟩, hcl _ (hmm hW hb)⟩
        have hNam : ∀ W v1 v2 A1 A2, Below wr.heap.size wr W → Strs W v1 A1 → Strs W v2 A2 → A1 = A2 → A1.length ≤ 1000000 → Calls Try.prog 20 #[v1, v2] W fun e w' => (e = .returned (.bool true) ∧ Below W.heap.size W w' ∧ Below wr.heap.size wr w') ∧ (w'.cell? ⟨bb, 0, none⟩ = some (.slice a0 L.length k0) ∧ w'.cell? ⟨bb, 1, none⟩ = some (.slice a1 D.length k1)) := fun W v1 v2 A1 A2 hW h1 h2 he hl => by
          refine (rows_c h1 h2 hl).mono ?_
          rintro e w' ⟨rfl, hb⟩
          exact ⟨⟨by simp [he], hb, hmm hW hb⟩, hcl _ (hmm hW hb)⟩
        have hAwk : ∀ W, Below wr.heap.size wr W → Calls Try.prog 14 #[] W fun e w' => (e = .returned (.bool true) ∧ Below W.heap.size W w' ∧ Below wr.heap.size wr w') ∧ (w'.cell? ⟨bb, 0, none⟩ = some (.slice a0 L.length k0) ∧ w'.cell? ⟨bb, 1, none⟩ = some (.slice a1 D.length k1)) := fun W hW => by
          refine (awake_c W).mono ?_
          rintro e w' ⟨rfl, hb⟩
          exact ⟨⟨rfl, hb, hmm hW hb⟩, hcl _ (hmm hW hb)⟩
        have hRow : ∀ (p : Bs → Prop) (N : Nat) (W : World) (e : Ending) (w' : World), N ≤ 1000 → Below wr.heap.size wr W → (∃ v A, e = .returned v ∧ Strs w' v A ∧ Rising A p ∧ A.length ≤ N ∧ Below W.heap.size W w') → (∃ v A, e = .returned v ∧ Strs w' v A ∧ Rising A p ∧ A.length ≤ 1000 ∧ Below W.heap.size W w' ∧ Below wr.heap.size wr w') ∧ (w'.cell? ⟨bb, 0, none⟩ = some (.slice a0 L.length k0) ∧ w'.cell? ⟨bb, 1, none⟩ = some (.slice a1 D.length k1)) := fun p N W e w' hN hW ⟨v, A, h1, h2, h3, h4, h5⟩ => ⟨⟨v, A, h1, h2, h3, by omega, h5, hmm hW h5⟩, hcl _ (hmm hW h5)⟩
        have hSr := fun W (hW : Below wr.heap.size wr W) => (sources_c (hGr.below hW)).mono fun e w' ⟨v, A, h1, h2, h3, h4, h5⟩ => hRow (fun s => s ∈ L.flatMap needsL ∧ mkr s = none) (30 * L.length) W e w' (by omega) hW ⟨v, A, h1, h3.1, h2, h4, h5⟩
        have hSd := fun W (hW : Below wr.heap.size wr W) => (sourcesR_c (u1 := .slice a1 D.length k1) (hLr.below hW) HMK.out HSM.out (by omega)).mono fun e w' ⟨v, A, h1, h2, h3, h4, h5⟩ => hRow (fun s => s ∈ L.flatMap needsL ∧ mkr s = none) (30 * L.length) W e w' (by omega) hW ⟨v, A, h1, h2.1, h3, h4, h5⟩
        have hOr := fun W (hW : Below wr.heap.size wr W) => (outs_c (hGr.below hW) HMK.out).mono fun e w' ⟨v, A, h1, h2, h3, h4, h5⟩ => hRow (fun s => s ∈ allOuts L) (10 * L.length) W e w' (by omega) hW ⟨v, A, h1, (owns_strsT h3).1, h2.cg (is_out HMK.out), h4, h5⟩
        have hOd := fun W (hW : Below wr.heap.size wr W) => (outsR_c (u1 := .slice a1 D.length k1) (hLr.below hW) HSM.out (by omega)).mono fun e w' ⟨v, A, h1, h2, h3, h4, h5⟩ => hRow (fun s => s ∈ allOuts L) (10 * L.length) W e w' (by omega) hW ⟨v, A, h1, h2.1, h3, h4, h5⟩
        have hTl : (tgt L D).length ≤ 1000 := by
          unfold tgt
          split
          · have h1 := List.length_filter_le (free L) (allOuts L)
            have h2 := outs_len HSM.out
            omega
          · omega
        have hTr := fun W (hW : Below wr.heap.size wr W) => (targets_c (hGr.below hW) (by omega)).mono (R' := fun e w' => (∃ v, e = .returned v ∧ Strs w' v (tgt L D) ∧ Below W.heap.size W w' ∧ Below wr.heap.size wr w') ∧ (w'.cell? ⟨bb, 0, none⟩ = some (.slice a0 L.length k0) ∧ w'.cell? ⟨bb, 1, none⟩ = some (.slice a1 D.length k1))) fun e w' ⟨v, h1, h2, h5⟩ => ⟨⟨v, h1, h2, h5, hmm hW h5⟩, hcl _ (hmm hW h5)⟩
        have hTd := fun W (hW : Below wr.heap.size wr W) => (targetsR_c (hLr.below hW) (hDr.below hW) HSM.out (by omega)).mono (R' := fun e w' => (∃ v, e = .returned v ∧ Strs w' v (tgt L D) ∧ Below W.heap.size W w' ∧ Below wr.heap.size wr w') ∧ (w'.cell? ⟨bb, 0, none⟩ = some (.slice a0 L.length k0) ∧ w'.cell? ⟨bb, 1, none⟩ = some (.slice a1 D.length k1))) fun e w' ⟨v, h1, h2, h5⟩ => ⟨⟨v, h1, h2, h5, hmm hW h5⟩, hcl _ (hmm hW h5)⟩
        have bX : Below wr.heap.size wr wr.drew := bel_drawn (Below.refl _ _) 1
        have k0' : wr.drew.cell? ⟨bb, 0, none⟩ = some (.slice a0 L.length k0) ∧ wr.drew.cell? ⟨bb, 1, none⟩ = some (.slice a1 D.length k1) := ⟨c0, c1⟩
        clear hRow hPr hQr hGr hLr hDr hcl
        go_wp2_with fail
        go_region_held3 (fun w' => w'.cell? ⟨bb, 0, none⟩ = some (.slice a0 L.length k0) ∧ w'.cell? ⟨bb, 1, none⟩ = some (.slice a1 D.length k1))
          (first | exact k1 | exact k0')
          (first
            | (go_at_call 19; (with_reducible refine (hNum _ (by assumption)).mono ?_); rintro e wN ⟨⟨rfl, bN, bX⟩, k1⟩)
            | (go_at_call 21; (with_reducible refine (hSr _ (by assumption)).mono ?_); rintro e wN ⟨⟨vS, KS, rfl, hS1, hS2, hS3, bN, bX⟩, k1⟩; try replace hR1 := hR1.below bN)
            | (go_at_call 22; (with_reducible refine (hSd _ (by assumption)).mono ?_); rintro e wN ⟨⟨vR, KR, rfl, hR1, hR2, hR3, bN, bX⟩, k1⟩; try replace hS1 := hS1.below bN)
            | (go_at_call 23; (with_reducible refine (hOr _ (by assumption)).mono ?_); rintro e wN ⟨⟨vS, KS, rfl, hS1, hS2, hS3, bN, bX⟩, k1⟩; try replace hR1 := hR1.below bN)
            | (go_at_call 24; (with_reducible refine (hOd _ (by assumption)).mono ?_); rintro e wN ⟨⟨vR, KR, rfl, hR1, hR2, hR3, bN, bX⟩, k1⟩; try replace hS1 := hS1.below bN)
            | (go_at_call 25; (with_reducible refine (hTr _ (by assumption)).mono ?_); rintro e wN ⟨⟨vS, rfl, hS1, bN, bX⟩, k1⟩; try replace hR1 := hR1.below bN)
            | (go_at_call 26; (with_reducible refine (hTd _ (by assumption)).mono ?_); rintro e wN ⟨⟨vR, rfl, hR1, bN, bX⟩, k1⟩; try replace hS1 := hS1.below bN)
            | (go_at_call 20; (first | (with_reducible refine (hNam _ _ _ _ _ (by assumption) hS1 hR1 (hS2.eq hR2) (by omega)).mono ?_) | (with_reducible refine (hNam _ _ _ _ _ (by assumption) hS1 hR1 rfl (by omega)).mono ?_)); rintro e wN ⟨⟨rfl, bN, bX⟩, k1⟩; clear hS1 hR1; try clear hS2 hS3 hR2 hR3)
            | (go_at_call 14; (with_reducible refine (hAwk _ (by assumption)).mono ?_); rintro e wN ⟨⟨rfl, bN, bX⟩, k1⟩))
        all_goals
          have HX := Lib.hid (HF.out.trans (bX.mono HF.out.size))
          clear hNum hNam hAwk hSr hSd hOr hOd hTr hTd k0' k1 hmm bX
          go_wp2_with fail
          go_ret
          exact ⟨rfl, HX.out⟩
end Go.Proofs.Ytbflodefmookiaa.Gr
