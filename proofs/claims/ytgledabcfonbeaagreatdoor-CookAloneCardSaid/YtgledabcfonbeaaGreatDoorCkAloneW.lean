/-
  The walk of CookAlone.
-/
import Derived.Test.YtgledabcfonbeaaGreatDoorCkCookR
import Derived.Test.YtgledabcfonbeaaGreatDoorCkJ19
import Derived.Test.YtgledabcfonbeaaGreatDoorCkRefP
import Derived.Test.YtgledabcfonbeaaGreatDoorCkJ20
import Derived.Test.YtgledabcfonbeaaGreatDoorCkJ11
import Derived.BigQuiet
namespace Go.Proofs.YtgledabcfonbeaaGreatDoor.Df
open Go.RowKit Go.Maps Go.Proofs.YtgledabcfonbeaaGreatDoor

theorem cook_call {w W : World} (hT : Tz w) (hW : Below w.heap.size w W) {t : Bs} (ht : t.length ≤ 900) {dv : Value} {decl : List Bs} (hd : Strs W dv decl) (hdl : decl.length ≤ 1000000) (hdx : ∀ x ∈ decl, x.length ≤ 9223372036854775807) {v2 : Value} {L : List Fl} {b : Nat} (hv : OwnFl W b v2 L) (hln : L.length ≤ 1000) (hnx : ∀ x ∈ L, x.1.length ≤ 200) (hbx : ∀ x ∈ L, x.2.length ≤ 200) :
    Calls Tryz.prog 13 #[.string (mk t), dv, v2] W (CoA W (cookL hashT (words [] t) decl L)) := by
  obtain ⟨U2, hf2, hcp2⟩ := hv.fls
  exact cook_a ht hd hf2 hdl hdx (by omega) (fun x hx => by have := hnx x hx; omega) (fun x hx => by have := hbx x hx; omega) hcp2 (fun o _ => sumC_all (hT.below hW) hbx o)

set_option maxRecDepth 100000 in
set_option maxHeartbeats 16000000 in
theorem alone_c {w : World} {s more : Bs} {dv fv mv : Value} {decl : List Bs} {L : List Fl} {U : List Value} (hT : Tz w) (hd : Strs w dv decl) (hdx : ∀ x ∈ decl, x.length ≤ 9223372036854775807) (h : Fls w fv L U) (hl : L.length ≤ 9223372036854775807) (hm : Byt w mv more) :
    Calls Tryz.prog 4 #[.agg #[.string (mk s), dv, fv, mv]] w fun e w' => e = .returned (.bool true) ∧ Below w.heap.size w w' := by
  have hsz := mk_size s
  have HD := Lib.hid hd
  have HH := Lib.hid h
  have HM := Lib.hid hm
  have HDX := Lib.hid hdx
  have HT := Lib.hid hT
  obtain ⟨da, dc, rfl, -, -⟩ := hd
  obtain ⟨-, a, c, rfl, -, -⟩ := h
  obtain ⟨ma, mc, rfl, -, -, -⟩ := hm
  obtain ⟨w1, hw1⟩ : ∃ W, w.alloc (.cells #[.string (mk s), .slice da decl.length dc, .slice a L.length c, .slice ma more.length mc] 34) = W := ⟨_, rfl⟩
  have b1 : Below w.heap.size w w1 := by rw [← hw1]; exact below_alloc _ _
  have n1 : w1.heap[w.heap.size]? = some (.cells #[.string (mk s), .slice da decl.length dc, .slice a L.length c, .slice ma more.length mc] 34 (0, 0)) := by rw [← hw1]; exact heap_alloc_new _ _
  have z0 : w1.cell? ⟨w.heap.size, 0, none⟩ = some (.string (mk s)) := cell_of_heap n1
  have z1 : w1.cell? ⟨w.heap.size, 1, none⟩ = some (.slice da decl.length dc) := cell_of_heap n1
  have z2 : w1.cell? ⟨w.heap.size, 2, none⟩ = some (.slice a L.length c) := cell_of_heap n1
  have z3 : w1.cell? ⟨w.heap.size, 3, none⟩ = some (.slice ma more.length mc) := cell_of_heap n1
  have HB1 := Lib.hid b1
  clear hdx hT b1 n1
  go_enter Tryz.func4, Tryz.ntmps4
  go_wp2_with fail
  go_quiet (fail)
  clear z0 z1 z2 z3
  have HBQ := Lib.hid (HB1.out.trans ((below_drewN w1 nq).mono HB1.out.size))
  generalize w1.drewN nq = wb at *
  clear hw1 HB1
  by_cases h300 : s.length ≤ 300
  rotate_left 1
  · have d1 : (300 : Int) < ((mk s).size : Int) := by rw [hsz]; omega
    clear hsz
    go_wp2_with fail
    go_ret
    exact ⟨rfl, HBQ.out⟩
  have d1 : ¬ (300 : Int) < ((mk s).size : Int) := by rw [hsz]; omega
  by_cases h20 : decl.length ≤ 20
  rotate_left 1
  · have d2 : (20 : Int) < (decl.length : Int) := by omega
    clear hsz
    go_wp2_with fail
    go_ret
    exact ⟨rfl, HBQ.out⟩
  have d2 : ¬ (20 : Int) < (decl.length : Int) := by omega
  have cl := light_c (HH.out.below HBQ.out) hl
  obtain ⟨z, hz⟩ : ∃ z, lightL L = z := ⟨_, rfl⟩
  rw [hz] at cl
  cases z with
  | false =>
    clear hz hsz
    go_wp2_with fail
    refine cl.mono ?_
    rintro e w2 ⟨rfl, rfl⟩
    clear cl
    go_wp2_with fail
    go_ret
    exact ⟨rfl, HBQ.out⟩
  | true =>
    by_cases hm200 : more.length ≤ 200
    rotate_left 1
    · have d3 : (200 : Int) < (more.length : Int) := by omega
      clear hz hsz
      go_wp2_with fail
      refine cl.mono ?_
      rintro e w2 ⟨rfl, rfl⟩
      clear cl
      go_wp2_with fail
      go_ret
      exact ⟨rfl, HBQ.out⟩
    have d3 : ¬ (200 : Int) < (more.length : Int) := by omega
    have hl10 : L.length ≤ 10 ∧ (∀ x ∈ L, x.2.length ≤ 200) ∧ ∀ x ∈ L, x.1.length ≤ 200 := by
      unfold lightL at hz
      rw [Bool.and_eq_true, decide_eq_true_iff, List.all_eq_true] at hz
      refine ⟨hz.1, fun x hx => ?_, fun x hx => ?_⟩ <;>
      · have := hz.2 x hx
        unfold shortF at this
        rw [Bool.and_eq_true, decide_eq_true_iff, decide_eq_true_iff] at this
        first | exact this.1 | exact this.2
    have HL := Lib.hid hl10
    have HS := Lib.hid (And.intro h300 (And.intro h20 hm200))
    have co := of_c (HH.out.below HBQ.out) (by omega) (fun x hx => by have := hl10.2.1 x hx; omega)
    clear hz hl10 h300 h20 hm200 hl
    go_wp2_with fail
    refine cl.mono ?_
    rintro e w2 ⟨rfl, rfl⟩
    clear cl
    go_wp2_with fail
    refine co.mono ?_
    rintro e w2 ⟨v2, rfl, hown, hb2⟩
    have HB2 := Lib.hid (HBQ.out.trans (hb2.mono HBQ.out.size))
    have ck := cook_call HT.out HB2.out (t := s) (by have := HS.out.1; omega) (HD.out.below HB2.out) (by have := HS.out.2.1; omega) HDX.out hown (by have := HL.out.1; omega) HL.out.2.2 HL.out.2.1
    obtain ⟨r, hr⟩ : ∃ r, cookL hashT (words [] s) decl L = r := ⟨_, rfl⟩
    rw [hr] at ck
    have HR := Lib.hid hr
    clear co hown hb2 hr
    cases r with
    | none =>
      go_wp2_with fail
      refine ck.mono ?_
      rintro e w3 ⟨⟨C, er, rfl, hO⟩, hb3⟩
      obtain ⟨rfl, hC0⟩ := hO
      have hC : C = #[.slice none 0 0, .bool false, .string ⟨#[]⟩, .string ⟨#[]⟩] := hC0
      clear hC0
      subst hC
      have HB3 := Lib.hid (HB2.out.trans (hb3.mono HB2.out.size))
      clear ck hb3
      go_upto_region 5 with fail
      obtain ⟨V, hV⟩ : ∃ V, w3.alloc (.cells #[.slice none 0 0, .bool false, .string ⟨#[]⟩, .string ⟨#[]⟩] 36) = V := ⟨_, rfl⟩
      rw [hV]
      have bV : Below w3.heap.size w3 V := by rw [← hV]; exact below_alloc _ _
      have HBV := Lib.hid (HB3.out.trans (bV.mono HB3.out.size))
      have ca := awake_c V
      clear hV bV
      go_wp2_with fail
      refine ca.mono ?_
      rintro e w5 ⟨rfl, hb5⟩
      have HB5 := Lib.hid (HBV.out.trans (hb5.mono HBV.out.size))
      clear ca hb5
      go_wp2_with fail
      go_ret
      exact ⟨rfl, HB5.out⟩
    | some q =>
      obtain ⟨o, p⟩ := q
      obtain ⟨k1, -, k3⟩ := cookL_ok (fun r => by rw [hashT_len]; omega) HR.out
      have K1 := Lib.hid k1
      clear k1 k3
      go_wp2_with fail
      refine ck.mono ?_
      rintro e w3 ⟨⟨C, er, rfl, hO⟩, hb3⟩
      obtain ⟨rfl, base, -, hdiv⟩ := hO
      obtain ⟨g, c1, hC, hoc, hoc9, hdsh⟩ := hdiv.dsh K1.out
      injection hC with hC
      subst hC
      have HB3 := Lib.hid (HB2.out.trans (hb3.mono HB2.out.size))
      have HDSH := Lib.hid hdsh
      clear ck hb3 hdiv hdsh
      go_upto_region 5 with fail
      obtain ⟨V, hV⟩ : ∃ V, w3.alloc (.cells #[.slice (some ⟨g, 0, none⟩) o.outs.length c1, .bool o.once, .string (mk o.dep), .string (mk (depsT o p.2))] 36) = V := ⟨_, rfl⟩
      rw [hV]
      have bV : Below w3.heap.size w3 V := by rw [← hV]; exact below_alloc _ _
      have nV : V.heap[w3.heap.size]? = some (.cells #[.slice (some ⟨g, 0, none⟩) o.outs.length c1, .bool o.once, .string (mk o.dep), .string (mk (depsT o p.2))] 36 (0, 0)) := by rw [← hV]; exact heap_alloc_new _ _
      have HNV := Lib.hid nV
      have HBV := Lib.hid (HB3.out.trans (bV.mono HB3.out.size))
      have HDV := Lib.hid (HDSH.out.below bV)
      clear hV bV nV HDSH
      have cw := words_rc (w := V) (s := s) (by have := HS.out.1; omega)
      obtain ⟨ws, hws⟩ : ∃ ws, words [] s = ws := ⟨_, rfl⟩
      rw [hws] at cw
      have HWS := Lib.hid hws
      clear hws
      go_wp2_with fail
      refine cw.mono ?_
      rintro e w4 ⟨ka, kc, rfl, hkr, hb4⟩
      have HK := Lib.hid hkr
      have HV4 := Lib.hid hb4
      have d2 : w4.cell? ⟨w3.heap.size, 2, none⟩ = some (.string (mk o.dep)) := (cell_of_block (hb4.block _ (lt_some HNV.out))).trans (cell_of_heap HNV.out)
      have d3 : w4.cell? ⟨w3.heap.size, 3, none⟩ = some (.string (mk (depsT o p.2))) := (cell_of_block (hb4.block _ (lt_some HNV.out))).trans (cell_of_heap HNV.out)
      clear cw hkr hb4
      by_cases hdep : o.dep = []
      · have e0 : (mk o.dep).toList.isEmpty = true := by rw [mk_toList, hdep]; rfl
        have HDEP := Lib.hid hdep
        clear hdep
        go_wp2_with fail
        have HKIN : Hid (∀ x, x ∈ ws ∨ x ∈ p.2 → x ∈ ws) := Lib.hid fun x hx => by
          rcases hx with hx | hx
          · exact hx
          · have h1 := cookL_none_found HR.out HDEP.out (fun h => by obtain ⟨_, _, F⟩ := readL_form h; exact F.inc) (fun h hv => by
              rcases done_cases h with ⟨_, _, h2⟩ | ⟨_, _, _, _, _, _, h2⟩ | ⟨_, _, _, _, _, h2⟩ | ⟨_, _, h2⟩ | ⟨h2, _⟩
              · exact h2
              · exact h2
              · exact h2
              · exact h2
              · exact absurd h2 hv)
            rw [h1] at hx
            cases hx
        have HY := Lib.hid (HBV.out.trans (HV4.out.mono HBV.out.size))
        have HKS := Lib.hid (owns_strs HK.out)
        have hKl : ws.length ≤ 1000000 := by have h1 := words_len s []; simp only [if_true] at h1; rw [HWS.out] at h1; have := HS.out.1; omega
        have HZ0 : Hid (somV ws ((L.zip U).take 0) = []) := Lib.hid rfl
        go_loopw [13, 14, 15] (fun s1 s2 i wr => ∃ (j : Nat) (a1 : Option Addr) (c2 : Nat) (L1 : List (Bs × Value)) (a2 : Option Addr) (c3 : Nat) (L2 : List (Bs × Value)), j ≤ L.length ∧ i = .int .i64 j ∧ s1 = .slice a1 L1.length c2 ∧ s2 = .slice a2 L2.length c3 ∧ Hid (L1 = somV ws ((L.zip U).take j)) ∧ Hid (L2 = turnV ws (.slice ma more.length mc) ((L.zip U).take j)) ∧ Hid (Tw w4.heap.size wr a1 c2 L1 a2 c3 L2) ∧ Hid (Below w4.heap.size w4 wr)) (fun _ _ i _ => L.length - (intOf i).toNat)
        case atStart => exact ⟨0, none, 0, [], none, 0, [], Nat.zero_le _, rfl, rfl, rfl, Lib.hid rfl, Lib.hid rfl, Lib.hid ⟨World.ownsRow_nil _ _ _ _, World.ownsRow_nil _ _ _ _, fun q hq => by cases hq⟩, Lib.hid (Below.refl _ _)⟩
        case round =>
          obtain ⟨j, a1, c2, L1, a2, c3, L2, hj, rfl, rfl, rfl, hL1, hL2, hTw, hB⟩ := hrel
          by_cases hlt : j < L.length
          · obtain ⟨x, hx⟩ : ∃ x, L[j]? = some x := ⟨_, List.getElem?_eq_getElem hlt⟩
            obtain ⟨gl, ol, c9, ua, uc, e, hgl, hU, k0, k1, -⟩ := HH.out.at hx
            cases e
            have hSf : ∀ W, Below w4.heap.size w4 W → W.cell? ⟨gl, ol + j * 2, none⟩ = some (.string (mk x.1)) ∧ W.cell? ⟨gl, ol + j * 2 + 1, none⟩ = some (.slice ua x.2.length uc) := fun W hW => by
              have h1 := HY.out.trans (hW.mono HY.out.size)
              exact ⟨(cell_of_block (h1.block gl hgl)).trans k0, (cell_of_block (h1.block gl hgl)).trans k1⟩
            have e0 := (hSf wr hB.out).1
            have e1 := (hSf wr hB.out).2
            have hz := zip_at2 hx hU
            have hs1 := somV_snoc (K := ws) hz
            have hs2 := turnV_snoc (K := ws) (mv := .slice ma more.length mc) hz
            have hi0 : (0 : Int) ≤ (j : Int) := by omega
            have hi1 : (j : Int) < (L.length : Int) := by omega
            have hB0 := hB.out
            have hn10 : L.length ≤ 10 := HL.out.1
            have hll1 : L1.length ≤ 10 := by
              rw [hL1.out]
              unfold somV
              rw [List.length_map]
              have h1 := List.length_filter_le (fun q : Fl × Value => ws.contains q.1.1) ((L.zip U).take j)
              rw [List.length_take] at h1
              have := HL.out.1
              omega
            have hll2 : L2.length ≤ 10 := by
              rw [hL2.out]
              unfold turnV
              rw [List.length_map, List.length_take]
              have := HL.out.1
              omega
            have cin := in_c x.1 (HKS.out.below hB.out) hKl
            have HSF := Lib.hid hSf
            clear k0 k1 hSf
            cases hkc : ws.contains x.1 with
            | true =>
              rw [hkc] at cin
              have hc1 : ws.contains ((x, Value.slice ua x.2.length uc).1.1) = true := hkc
              rw [if_pos hc1] at hs1 hs2
              clear hz hU hc1 hx
              go_wp2_with fail
              refine cin.mono ?_
              rintro e w7 ⟨rfl, hb7⟩
              have hB7 := hB.out.trans (hb7.mono hB.out.size)
              have bd : Below w7.heap.size w7 w7.drew := ⟨rfl, rfl, rfl, Nat.le_refl _, fun _ _ => rfl⟩
              have hBd : Below w4.heap.size w4 w7.drew := hB7.trans (bd.mono hB7.size)
              have hT7 := tw_below (tw_below hTw.out hb7) bd
              have hA1 := below_alloc w7.drew (.cells #[.string (mk x.1), .slice ua x.2.length uc] 45)
              have hBA1 := hBd.trans (hA1.mono hBd.size)
              have hA2 := below_alloc (w7.drew.alloc (.cells #[.string (mk x.1), .slice ua x.2.length uc] 45)) (.cells #[.string (mk x.1), .slice ua x.2.length uc] 45)
              have hBA2 := hBA1.trans (hA2.mono hBA1.size)
              have hN1 : (w7.drew.alloc (.cells #[.string (mk x.1), .slice ua x.2.length uc] 45)).heap[w7.heap.size]? = some (.cells #[.string (mk x.1), .slice ua x.2.length uc] 45 (0, 0)) := heap_alloc_new w7.drew _
              have hN2 := (hA2.block _ (lt_some hN1)).trans hN1
              have hN3 := heap_alloc_new (w7.drew.alloc (.cells #[.string (mk x.1), .slice ua x.2.length uc] 45)) (.cells #[.string (mk x.1), .slice ua x.2.length uc] 45)
              have hown : ∀ q, w7.heap.size ≤ q → (Value.slice a1 L1.length c2).ownBlock ≠ some q := fun q hq e => by
                obtain ⟨_, cur, hc⟩ := owns_block hT7.one e
                have h9 : q < w7.heap.size := lt_some hc
                omega
              have hsz1 : (w7.drew.alloc (.cells #[.string (mk x.1), .slice ua x.2.length uc] 45)).heap.size = w7.heap.size + 1 := World.size_alloc w7.drew _
              obtain ⟨b1, d1, W1, r1, t1, bb1, -⟩ := push_one (tw_below hT7 hA1) hBA1 (by omega) w7.heap.size x.1 hN1
              have hA3 := below_alloc W1 (.cells #[.string (mk x.1), .slice ua x.2.length uc] 45)
              have hBA3 := bb1.trans (hA3.mono bb1.size)
              obtain ⟨b2, d2, W2, r2, t2, bb2, -⟩ := push_one (tw_swap (tw_below t1 hA3)) hBA3 (by omega) W1.heap.size x.1 (heap_alloc_new W1 _)
              obtain ⟨b3, d3, W3, b4, d4, W4, r3, r4, bb3, bb4, t4⟩ := push_two (tw_below (tw_below hT7 hA1) hA2) hBA2 (by omega) (by omega) w7.heap.size _ x.1 hN2 hN3 (hown _ (by rw [hsz1]; omega))
              obtain ⟨b5, d5, W5, b6, d6, W6, r5, r6, bb5, bb6, t6⟩ := push_two (tw_below (tw_below hT7 hA1) hA2) hBA2 (by omega) (by omega) _ w7.heap.size x.1 hN3 hN2 (hown _ (Nat.le_refl _))
              obtain ⟨M1, hM1⟩ : ∃ M1, L1 ++ [(x.1, Value.slice ua x.2.length uc)] = M1 := ⟨_, rfl⟩
              obtain ⟨M2, hM2⟩ : ∃ M2, L2 ++ [(x.1, Value.slice ua x.2.length uc)] = M2 := ⟨_, rfl⟩
              rw [hM1] at r1 t1 t2 r3 t4 r5 t6
              rw [hM2] at r2 t2 r4 t4 r6 t6
              have HLN1 : Hid (M1 = somV ws ((L.zip U).take (j + 1))) := Lib.hid (by rw [hs1, ← hL1.out, ← hM1])
              have HLN2 : Hid (M2 = turnV ws (.slice ma more.length mc) ((L.zip U).take (j + 1))) := Lib.hid (by rw [hs2, ← hL2.out, ← hM2])
              have RA1 := Lib.hid r1
              have RB1 := Lib.hid r2
              have RA2 := Lib.hid r3
              have RB2 := Lib.hid r4
              have RA3 := Lib.hid r5
              have RB3 := Lib.hid r6
              have HT1 := Lib.hid (tw_swap t2)
              have HT2 := Lib.hid t4
              have HT3 := Lib.hid t6
              have HB1 := Lib.hid bb2
              have HB2x := Lib.hid bb4
              have HB3x := Lib.hid bb6
              have S0 := HSF.out _ hBd
              have SD1 := HSF.out _ hBA1
              have SA1 := HSF.out _ bb1
              have SC1 := HSF.out _ hBA3
              have SB1 := HSF.out _ bb2
              have SC2 := HSF.out _ hBA2
              have SA2 := HSF.out _ bb3
              have SB2 := HSF.out _ bb4
              have SA3 := HSF.out _ bb5
              have SB3 := HSF.out _ bb6
              clear cin hb7 hB7 bd hBd hT7 hA1 hBA1 hA2 hBA2 hN1 hN2 hN3 hown hsz1 r1 t1 bb1 hA3 hBA3 r2 t2 bb2 r3 r4 bb3 bb4 t4 r5 r6 bb5 bb6 t6 hM1 hM2 hs1 hs2 hB0 e0 e1
              go_wp2_with fail
              refine Nt.wp_region_N 15 (fun w' => w'.cell? ⟨gl, ol + j * 2, none⟩ = some (.string (mk x.1)) ∧ w'.cell? ⟨gl, ol + j * 2 + 1, none⟩ = some (.slice ua x.2.length uc)) (by kernel_rfl) ?_
              refine Nt.takeT (i := 0) (oi := { dst := some 89, op := Op.move (Operand.tmp 13), type := 22, pos := _, after := #[], guard := Option.none }) (v := ?_) rfl (by kernel_rfl) (by kernel_rfl) (by kernel_rfl) (by kernel_rfl) (fun _ _ _ h => h) (Or.inl ⟨by rfl, ?_⟩) (fun _ => S0) ?_
              rotate_left 1
              · intro w hSw
                try dsimp only at hSw
                go_simp
                first | done | with_reducible rfl
              try simp only [Act.put, List.setIfInBounds_toArray, List.set_cons_zero, List.set_cons_succ]
              refine Nt.takeT (i := 1) (oi := { dst := some 90, op := Op.move (Operand.tmp 5), type := 22, pos := _, after := #[], guard := Option.none }) (v := ?_) rfl (by kernel_rfl) (by kernel_rfl) (by kernel_rfl) (by kernel_rfl) (fun _ _ _ h => h) (Or.inl ⟨by rfl, ?_⟩) (fun _ => S0) ?_
              rotate_left 1
              · intro w hSw
                try dsimp only at hSw
                go_simp
                first | done | with_reducible rfl
              try simp only [Act.put, List.setIfInBounds_toArray, List.set_cons_zero, List.set_cons_succ]
              refine Nt.takeT (i := 2) (oi := { dst := some 91, op := Op.move (Operand.tmp 15), type := 3, pos := _, after := #[], guard := Option.none }) (v := ?_) rfl (by kernel_rfl) (by kernel_rfl) (by kernel_rfl) (by kernel_rfl) (fun _ _ _ h => h) (Or.inl ⟨by rfl, ?_⟩) (fun _ => S0) ?_
              rotate_left 1
              · intro w hSw
                try dsimp only at hSw
                go_simp
                first | done | with_reducible rfl
              try simp only [Act.put, List.setIfInBounds_toArray, List.set_cons_zero, List.set_cons_succ]
              refine Nt.takeT (i := 3) (oi := { dst := some 92, op := Op.indexAddr 22 (Operand.tmp 90) (Operand.tmp 91), type := 0, pos := _, after := #[{ on := 1, ground := Ground.data }, { on := 2, ground := Ground.data }], guard := Option.none }) (v := ?_) rfl (by kernel_rfl) (by kernel_rfl) (by kernel_rfl) (by kernel_rfl) (fun _ _ _ h => h) (Or.inl ⟨by rfl, ?_⟩) (fun _ => S0) ?_
              rotate_left 1
              · intro w hSw
                try dsimp only at hSw
                go_simp
                first | done | with_reducible rfl
              try simp only [Act.put, List.setIfInBounds_toArray, List.set_cons_zero, List.set_cons_succ]
              refine Nt.takeS (i := 4) (oi := { dst := some 93, op := Op.load 45 (Operand.tmp 92), type := 45, pos := _, after := #[{ on := 3, ground := Ground.data }], guard := Option.none }) (v := ?_) rfl (by kernel_rfl) (by kernel_rfl) (by kernel_rfl) (by kernel_rfl) (by kernel_rfl) (by kernel_rfl) (fun _ _ _ h => h) (Or.inl ⟨by rfl, ?_⟩) S0 ?_
              rotate_left 1
              · intro w hSw
                try dsimp only at hSw
                go_simp
                first | done | with_reducible rfl
              try simp only [Act.put, List.setIfInBounds_toArray, List.set_cons_zero, List.set_cons_succ]
              refine Nt.takeT (i := 7) (oi := { dst := some 96, op := Op.move (Operand.tmp 14), type := 22, pos := _, after := #[], guard := Option.none }) (v := ?_) rfl (by kernel_rfl) (by kernel_rfl) (by kernel_rfl) (by kernel_rfl) (fun _ _ _ h => h) (Or.inl ⟨by rfl, ?_⟩) (fun _ => S0) ?_
              rotate_left 1
              · intro w hSw
                try dsimp only at hSw
                go_simp
                first | done | with_reducible rfl
              try simp only [Act.put, List.setIfInBounds_toArray, List.set_cons_zero, List.set_cons_succ]
              refine Nt.takeT (i := 8) (oi := { dst := some 97, op := Op.move (Operand.tmp 5), type := 22, pos := _, after := #[], guard := Option.none }) (v := ?_) rfl (by kernel_rfl) (by kernel_rfl) (by kernel_rfl) (by kernel_rfl) (fun _ _ _ h => h) (Or.inl ⟨by rfl, ?_⟩) (fun _ => S0) ?_
              rotate_left 1
              · intro w hSw
                try dsimp only at hSw
                go_simp
                first | done | with_reducible rfl
              try simp only [Act.put, List.setIfInBounds_toArray, List.set_cons_zero, List.set_cons_succ]
              refine Nt.takeT (i := 9) (oi := { dst := some 98, op := Op.move (Operand.tmp 15), type := 3, pos := _, after := #[], guard := Option.none }) (v := ?_) rfl (by kernel_rfl) (by kernel_rfl) (by kernel_rfl) (by kernel_rfl) (fun _ _ _ h => h) (Or.inl ⟨by rfl, ?_⟩) (fun _ => S0) ?_
              rotate_left 1
              · intro w hSw
                try dsimp only at hSw
                go_simp
                first | done | with_reducible rfl
              try simp only [Act.put, List.setIfInBounds_toArray, List.set_cons_zero, List.set_cons_succ]
              refine Nt.takeT (i := 10) (oi := { dst := some 99, op := Op.indexAddr 22 (Operand.tmp 97) (Operand.tmp 98), type := 0, pos := _, after := #[{ on := 8, ground := Ground.data }, { on := 9, ground := Ground.data }], guard := Option.none }) (v := ?_) rfl (by kernel_rfl) (by kernel_rfl) (by kernel_rfl) (by kernel_rfl) (fun _ _ _ h => h) (Or.inl ⟨by rfl, ?_⟩) (fun _ => S0) ?_
              rotate_left 1
              · intro w hSw
                try dsimp only at hSw
                go_simp
                first | done | with_reducible rfl
              try simp only [Act.put, List.setIfInBounds_toArray, List.set_cons_zero, List.set_cons_succ]
              refine Nt.takeS (i := 11) (oi := { dst := some 100, op := Op.load 45 (Operand.tmp 99), type := 45, pos := _, after := #[{ on := 10, ground := Ground.data }], guard := Option.none }) (v := ?_) rfl (by kernel_rfl) (by kernel_rfl) (by kernel_rfl) (by kernel_rfl) (by kernel_rfl) (by kernel_rfl) (fun _ _ _ h => h) (Or.inl ⟨by rfl, ?_⟩) S0 ?_
              rotate_left 1
              · intro w hSw
                try dsimp only at hSw
                go_simp
                first | done | with_reducible rfl
              try simp only [Act.put, List.setIfInBounds_toArray, List.set_cons_zero, List.set_cons_succ]
              refine Nt.twoN (i := 5) (j := 12) (by kernel_rfl) rfl rfl (fun K hK => ?_) (fun K hK => ?_)
              · go_simp
                refine hK.out _ _ (fun _ => SD1) ?_
                clear hK K
                try simp only [Act.put, List.setIfInBounds_toArray, List.set_cons_zero, List.set_cons_succ]
                refine Nt.twoN (i := 6) (j := 12) (by kernel_rfl) rfl rfl (fun K hK => ?_) (fun K hK => ?_)
                · refine step_run2 rfl (.tmp 89) (.tmp 94) rfl (by simp [Act.eval]) (by simp [Act.eval]) RA1.out ?_
                  refine hK.out _ _ (fun _ => SA1) ?_
                  clear hK K
                  try simp only [Act.put, List.setIfInBounds_toArray, List.set_cons_zero, List.set_cons_succ]
                  refine Nt.nextN (i := 12) (by kernel_rfl) rfl (fun K hK => ?_)
                  go_simp
                  refine hK.out _ _ (fun _ => SC1) ?_
                  clear hK K
                  try simp only [Act.put, List.setIfInBounds_toArray, List.set_cons_zero, List.set_cons_succ]
                  refine Nt.nextN (i := 13) (by kernel_rfl) rfl (fun K hK => ?_)
                  refine step_run2 rfl (.tmp 96) (.tmp 101) rfl (by simp [Act.eval]) (by simp [Act.eval]) RB1.out ?_
                  refine hK.out _ _ (fun _ => SB1) ?_
                  clear hK K
                  try simp only [Act.put, List.setIfInBounds_toArray, List.set_cons_zero, List.set_cons_succ]
                  refine Nt.nextN (i := 14) (by kernel_rfl) rfl (fun K hK => ?_)
                  go_simp
                  refine hK.out _ _ (fun _ => SB1) ?_
                  clear hK K
                  try simp only [Act.put, List.setIfInBounds_toArray, List.set_cons_zero, List.set_cons_succ]
                  refine Nt.nextN (i := 15) (by kernel_rfl) rfl (fun K hK => ?_)
                  go_simp
                  refine hK.out _ _ (fun h => by simp at h) ?_
                  clear hK K
                  try simp only [Act.put, List.setIfInBounds_toArray, List.set_cons_zero, List.set_cons_succ]
                  refine Nt.doneN (by kernel_rfl) ?_ _
                  go_wp2_with fail
                  go_roundw
                  case rel => exact ⟨j + 1, _, _, _, _, _, _, by omega, by go_num, rfl, rfl, HLN1, HLN2, HT1, HB1⟩
                  case measure => simp [intOf] <;> omega
                · go_simp
                  refine hK.out _ _ (fun _ => SC2) ?_
                  clear hK K
                  try simp only [Act.put, List.setIfInBounds_toArray, List.set_cons_zero, List.set_cons_succ]
                  refine Nt.nextN (i := 6) (by kernel_rfl) rfl (fun K hK => ?_)
                  refine step_run2 rfl (.tmp 89) (.tmp 94) rfl (by simp [Act.eval]) (by simp [Act.eval]) RA2.out ?_
                  refine hK.out _ _ (fun _ => SA2) ?_
                  clear hK K
                  try simp only [Act.put, List.setIfInBounds_toArray, List.set_cons_zero, List.set_cons_succ]
                  refine Nt.nextN (i := 13) (by kernel_rfl) rfl (fun K hK => ?_)
                  refine step_run2 rfl (.tmp 96) (.tmp 101) rfl (by simp [Act.eval]) (by simp [Act.eval]) RB2.out ?_
                  refine hK.out _ _ (fun _ => SB2) ?_
                  clear hK K
                  try simp only [Act.put, List.setIfInBounds_toArray, List.set_cons_zero, List.set_cons_succ]
                  refine Nt.nextN (i := 14) (by kernel_rfl) rfl (fun K hK => ?_)
                  go_simp
                  refine hK.out _ _ (fun _ => SB2) ?_
                  clear hK K
                  try simp only [Act.put, List.setIfInBounds_toArray, List.set_cons_zero, List.set_cons_succ]
                  refine Nt.nextN (i := 15) (by kernel_rfl) rfl (fun K hK => ?_)
                  go_simp
                  refine hK.out _ _ (fun h => by simp at h) ?_
                  clear hK K
                  try simp only [Act.put, List.setIfInBounds_toArray, List.set_cons_zero, List.set_cons_succ]
                  refine Nt.doneN (by kernel_rfl) ?_ _
                  go_wp2_with fail
                  go_roundw
                  case rel => exact ⟨j + 1, _, _, _, _, _, _, by omega, by go_num, rfl, rfl, HLN1, HLN2, HT2, HB2x⟩
                  case measure => simp [intOf] <;> omega
              · go_simp
                refine hK.out _ _ (fun _ => SD1) ?_
                clear hK K
                try simp only [Act.put, List.setIfInBounds_toArray, List.set_cons_zero, List.set_cons_succ]
                refine Nt.nextN (i := 5) (by kernel_rfl) rfl (fun K hK => ?_)
                go_simp
                refine hK.out _ _ (fun _ => SC2) ?_
                clear hK K
                try simp only [Act.put, List.setIfInBounds_toArray, List.set_cons_zero, List.set_cons_succ]
                refine Nt.nextN (i := 6) (by kernel_rfl) rfl (fun K hK => ?_)
                refine step_run2 rfl (.tmp 89) (.tmp 94) rfl (by simp [Act.eval]) (by simp [Act.eval]) RA3.out ?_
                refine hK.out _ _ (fun _ => SA3) ?_
                clear hK K
                try simp only [Act.put, List.setIfInBounds_toArray, List.set_cons_zero, List.set_cons_succ]
                refine Nt.nextN (i := 13) (by kernel_rfl) rfl (fun K hK => ?_)
                refine step_run2 rfl (.tmp 96) (.tmp 101) rfl (by simp [Act.eval]) (by simp [Act.eval]) RB3.out ?_
                refine hK.out _ _ (fun _ => SB3) ?_
                clear hK K
                try simp only [Act.put, List.setIfInBounds_toArray, List.set_cons_zero, List.set_cons_succ]
                refine Nt.nextN (i := 14) (by kernel_rfl) rfl (fun K hK => ?_)
                go_simp
                refine hK.out _ _ (fun _ => SB3) ?_
                clear hK K
                try simp only [Act.put, List.setIfInBounds_toArray, List.set_cons_zero, List.set_cons_succ]
                refine Nt.nextN (i := 15) (by kernel_rfl) rfl (fun K hK => ?_)
                go_simp
                refine hK.out _ _ (fun h => by simp at h) ?_
                clear hK K
                try simp only [Act.put, List.setIfInBounds_toArray, List.set_cons_zero, List.set_cons_succ]
                refine Nt.doneN (by kernel_rfl) ?_ _
                go_wp2_with fail
                go_roundw
                case rel => exact ⟨j + 1, _, _, _, _, _, _, by omega, by go_num, rfl, rfl, HLN1, HLN2, HT3, HB3x⟩
                case measure => simp [intOf] <;> omega
            | false =>
              rw [hkc] at cin
              have hc1 : ¬ ws.contains ((x, Value.slice ua x.2.length uc).1.1) = true := by
                show ¬ ws.contains x.1 = true
                rw [hkc]
                exact Bool.false_ne_true
              rw [if_neg hc1, List.append_nil] at hs1
              rw [if_neg hc1] at hs2
              clear hz hU hc1 hx
              go_wp2_with fail
              refine cin.mono ?_
              rintro e w7 ⟨rfl, hb7⟩
              have hB7 := hB.out.trans (hb7.mono hB.out.size)
              have hA := below_alloc w7 (.cells #[.string (mk x.1), .slice ma more.length mc] 45)
              have hTA := tw_below (tw_below hTw.out hb7) hA
              obtain ⟨a9, c8, W2, hrun, hT2, hg2⟩ := tw_push (tw_swap hTA) (Nat.le_trans hB7.size hA.size) (by omega) x.1 (ba := ma) (bn := more.length) (bc := mc) (q := w7.heap.size) (heap_alloc_new _ _)
              have HRUN := Lib.hid hrun
              have f0 := (HSF.out w7 hB7).1
              obtain ⟨L3, hL3⟩ : ∃ L3, L2 ++ [(x.1, Value.slice ma more.length mc)] = L3 := ⟨_, rfl⟩
              rw [hL3] at HRUN hT2
              have HT2 := Lib.hid (tw_swap hT2)
              have HLN2 : Hid (L3 = turnV ws (.slice ma more.length mc) ((L.zip U).take (j + 1))) := Lib.hid (by rw [hs2, ← hL2.out, ← hL3])
              have HLN1 : Hid (L1 = somV ws ((L.zip U).take (j + 1))) := Lib.hid (by rw [hs1, ← hL1.out])
              have HB2w : Hid (Below w4.heap.size w4 W2) := Lib.hid (by
                have h9 := hB7.trans (hA.mono hB7.size)
                exact h9.trans ⟨hg2.os, hg2.tape, hg2.output, hg2.size, fun q hq => hg2.block q (Nat.lt_of_lt_of_le hq h9.size) (fun e => by
                  have := (owns_block hTw.out.two e.symm).1
                  omega)⟩)
              clear cin hB7 hA hTA hrun hT2 hg2 hL3 hs1 hs2 hB0 e0 e1
              go_wp2_with (at_builtin; refine wpList_run rfl (.tmp 103) (.tmp 111) rfl rfl rfl HRUN.out ?_)
              go_roundw
              case rel => exact ⟨j + 1, a1, c2, L1, a9, c8, L3, by omega, by go_num, rfl, rfl, HLN1, HLN2, HT2, HB2w⟩
              case measure => simp [intOf] <;> omega
          · obtain rfl : j = L.length := by omega
            have hn10 : L.length ≤ 10 := HL.out.1
            have hBw := HY.out.trans (hB.out.mono HY.out.size)
            obtain ⟨hU, hzq⟩ := fls_zip (HH.out.below hBw)
            have htk : (L.zip U).take L.length = L.zip U := List.take_of_length_le (by rw [List.length_zip]; omega)
            have hv1 : L1 = somV ws (L.zip U) := by rw [hL1.out, htk]
            have hv2 : L2 = turnV ws (.slice ma more.length mc) (L.zip U) := by rw [hL2.out, htk]
            obtain ⟨f1, n1⟩ := fls_somV hU hzq hv1 hTw.out.one
            obtain ⟨f2, n2⟩ := fls_turnV hU hzq (HM.out.below hBw) hv2 hTw.out.two
            have hk1 : cookL hashT ws decl (someL ws L) = some (o, p) := cookL_same (fun x h => h) (fun x hx => fileL_some (HKIN.out x hx) L) (by rw [← HWS.out]; exact HR.out)
            have hk2 : cookL hashT ws (decl ++ [[122, 122]]) (turnL ws more L) = some (o, p) := cookL_same (fun x h => List.mem_append_left _ h) (fun x hx => fileL_turn (HKIN.out x hx) L) (by rw [← HWS.out]; exact HR.out)
            have hm1 : (someL ws L).length ≤ 10 ∧ (∀ x ∈ someL ws L, x.2.length ≤ 200) ∧ ∀ x ∈ someL ws L, x.1.length ≤ 200 := by
              unfold someL
              refine ⟨Nat.le_trans (List.length_filter_le _ _) hn10, fun x hx => HL.out.2.1 x (List.mem_filter.1 hx).1, fun x hx => HL.out.2.2 x (List.mem_filter.1 hx).1⟩
            have hm2 : (turnL ws more L).length ≤ 10 ∧ (∀ x ∈ turnL ws more L, x.2.length ≤ 200) ∧ ∀ x ∈ turnL ws more L, x.1.length ≤ 200 := by
              unfold turnL
              refine ⟨by rw [List.length_map]; exact hn10, fun x hx => ?_, fun x hx => ?_⟩
              · obtain ⟨y, hy, rfl⟩ := List.mem_map.1 hx
                by_cases hc : ws.contains y.1 = true
                · rw [if_pos hc]; exact HL.out.2.1 y hy
                · rw [if_neg hc]; exact HS.out.2.2
              · obtain ⟨y, hy, rfl⟩ := List.mem_map.1 hx
                by_cases hc : ws.contains y.1 = true
                · rw [if_pos hc]; exact HL.out.2.2 y hy
                · rw [if_neg hc]; exact HL.out.2.2 y hy
            rw [n1, n2]
            generalize someL ws L = M1 at *
            generalize turnL ws more L = M2 at *
            have HM1 := Lib.hid hm1
            have HM2 := Lib.hid hm2
            have HK1 := Lib.hid hk1
            have HK2 := Lib.hid hk2
            have HF2 := Lib.hid f2
            have HBW := Lib.hid hBw
            have co1 := of_c f1 (by omega) (fun x hx => by have := hm1.2.1 x hx; omega)
            clear hU hzq htk hv1 hv2 f1 f2 n1 n2 hk1 hk2 hm1 hm2 hBw hL1 hL2 hTw
            go_wp2_with fail
            refine co1.mono ?_
            rintro e w8 ⟨v8, rfl, hown8, hb8⟩
            have HB8 := Lib.hid (HBW.out.trans (hb8.mono HBW.out.size))
            have HW8 := Lib.hid hb8
            have ck1 := cook_call HT.out HB8.out (t := s) (by have := HS.out.1; omega) (HD.out.below HB8.out) (by have := HS.out.2.1; omega) HDX.out hown8 (by have := HM1.out.1; omega) HM1.out.2.2 HM1.out.2.1
            rw [HWS.out, HK1.out] at ck1
            clear co1 hown8 hb8
            go_wp2_with fail
            refine ck1.mono ?_
            rintro e w9 ⟨⟨C, er, rfl, hO⟩, hb9⟩
            obtain ⟨rfl, base9, -, hdiv9⟩ := hO
            obtain ⟨g2, c4, hC, ho4, -, hds2⟩ := hdiv9.dsh K1.out
            injection hC with hC
            have hC2 : C = #[.slice (some ⟨g2, 0, none⟩) o.outs.length c4, .bool o.once, .string (mk o.dep), .string (mk (depsT o p.2))] := hC
            clear hC
            subst hC2
            have HB9 := Lib.hid (HB8.out.trans (hb9.mono HB8.out.size))
            have HW9 := Lib.hid (HW8.out.trans (hb9.mono HW8.out.size))
            have HD2 := Lib.hid hds2
            clear ck1 hb9 hdiv9 hds2
            go_upto_region 21 with fail
            obtain ⟨V2, hV2⟩ : ∃ V, w9.alloc (.cells #[.slice (some ⟨g2, 0, none⟩) o.outs.length c4, .bool o.once, .string (mk o.dep), .string (mk (depsT o p.2))] 36) = V := ⟨_, rfl⟩
            rw [hV2]
            have bV2 : Below w9.heap.size w9 V2 := by rw [← hV2]; exact below_alloc _ _
            have nV2 : V2.heap[w9.heap.size]? = some (.cells #[.slice (some ⟨g2, 0, none⟩) o.outs.length c4, .bool o.once, .string (mk o.dep), .string (mk (depsT o p.2))] 36 (0, 0)) := by rw [← hV2]; exact heap_alloc_new _ _
            have HX2 := Lib.hid nV2
            have HBV2 := Lib.hid (HB9.out.trans (bV2.mono HB9.out.size))
            have HWV2 := Lib.hid (HW9.out.trans (bV2.mono HW9.out.size))
            have HDV2 := Lib.hid (HD2.out.below bV2)
            have hA5 := below_alloc V2 (.cells #[.string (mk [122, 122])] 9)
            have hzz := run_zz ((HD.out.below HBV2.out).below hA5) (by have := HS.out.2.1; omega) (q := V2.heap.size) (x := [122, 122]) (heap_alloc_new V2 _)
            obtain ⟨a5, c5, W5, hrun5, hs5, hb5⟩ := hzz
            have HDX2 : Hid (∀ x ∈ decl ++ [[122, 122]], x.length ≤ 9223372036854775807) := Lib.hid fun x hx => by
              rcases List.mem_append.1 hx with hx | hx
              · exact HDX.out x hx
              · rw [List.mem_singleton.1 hx]; show 2 ≤ _; omega
            have HDL2 : Hid ((decl ++ [[122, 122]]).length ≤ 1000000) := Lib.hid (by rw [List.length_append]; have := HS.out.2.1; show _ + 1 ≤ _; omega)
            generalize decl ++ [[122, 122]] = D2 at *
            have hb25 := hA5.trans (hb5.mono hA5.size)
            have HRUN5 := Lib.hid hrun5
            have HS5 := Lib.hid hs5
            have HB25 := Lib.hid hb25
            have HB5 := Lib.hid (HBV2.out.trans (hb25.mono HBV2.out.size))
            have co2 := of_c ((HF2.out.below HWV2.out).below hb25) (by have := HM2.out.1; omega) (fun x hx => by have := HM2.out.2.1 x hx; omega)
            have hi5 : (0 : Int) ≤ (decl.length : Int) := by omega
            have hdc : decl.length ≤ dc := by
              obtain ⟨_, cc, e, h1, -⟩ := HD.out
              cases e
              exact h1
            clear hV2 bV2 nV2 HD2 hA5 hrun5 hs5 hb5 hb25
            go_wp2_with (at_builtin; refine wpList_run rfl (.tmp 128) (.tmp 129) rfl rfl rfl HRUN5.out ?_)
            refine co2.mono ?_
            rintro e w10 ⟨v10, rfl, hown10, hb10⟩
            have HB10 := Lib.hid (HB5.out.trans (hb10.mono HB5.out.size))
            have HW10 := Lib.hid (HB25.out.trans (hb10.mono HB25.out.size))
            have ck2 := cook_call HT.out HB10.out (t := s) (by have := HS.out.1; omega) (HS5.out.below hb10) HDL2.out HDX2.out hown10 (by have := HM2.out.1; omega) HM2.out.2.2 HM2.out.2.1
            rw [HWS.out, HK2.out] at ck2
            clear co2 hown10 hb10
            go_wp2_with fail
            refine ck2.mono ?_
            rintro e w11 ⟨⟨C, er, rfl, hO⟩, hb11⟩
            obtain ⟨rfl, base11, -, hdiv11⟩ := hO
            obtain ⟨g3, c6, hC, ho6, -, hds3⟩ := hdiv11.dsh K1.out
            injection hC with hC
            have hC2 : C = #[.slice (some ⟨g3, 0, none⟩) o.outs.length c6, .bool o.once, .string (mk o.dep), .string (mk (depsT o p.2))] := hC
            clear hC
            subst hC2
            have HB11 := Lib.hid (HB10.out.trans (hb11.mono HB10.out.size))
            have HW11 := Lib.hid (HW10.out.trans (hb11.mono HW10.out.size))
            have HD3 := Lib.hid hds3
            clear ck2 hb11 hdiv11 hds3
            go_upto_region 22 with fail
            obtain ⟨V3, hV3⟩ : ∃ V, w11.alloc (.cells #[.slice (some ⟨g3, 0, none⟩) o.outs.length c6, .bool o.once, .string (mk o.dep), .string (mk (depsT o p.2))] 36) = V := ⟨_, rfl⟩
            rw [hV3]
            have bV3 : Below w11.heap.size w11 V3 := by rw [← hV3]; exact below_alloc _ _
            have nV3 : V3.heap[w11.heap.size]? = some (.cells #[.slice (some ⟨g3, 0, none⟩) o.outs.length c6, .bool o.once, .string (mk o.dep), .string (mk (depsT o p.2))] 36 (0, 0)) := by rw [← hV3]; exact heap_alloc_new _ _
            have HX3 := Lib.hid nV3
            have HBV3 := Lib.hid (HB11.out.trans (bV3.mono HB11.out.size))
            have HWV3 := Lib.hid (HW11.out.trans (bV3.mono HW11.out.size))
            have HDV3 := Lib.hid (HD3.out.below bV3)
            have hparts : readL (words [] s) = some o ∧ doneO hashT decl (fileL L) o.verb o.args = some (p.1, p.2) := by
              have hr0 := HR.out
              unfold cookL at hr0
              cases hrl : readL (words [] s) with
              | none => rw [hrl] at hr0; cases hr0
              | some q =>
                rw [hrl] at hr0
                have hr1 : (doneO hashT decl (fileL L) q.verb q.args).map (fun p => (q, p)) = some (o, p) := hr0
                cases hd2 : doneO hashT decl (fileL L) q.verb q.args with
                | none => rw [hd2] at hr1; cases hr1
                | some d =>
                  rw [hd2] at hr1
                  cases hr1
                  exact ⟨rfl, hd2⟩
            have cr := refCook_c (w := V3) (s := s) (by have := HS.out.1; omega) (HD.out.below HBV3.out) (by have := HS.out.2.1; omega) (HH.out.below HBV3.out) (by have := HL.out.1; omega) HL.out.2.1 hparts.1 hparts.2
            have HOL : Hid (o.outs.length ≤ 1000000) := Lib.hid (by
              have h1 := (readL_ok hparts.1).2.2.2.2.2.2
              have h2 := words_len s []
              simp only [if_true] at h2
              have := HS.out.1
              omega)
            clear hV3 bV3 nV3 HD3 hparts
            go_wp2_with fail
            refine cr.mono ?_
            rintro e w12 ⟨⟨C, rfl, hdrv⟩, hb12⟩
            obtain ⟨g4, c7, u4, k4, hC, ho7, hg4, hby4, hce4⟩ := hdrv
            injection hC with hC
            have hC2 : C = #[.slice (some ⟨g4, 0, none⟩) o.outs.length c7, .bool o.once, .string (mk o.dep), .string (mk (depsT o p.2))] := hC
            clear hC
            subst hC2
            have hds4 : Dsh w12 g4 o.outs p.1 := ⟨hg4, fun j x hx => ⟨(hce4 j x hx).1, u4, k4, (hce4 j x hx).2, hby4⟩⟩
            have HB12 := Lib.hid (HBV3.out.trans (hb12.mono HBV3.out.size))
            have HW12 := Lib.hid hb12
            have HD4 := Lib.hid hds4
            clear cr hb12 hg4 hby4 hce4 hds4
            go_upto_region 23 with fail
            obtain ⟨V4, hV4⟩ : ∃ V, w12.alloc (.cells #[.slice (some ⟨g4, 0, none⟩) o.outs.length c7, .bool o.once, .string (mk o.dep), .string (mk (depsT o p.2))] 47) = V := ⟨_, rfl⟩
            rw [hV4]
            have bV4 : Below w12.heap.size w12 V4 := by rw [← hV4]; exact below_alloc _ _
            have nV4 : V4.heap[w12.heap.size]? = some (.cells #[.slice (some ⟨g4, 0, none⟩) o.outs.length c7, .bool o.once, .string (mk o.dep), .string (mk (depsT o p.2))] 47 (0, 0)) := by rw [← hV4]; exact heap_alloc_new _ _
            have b34 := HW12.out.trans (bV4.mono HW12.out.size)
            have b24 := HWV3.out.trans (b34.mono HWV3.out.size)
            have HX4 := Lib.hid nV4
            have HX3b := Lib.hid ((b34.block _ (lt_some HX3.out)).trans HX3.out)
            have HX2b := Lib.hid ((b24.block _ (lt_some HX2.out)).trans HX2.out)
            have HDa := Lib.hid (HDV2.out.below b24)
            have HDb := Lib.hid (HDV3.out.below b34)
            have HDc := Lib.hid (HD4.out.below bV4)
            have HBV4 := Lib.hid (HB12.out.trans (bV4.mono HB12.out.size))
            have cs1 := same_c HDa.out HDc.out ho4 ho7 HOL.out (on := o.once) (sd := mk o.dep) (ss := mk (depsT o p.2))
            have cs2 : ∀ W, Below V4.heap.size V4 W → Calls Tryz.prog 18 #[.agg #[.slice (some ⟨g3, 0, none⟩) o.outs.length c6, .bool o.once, .string (mk o.dep), .string (mk (depsT o p.2))], .agg #[.slice (some ⟨g4, 0, none⟩) o.outs.length c7, .bool o.once, .string (mk o.dep), .string (mk (depsT o p.2))]] W fun e w' => e = .returned (.bool true) ∧ Below W.heap.size W w' := fun W hW => same_c (HDb.out.below hW) (HDc.out.below hW) ho6 ho7 HOL.out
            have CS2 := Lib.hid cs2
            have hbox : ∀ W, Below V4.heap.size V4 W → (∀ (i : Nat) (v : Value), (#[Value.slice (some ⟨g2, 0, none⟩) o.outs.length c4, .bool o.once, .string (mk o.dep), .string (mk (depsT o p.2))] : Array Value)[i]? = some v → W.cell? ⟨w9.heap.size, i, none⟩ = some v) ∧ (∀ (i : Nat) (v : Value), (#[Value.slice (some ⟨g3, 0, none⟩) o.outs.length c6, .bool o.once, .string (mk o.dep), .string (mk (depsT o p.2))] : Array Value)[i]? = some v → W.cell? ⟨w11.heap.size, i, none⟩ = some v) ∧ (∀ (i : Nat) (v : Value), (#[Value.slice (some ⟨g4, 0, none⟩) o.outs.length c7, .bool o.once, .string (mk o.dep), .string (mk (depsT o p.2))] : Array Value)[i]? = some v → W.cell? ⟨w12.heap.size, i, none⟩ = some v) := fun W hW => by
              have h1 := (hW.block _ (lt_some HX2b.out)).trans HX2b.out
              have h2 := (hW.block _ (lt_some HX3b.out)).trans HX3b.out
              have h3 := (hW.block _ (lt_some HX4.out)).trans HX4.out
              exact ⟨fun i v hv => by simp [World.cell?, h1] at hv ⊢; exact hv, fun i v hv => by simp [World.cell?, h2] at hv ⊢; exact hv, fun i v hv => by simp [World.cell?, h3] at hv ⊢; exact hv⟩
            have HBOX := Lib.hid hbox
            obtain ⟨q1, q2, q3⟩ := hbox V4 (Below.refl _ _)
            have a0 := q1 0 _ rfl
            have a1' := q1 1 _ rfl
            have a2' := q1 2 _ rfl
            have a3' := q1 3 _ rfl
            have t0 := q3 0 _ rfl
            have t1 := q3 1 _ rfl
            have t2 := q3 2 _ rfl
            have t3 := q3 3 _ rfl
            clear hV4 bV4 nV4 b34 b24 cs2 hbox q1 q2 q3
            go_wp2_with fail
            refine cs1.mono ?_
            rintro e w13 ⟨rfl, hb13⟩
            have HB13 := Lib.hid hb13
            clear cs1 a0 a1' a2' a3' t0 t1 t2 t3
            obtain ⟨q1, q2, q3⟩ := HBOX.out w13 hb13
            have a0 := q2 0 _ rfl
            have a1' := q2 1 _ rfl
            have a2' := q2 2 _ rfl
            have a3' := q2 3 _ rfl
            have t0 := q3 0 _ rfl
            have t1 := q3 1 _ rfl
            have t2 := q3 2 _ rfl
            have t3 := q3 3 _ rfl
            have cs3 := CS2.out w13 hb13
            clear q1 q2 q3 hb13
            go_wp2_with fail
            refine cs3.mono ?_
            rintro e w14 ⟨rfl, hb14⟩
            have HB14 := Lib.hid ((HBV4.out.trans (HB13.out.mono HBV4.out.size)).trans (hb14.mono (Nat.le_trans HBV4.out.size HB13.out.size)))
            have ca := awake_c w14
            clear cs3 hb14 a0 a1' a2' a3' t0 t1 t2 t3
            go_wp2_with fail
            refine ca.mono ?_
            rintro e w15 ⟨rfl, hb15⟩
            have HB15 := Lib.hid (HB14.out.trans (hb15.mono HB14.out.size))
            clear ca hb15
            go_wp2_with fail
            go_ret
            exact ⟨rfl, HB15.out⟩

      · have e0 : (mk o.dep).toList.isEmpty = false := by
          rw [mk_toList]
          cases hdq : o.dep with
          | nil => exact absurd hdq hdep
          | cons a r => rfl
        have hform : ∃ x0, o.outs[0]? = some x0 ∧ depsT o p.2 = txt x0 p.2 ++ [10] ∧ parseP (txt x0 p.2 ++ [10]) = some (x0, p.2) ∧ (txt x0 p.2 ++ [10]).length ≤ 16384 ∧ p.2.length ≤ 10 := by
          have hr0 := HR.out
          unfold cookL at hr0
          cases hrl : readL (words [] s) with
          | none => rw [hrl] at hr0; cases hr0
          | some q =>
            rw [hrl] at hr0
            have hr1 : (doneO hashT decl (fileL L) q.verb q.args).map (fun p => (q, p)) = some (o, p) := hr0
            cases hd2 : doneO hashT decl (fileL L) q.verb q.args with
            | none => rw [hd2] at hr1; cases hr1
            | some d =>
              rw [hd2] at hr1
              cases hr1
              obtain ⟨x0, hx0⟩ : ∃ x, o.outs[0]? = some x := ⟨_, List.getElem?_eq_getElem (List.length_pos_iff.2 K1.out)⟩
              have hro := (readL_ok hrl).2.1
              have hfo := (doneO_ok (H := hashT) (fun _ r => by rw [hashT_len]; omega) hd2).2.2
              obtain ⟨b1, b2, b3⟩ := deps_back HL.out.1 hd2 (hro x0 (List.mem_of_getElem? hx0)) hfo
              exact ⟨x0, hx0, depsT_good hx0 hro hfo hdep, b1, b2, b3⟩
        obtain ⟨x0, -, hdt, hpb, htl, hfl⟩ := hform
        rw [hdt] at d3
        have cp := refParse_c (txt x0 p.2 ++ [10]) htl w4
        rw [hpb] at cp
        obtain ⟨tx, htx⟩ : ∃ tx, txt x0 p.2 ++ [10] = tx := ⟨_, rfl⟩
        rw [htx] at cp d3
        have HDT := Lib.hid (hdt.trans htx)
        have HFL := Lib.hid hfl
        clear hdt hpb htl htx hfl
        go_wp2_with fail
        refine cp.mono ?_
        rintro e w5 ⟨v5, rfl, hs5, hb5⟩
        obtain ⟨ua, uk, hv5, -, -⟩ := id hs5
        have hv5 : v5 = .slice ua p.2.length uk := hv5
        subst hv5
        have hs5 : Strs w5 (.slice ua p.2.length uk) p.2 := hs5
        have hKlen : ws.length + p.2.length ≤ 1000000 := by
          have h1 := words_len s []
          simp only [if_true] at h1
          rw [HWS.out] at h1
          have := HS.out.1
          have := HFL.out
          omega
        obtain ⟨ka2, kc2, w6, hrun, hown6, hg6⟩ := run_appK (owns_below HK.out hb5) (Nat.le_trans HV4.out.size hb5.size) hs5 hKlen
        have HB56 : Hid (Below V.heap.size V w6) := Lib.hid (by
          have h9 := HV4.out.trans (hb5.mono HV4.out.size)
          exact h9.trans ⟨hg6.os, hg6.tape, hg6.output, hg6.size, fun q hq => hg6.block q (Nat.lt_of_lt_of_le hq h9.size) (fun e => by
            have := (owns_block HK.out e.symm).1
            omega)⟩)
        have hKlen2 : (ws ++ p.2).length ≤ 1000000 := by rw [List.length_append]; exact hKlen
        have hKin2 : ∀ x, x ∈ ws ∨ x ∈ p.2 → x ∈ ws ++ p.2 := fun x hx => List.mem_append.2 hx
        obtain ⟨KW, hKW⟩ : ∃ KW, ws ++ p.2 = KW := ⟨_, rfl⟩
        rw [hKW] at hrun hown6 hKlen2 hKin2
        have HKIN := Lib.hid hKin2
        have HKSZ := Lib.hid hKlen2
        have HRUN := Lib.hid hrun
        have HK6 := Lib.hid hown6
        clear cp hs5 hb5 hrun hown6 hg6 d2 d3 hKlen hKlen2 hKin2 hKW
        go_wp2_with (at_builtin; refine wpList_run rfl (.tmp 73) (.tmp 74) rfl rfl rfl HRUN.out ?_)
        have HY := Lib.hid (HBV.out.trans (HB56.out.mono HBV.out.size))
        have HKS := Lib.hid (owns_strs HK6.out)
        have hKl : KW.length ≤ 1000000 := by exact HKSZ.out
        have HZ0 : Hid (somV KW ((L.zip U).take 0) = []) := Lib.hid rfl
        go_loopw [13, 14, 15] (fun s1 s2 i wr => ∃ (j : Nat) (a1 : Option Addr) (c2 : Nat) (L1 : List (Bs × Value)) (a2 : Option Addr) (c3 : Nat) (L2 : List (Bs × Value)), j ≤ L.length ∧ i = .int .i64 j ∧ s1 = .slice a1 L1.length c2 ∧ s2 = .slice a2 L2.length c3 ∧ Hid (L1 = somV KW ((L.zip U).take j)) ∧ Hid (L2 = turnV KW (.slice ma more.length mc) ((L.zip U).take j)) ∧ Hid (Tw w6.heap.size wr a1 c2 L1 a2 c3 L2) ∧ Hid (Below w6.heap.size w6 wr)) (fun _ _ i _ => L.length - (intOf i).toNat)
        case atStart => exact ⟨0, none, 0, [], none, 0, [], Nat.zero_le _, rfl, rfl, rfl, Lib.hid rfl, Lib.hid rfl, Lib.hid ⟨World.ownsRow_nil _ _ _ _, World.ownsRow_nil _ _ _ _, fun q hq => by cases hq⟩, Lib.hid (Below.refl _ _)⟩
        case round =>
          obtain ⟨j, a1, c2, L1, a2, c3, L2, hj, rfl, rfl, rfl, hL1, hL2, hTw, hB⟩ := hrel
          by_cases hlt : j < L.length
          · obtain ⟨x, hx⟩ : ∃ x, L[j]? = some x := ⟨_, List.getElem?_eq_getElem hlt⟩
            obtain ⟨gl, ol, c9, ua, uc, e, hgl, hU, k0, k1, -⟩ := HH.out.at hx
            cases e
            have hSf : ∀ W, Below w6.heap.size w6 W → W.cell? ⟨gl, ol + j * 2, none⟩ = some (.string (mk x.1)) ∧ W.cell? ⟨gl, ol + j * 2 + 1, none⟩ = some (.slice ua x.2.length uc) := fun W hW => by
              have h1 := HY.out.trans (hW.mono HY.out.size)
              exact ⟨(cell_of_block (h1.block gl hgl)).trans k0, (cell_of_block (h1.block gl hgl)).trans k1⟩
            have e0 := (hSf wr hB.out).1
            have e1 := (hSf wr hB.out).2
            have hz := zip_at2 hx hU
            have hs1 := somV_snoc (K := KW) hz
            have hs2 := turnV_snoc (K := KW) (mv := .slice ma more.length mc) hz
            have hi0 : (0 : Int) ≤ (j : Int) := by omega
            have hi1 : (j : Int) < (L.length : Int) := by omega
            have hB0 := hB.out
            have hn10 : L.length ≤ 10 := HL.out.1
            have hll1 : L1.length ≤ 10 := by
              rw [hL1.out]
              unfold somV
              rw [List.length_map]
              have h1 := List.length_filter_le (fun q : Fl × Value => KW.contains q.1.1) ((L.zip U).take j)
              rw [List.length_take] at h1
              have := HL.out.1
              omega
            have hll2 : L2.length ≤ 10 := by
              rw [hL2.out]
              unfold turnV
              rw [List.length_map, List.length_take]
              have := HL.out.1
              omega
            have cin := in_c x.1 (HKS.out.below hB.out) hKl
            have HSF := Lib.hid hSf
            clear k0 k1 hSf
            cases hkc : KW.contains x.1 with
            | true =>
              rw [hkc] at cin
              have hc1 : KW.contains ((x, Value.slice ua x.2.length uc).1.1) = true := hkc
              rw [if_pos hc1] at hs1 hs2
              clear hz hU hc1 hx
              go_wp2_with fail
              refine cin.mono ?_
              rintro e w7 ⟨rfl, hb7⟩
              have hB7 := hB.out.trans (hb7.mono hB.out.size)
              have bd : Below w7.heap.size w7 w7.drew := ⟨rfl, rfl, rfl, Nat.le_refl _, fun _ _ => rfl⟩
              have hBd : Below w6.heap.size w6 w7.drew := hB7.trans (bd.mono hB7.size)
              have hT7 := tw_below (tw_below hTw.out hb7) bd
              have hA1 := below_alloc w7.drew (.cells #[.string (mk x.1), .slice ua x.2.length uc] 45)
              have hBA1 := hBd.trans (hA1.mono hBd.size)
              have hA2 := below_alloc (w7.drew.alloc (.cells #[.string (mk x.1), .slice ua x.2.length uc] 45)) (.cells #[.string (mk x.1), .slice ua x.2.length uc] 45)
              have hBA2 := hBA1.trans (hA2.mono hBA1.size)
              have hN1 : (w7.drew.alloc (.cells #[.string (mk x.1), .slice ua x.2.length uc] 45)).heap[w7.heap.size]? = some (.cells #[.string (mk x.1), .slice ua x.2.length uc] 45 (0, 0)) := heap_alloc_new w7.drew _
              have hN2 := (hA2.block _ (lt_some hN1)).trans hN1
              have hN3 := heap_alloc_new (w7.drew.alloc (.cells #[.string (mk x.1), .slice ua x.2.length uc] 45)) (.cells #[.string (mk x.1), .slice ua x.2.length uc] 45)
              have hown : ∀ q, w7.heap.size ≤ q → (Value.slice a1 L1.length c2).ownBlock ≠ some q := fun q hq e => by
                obtain ⟨_, cur, hc⟩ := owns_block hT7.one e
                have h9 : q < w7.heap.size := lt_some hc
                omega
              have hsz1 : (w7.drew.alloc (.cells #[.string (mk x.1), .slice ua x.2.length uc] 45)).heap.size = w7.heap.size + 1 := World.size_alloc w7.drew _
              obtain ⟨b1, d1, W1, r1, t1, bb1, -⟩ := push_one (tw_below hT7 hA1) hBA1 (by omega) w7.heap.size x.1 hN1
              have hA3 := below_alloc W1 (.cells #[.string (mk x.1), .slice ua x.2.length uc] 45)
              have hBA3 := bb1.trans (hA3.mono bb1.size)
              obtain ⟨b2, d2, W2, r2, t2, bb2, -⟩ := push_one (tw_swap (tw_below t1 hA3)) hBA3 (by omega) W1.heap.size x.1 (heap_alloc_new W1 _)
              obtain ⟨b3, d3, W3, b4, d4, W4, r3, r4, bb3, bb4, t4⟩ := push_two (tw_below (tw_below hT7 hA1) hA2) hBA2 (by omega) (by omega) w7.heap.size _ x.1 hN2 hN3 (hown _ (by rw [hsz1]; omega))
              obtain ⟨b5, d5, W5, b6, d6, W6, r5, r6, bb5, bb6, t6⟩ := push_two (tw_below (tw_below hT7 hA1) hA2) hBA2 (by omega) (by omega) _ w7.heap.size x.1 hN3 hN2 (hown _ (Nat.le_refl _))
              obtain ⟨M1, hM1⟩ : ∃ M1, L1 ++ [(x.1, Value.slice ua x.2.length uc)] = M1 := ⟨_, rfl⟩
              obtain ⟨M2, hM2⟩ : ∃ M2, L2 ++ [(x.1, Value.slice ua x.2.length uc)] = M2 := ⟨_, rfl⟩
              rw [hM1] at r1 t1 t2 r3 t4 r5 t6
              rw [hM2] at r2 t2 r4 t4 r6 t6
              have HLN1 : Hid (M1 = somV KW ((L.zip U).take (j + 1))) := Lib.hid (by rw [hs1, ← hL1.out, ← hM1])
              have HLN2 : Hid (M2 = turnV KW (.slice ma more.length mc) ((L.zip U).take (j + 1))) := Lib.hid (by rw [hs2, ← hL2.out, ← hM2])
              have RA1 := Lib.hid r1
              have RB1 := Lib.hid r2
              have RA2 := Lib.hid r3
              have RB2 := Lib.hid r4
              have RA3 := Lib.hid r5
              have RB3 := Lib.hid r6
              have HT1 := Lib.hid (tw_swap t2)
              have HT2 := Lib.hid t4
              have HT3 := Lib.hid t6
              have HB1 := Lib.hid bb2
              have HB2x := Lib.hid bb4
              have HB3x := Lib.hid bb6
              have S0 := HSF.out _ hBd
              have SD1 := HSF.out _ hBA1
              have SA1 := HSF.out _ bb1
              have SC1 := HSF.out _ hBA3
              have SB1 := HSF.out _ bb2
              have SC2 := HSF.out _ hBA2
              have SA2 := HSF.out _ bb3
              have SB2 := HSF.out _ bb4
              have SA3 := HSF.out _ bb5
              have SB3 := HSF.out _ bb6
              clear cin hb7 hB7 bd hBd hT7 hA1 hBA1 hA2 hBA2 hN1 hN2 hN3 hown hsz1 r1 t1 bb1 hA3 hBA3 r2 t2 bb2 r3 r4 bb3 bb4 t4 r5 r6 bb5 bb6 t6 hM1 hM2 hs1 hs2 hB0 e0 e1
              go_wp2_with fail
              refine Nt.wp_region_N 15 (fun w' => w'.cell? ⟨gl, ol + j * 2, none⟩ = some (.string (mk x.1)) ∧ w'.cell? ⟨gl, ol + j * 2 + 1, none⟩ = some (.slice ua x.2.length uc)) (by kernel_rfl) ?_
              refine Nt.takeT (i := 0) (oi := { dst := some 89, op := Op.move (Operand.tmp 13), type := 22, pos := _, after := #[], guard := Option.none }) (v := ?_) rfl (by kernel_rfl) (by kernel_rfl) (by kernel_rfl) (by kernel_rfl) (fun _ _ _ h => h) (Or.inl ⟨by rfl, ?_⟩) (fun _ => S0) ?_
              rotate_left 1
              · intro w hSw
                try dsimp only at hSw
                go_simp
                first | done | with_reducible rfl
              try simp only [Act.put, List.setIfInBounds_toArray, List.set_cons_zero, List.set_cons_succ]
              refine Nt.takeT (i := 1) (oi := { dst := some 90, op := Op.move (Operand.tmp 5), type := 22, pos := _, after := #[], guard := Option.none }) (v := ?_) rfl (by kernel_rfl) (by kernel_rfl) (by kernel_rfl) (by kernel_rfl) (fun _ _ _ h => h) (Or.inl ⟨by rfl, ?_⟩) (fun _ => S0) ?_
              rotate_left 1
              · intro w hSw
                try dsimp only at hSw
                go_simp
                first | done | with_reducible rfl
              try simp only [Act.put, List.setIfInBounds_toArray, List.set_cons_zero, List.set_cons_succ]
              refine Nt.takeT (i := 2) (oi := { dst := some 91, op := Op.move (Operand.tmp 15), type := 3, pos := _, after := #[], guard := Option.none }) (v := ?_) rfl (by kernel_rfl) (by kernel_rfl) (by kernel_rfl) (by kernel_rfl) (fun _ _ _ h => h) (Or.inl ⟨by rfl, ?_⟩) (fun _ => S0) ?_
              rotate_left 1
              · intro w hSw
                try dsimp only at hSw
                go_simp
                first | done | with_reducible rfl
              try simp only [Act.put, List.setIfInBounds_toArray, List.set_cons_zero, List.set_cons_succ]
              refine Nt.takeT (i := 3) (oi := { dst := some 92, op := Op.indexAddr 22 (Operand.tmp 90) (Operand.tmp 91), type := 0, pos := _, after := #[{ on := 1, ground := Ground.data }, { on := 2, ground := Ground.data }], guard := Option.none }) (v := ?_) rfl (by kernel_rfl) (by kernel_rfl) (by kernel_rfl) (by kernel_rfl) (fun _ _ _ h => h) (Or.inl ⟨by rfl, ?_⟩) (fun _ => S0) ?_
              rotate_left 1
              · intro w hSw
                try dsimp only at hSw
                go_simp
                first | done | with_reducible rfl
              try simp only [Act.put, List.setIfInBounds_toArray, List.set_cons_zero, List.set_cons_succ]
              refine Nt.takeS (i := 4) (oi := { dst := some 93, op := Op.load 45 (Operand.tmp 92), type := 45, pos := _, after := #[{ on := 3, ground := Ground.data }], guard := Option.none }) (v := ?_) rfl (by kernel_rfl) (by kernel_rfl) (by kernel_rfl) (by kernel_rfl) (by kernel_rfl) (by kernel_rfl) (fun _ _ _ h => h) (Or.inl ⟨by rfl, ?_⟩) S0 ?_
              rotate_left 1
              · intro w hSw
                try dsimp only at hSw
                go_simp
                first | done | with_reducible rfl
              try simp only [Act.put, List.setIfInBounds_toArray, List.set_cons_zero, List.set_cons_succ]
              refine Nt.takeT (i := 7) (oi := { dst := some 96, op := Op.move (Operand.tmp 14), type := 22, pos := _, after := #[], guard := Option.none }) (v := ?_) rfl (by kernel_rfl) (by kernel_rfl) (by kernel_rfl) (by kernel_rfl) (fun _ _ _ h => h) (Or.inl ⟨by rfl, ?_⟩) (fun _ => S0) ?_
              rotate_left 1
              · intro w hSw
                try dsimp only at hSw
                go_simp
                first | done | with_reducible rfl
              try simp only [Act.put, List.setIfInBounds_toArray, List.set_cons_zero, List.set_cons_succ]
              refine Nt.takeT (i := 8) (oi := { dst := some 97, op := Op.move (Operand.tmp 5), type := 22, pos := _, after := #[], guard := Option.none }) (v := ?_) rfl (by kernel_rfl) (by kernel_rfl) (by kernel_rfl) (by kernel_rfl) (fun _ _ _ h => h) (Or.inl ⟨by rfl, ?_⟩) (fun _ => S0) ?_
              rotate_left 1
              · intro w hSw
                try dsimp only at hSw
                go_simp
                first | done | with_reducible rfl
              try simp only [Act.put, List.setIfInBounds_toArray, List.set_cons_zero, List.set_cons_succ]
              refine Nt.takeT (i := 9) (oi := { dst := some 98, op := Op.move (Operand.tmp 15), type := 3, pos := _, after := #[], guard := Option.none }) (v := ?_) rfl (by kernel_rfl) (by kernel_rfl) (by kernel_rfl) (by kernel_rfl) (fun _ _ _ h => h) (Or.inl ⟨by rfl, ?_⟩) (fun _ => S0) ?_
              rotate_left 1
              · intro w hSw
                try dsimp only at hSw
                go_simp
                first | done | with_reducible rfl
              try simp only [Act.put, List.setIfInBounds_toArray, List.set_cons_zero, List.set_cons_succ]
              refine Nt.takeT (i := 10) (oi := { dst := some 99, op := Op.indexAddr 22 (Operand.tmp 97) (Operand.tmp 98), type := 0, pos := _, after := #[{ on := 8, ground := Ground.data }, { on := 9, ground := Ground.data }], guard := Option.none }) (v := ?_) rfl (by kernel_rfl) (by kernel_rfl) (by kernel_rfl) (by kernel_rfl) (fun _ _ _ h => h) (Or.inl ⟨by rfl, ?_⟩) (fun _ => S0) ?_
              rotate_left 1
              · intro w hSw
                try dsimp only at hSw
                go_simp
                first | done | with_reducible rfl
              try simp only [Act.put, List.setIfInBounds_toArray, List.set_cons_zero, List.set_cons_succ]
              refine Nt.takeS (i := 11) (oi := { dst := some 100, op := Op.load 45 (Operand.tmp 99), type := 45, pos := _, after := #[{ on := 10, ground := Ground.data }], guard := Option.none }) (v := ?_) rfl (by kernel_rfl) (by kernel_rfl) (by kernel_rfl) (by kernel_rfl) (by kernel_rfl) (by kernel_rfl) (fun _ _ _ h => h) (Or.inl ⟨by rfl, ?_⟩) S0 ?_
              rotate_left 1
              · intro w hSw
                try dsimp only at hSw
                go_simp
                first | done | with_reducible rfl
              try simp only [Act.put, List.setIfInBounds_toArray, List.set_cons_zero, List.set_cons_succ]
              refine Nt.twoN (i := 5) (j := 12) (by kernel_rfl) rfl rfl (fun K hK => ?_) (fun K hK => ?_)
              · go_simp
                refine hK.out _ _ (fun _ => SD1) ?_
                clear hK K
                try simp only [Act.put, List.setIfInBounds_toArray, List.set_cons_zero, List.set_cons_succ]
                refine Nt.twoN (i := 6) (j := 12) (by kernel_rfl) rfl rfl (fun K hK => ?_) (fun K hK => ?_)
                · refine step_run2 rfl (.tmp 89) (.tmp 94) rfl (by simp [Act.eval]) (by simp [Act.eval]) RA1.out ?_
                  refine hK.out _ _ (fun _ => SA1) ?_
                  clear hK K
                  try simp only [Act.put, List.setIfInBounds_toArray, List.set_cons_zero, List.set_cons_succ]
                  refine Nt.nextN (i := 12) (by kernel_rfl) rfl (fun K hK => ?_)
                  go_simp
                  refine hK.out _ _ (fun _ => SC1) ?_
                  clear hK K
                  try simp only [Act.put, List.setIfInBounds_toArray, List.set_cons_zero, List.set_cons_succ]
                  refine Nt.nextN (i := 13) (by kernel_rfl) rfl (fun K hK => ?_)
                  refine step_run2 rfl (.tmp 96) (.tmp 101) rfl (by simp [Act.eval]) (by simp [Act.eval]) RB1.out ?_
                  refine hK.out _ _ (fun _ => SB1) ?_
                  clear hK K
                  try simp only [Act.put, List.setIfInBounds_toArray, List.set_cons_zero, List.set_cons_succ]
                  refine Nt.nextN (i := 14) (by kernel_rfl) rfl (fun K hK => ?_)
                  go_simp
                  refine hK.out _ _ (fun _ => SB1) ?_
                  clear hK K
                  try simp only [Act.put, List.setIfInBounds_toArray, List.set_cons_zero, List.set_cons_succ]
                  refine Nt.nextN (i := 15) (by kernel_rfl) rfl (fun K hK => ?_)
                  go_simp
                  refine hK.out _ _ (fun h => by simp at h) ?_
                  clear hK K
                  try simp only [Act.put, List.setIfInBounds_toArray, List.set_cons_zero, List.set_cons_succ]
                  refine Nt.doneN (by kernel_rfl) ?_ _
                  go_wp2_with fail
                  go_roundw
                  case rel => exact ⟨j + 1, _, _, _, _, _, _, by omega, by go_num, rfl, rfl, HLN1, HLN2, HT1, HB1⟩
                  case measure => simp [intOf] <;> omega
                · go_simp
                  refine hK.out _ _ (fun _ => SC2) ?_
                  clear hK K
                  try simp only [Act.put, List.setIfInBounds_toArray, List.set_cons_zero, List.set_cons_succ]
                  refine Nt.nextN (i := 6) (by kernel_rfl) rfl (fun K hK => ?_)
                  refine step_run2 rfl (.tmp 89) (.tmp 94) rfl (by simp [Act.eval]) (by simp [Act.eval]) RA2.out ?_
                  refine hK.out _ _ (fun _ => SA2) ?_
                  clear hK K
                  try simp only [Act.put, List.setIfInBounds_toArray, List.set_cons_zero, List.set_cons_succ]
                  refine Nt.nextN (i := 13) (by kernel_rfl) rfl (fun K hK => ?_)
                  refine step_run2 rfl (.tmp 96) (.tmp 101) rfl (by simp [Act.eval]) (by simp [Act.eval]) RB2.out ?_
                  refine hK.out _ _ (fun _ => SB2) ?_
                  clear hK K
                  try simp only [Act.put, List.setIfInBounds_toArray, List.set_cons_zero, List.set_cons_succ]
                  refine Nt.nextN (i := 14) (by kernel_rfl) rfl (fun K hK => ?_)
                  go_simp
                  refine hK.out _ _ (fun _ => SB2) ?_
                  clear hK K
                  try simp only [Act.put, List.setIfInBounds_toArray, List.set_cons_zero, List.set_cons_succ]
                  refine Nt.nextN (i := 15) (by kernel_rfl) rfl (fun K hK => ?_)
                  go_simp
                  refine hK.out _ _ (fun h => by simp at h) ?_
                  clear hK K
                  try simp only [Act.put, List.setIfInBounds_toArray, List.set_cons_zero, List.set_cons_succ]
                  refine Nt.doneN (by kernel_rfl) ?_ _
                  go_wp2_with fail
                  go_roundw
                  case rel => exact ⟨j + 1, _, _, _, _, _, _, by omega, by go_num, rfl, rfl, HLN1, HLN2, HT2, HB2x⟩
                  case measure => simp [intOf] <;> omega
              · go_simp
                refine hK.out _ _ (fun _ => SD1) ?_
                clear hK K
                try simp only [Act.put, List.setIfInBounds_toArray, List.set_cons_zero, List.set_cons_succ]
                refine Nt.nextN (i := 5) (by kernel_rfl) rfl (fun K hK => ?_)
                go_simp
                refine hK.out _ _ (fun _ => SC2) ?_
                clear hK K
                try simp only [Act.put, List.setIfInBounds_toArray, List.set_cons_zero, List.set_cons_succ]
                refine Nt.nextN (i := 6) (by kernel_rfl) rfl (fun K hK => ?_)
                refine step_run2 rfl (.tmp 89) (.tmp 94) rfl (by simp [Act.eval]) (by simp [Act.eval]) RA3.out ?_
                refine hK.out _ _ (fun _ => SA3) ?_
                clear hK K
                try simp only [Act.put, List.setIfInBounds_toArray, List.set_cons_zero, List.set_cons_succ]
                refine Nt.nextN (i := 13) (by kernel_rfl) rfl (fun K hK => ?_)
                refine step_run2 rfl (.tmp 96) (.tmp 101) rfl (by simp [Act.eval]) (by simp [Act.eval]) RB3.out ?_
                refine hK.out _ _ (fun _ => SB3) ?_
                clear hK K
                try simp only [Act.put, List.setIfInBounds_toArray, List.set_cons_zero, List.set_cons_succ]
                refine Nt.nextN (i := 14) (by kernel_rfl) rfl (fun K hK => ?_)
                go_simp
                refine hK.out _ _ (fun _ => SB3) ?_
                clear hK K
                try simp only [Act.put, List.setIfInBounds_toArray, List.set_cons_zero, List.set_cons_succ]
                refine Nt.nextN (i := 15) (by kernel_rfl) rfl (fun K hK => ?_)
                go_simp
                refine hK.out _ _ (fun h => by simp at h) ?_
                clear hK K
                try simp only [Act.put, List.setIfInBounds_toArray, List.set_cons_zero, List.set_cons_succ]
                refine Nt.doneN (by kernel_rfl) ?_ _
                go_wp2_with fail
                go_roundw
                case rel => exact ⟨j + 1, _, _, _, _, _, _, by omega, by go_num, rfl, rfl, HLN1, HLN2, HT3, HB3x⟩
                case measure => simp [intOf] <;> omega
            | false =>
              rw [hkc] at cin
              have hc1 : ¬ KW.contains ((x, Value.slice ua x.2.length uc).1.1) = true := by
                show ¬ KW.contains x.1 = true
                rw [hkc]
                exact Bool.false_ne_true
              rw [if_neg hc1, List.append_nil] at hs1
              rw [if_neg hc1] at hs2
              clear hz hU hc1 hx
              go_wp2_with fail
              refine cin.mono ?_
              rintro e w7 ⟨rfl, hb7⟩
              have hB7 := hB.out.trans (hb7.mono hB.out.size)
              have hA := below_alloc w7 (.cells #[.string (mk x.1), .slice ma more.length mc] 45)
              have hTA := tw_below (tw_below hTw.out hb7) hA
              obtain ⟨a9, c8, W2, hrun, hT2, hg2⟩ := tw_push (tw_swap hTA) (Nat.le_trans hB7.size hA.size) (by omega) x.1 (ba := ma) (bn := more.length) (bc := mc) (q := w7.heap.size) (heap_alloc_new _ _)
              have HRUN := Lib.hid hrun
              have f0 := (HSF.out w7 hB7).1
              obtain ⟨L3, hL3⟩ : ∃ L3, L2 ++ [(x.1, Value.slice ma more.length mc)] = L3 := ⟨_, rfl⟩
              rw [hL3] at HRUN hT2
              have HT2 := Lib.hid (tw_swap hT2)
              have HLN2 : Hid (L3 = turnV KW (.slice ma more.length mc) ((L.zip U).take (j + 1))) := Lib.hid (by rw [hs2, ← hL2.out, ← hL3])
              have HLN1 : Hid (L1 = somV KW ((L.zip U).take (j + 1))) := Lib.hid (by rw [hs1, ← hL1.out])
              have HB2w : Hid (Below w6.heap.size w6 W2) := Lib.hid (by
                have h9 := hB7.trans (hA.mono hB7.size)
                exact h9.trans ⟨hg2.os, hg2.tape, hg2.output, hg2.size, fun q hq => hg2.block q (Nat.lt_of_lt_of_le hq h9.size) (fun e => by
                  have := (owns_block hTw.out.two e.symm).1
                  omega)⟩)
              clear cin hB7 hA hTA hrun hT2 hg2 hL3 hs1 hs2 hB0 e0 e1
              go_wp2_with (at_builtin; refine wpList_run rfl (.tmp 103) (.tmp 111) rfl rfl rfl HRUN.out ?_)
              go_roundw
              case rel => exact ⟨j + 1, a1, c2, L1, a9, c8, L3, by omega, by go_num, rfl, rfl, HLN1, HLN2, HT2, HB2w⟩
              case measure => simp [intOf] <;> omega
          · obtain rfl : j = L.length := by omega
            have hn10 : L.length ≤ 10 := HL.out.1
            have hBw := HY.out.trans (hB.out.mono HY.out.size)
            obtain ⟨hU, hzq⟩ := fls_zip (HH.out.below hBw)
            have htk : (L.zip U).take L.length = L.zip U := List.take_of_length_le (by rw [List.length_zip]; omega)
            have hv1 : L1 = somV KW (L.zip U) := by rw [hL1.out, htk]
            have hv2 : L2 = turnV KW (.slice ma more.length mc) (L.zip U) := by rw [hL2.out, htk]
            obtain ⟨f1, n1⟩ := fls_somV hU hzq hv1 hTw.out.one
            obtain ⟨f2, n2⟩ := fls_turnV hU hzq (HM.out.below hBw) hv2 hTw.out.two
            have hk1 : cookL hashT ws decl (someL KW L) = some (o, p) := cookL_same (fun x h => h) (fun x hx => fileL_some (HKIN.out x hx) L) (by rw [← HWS.out]; exact HR.out)
            have hk2 : cookL hashT ws (decl ++ [[122, 122]]) (turnL KW more L) = some (o, p) := cookL_same (fun x h => List.mem_append_left _ h) (fun x hx => fileL_turn (HKIN.out x hx) L) (by rw [← HWS.out]; exact HR.out)
            have hm1 : (someL KW L).length ≤ 10 ∧ (∀ x ∈ someL KW L, x.2.length ≤ 200) ∧ ∀ x ∈ someL KW L, x.1.length ≤ 200 := by
              unfold someL
              refine ⟨Nat.le_trans (List.length_filter_le _ _) hn10, fun x hx => HL.out.2.1 x (List.mem_filter.1 hx).1, fun x hx => HL.out.2.2 x (List.mem_filter.1 hx).1⟩
            have hm2 : (turnL KW more L).length ≤ 10 ∧ (∀ x ∈ turnL KW more L, x.2.length ≤ 200) ∧ ∀ x ∈ turnL KW more L, x.1.length ≤ 200 := by
              unfold turnL
              refine ⟨by rw [List.length_map]; exact hn10, fun x hx => ?_, fun x hx => ?_⟩
              · obtain ⟨y, hy, rfl⟩ := List.mem_map.1 hx
                by_cases hc : KW.contains y.1 = true
                · rw [if_pos hc]; exact HL.out.2.1 y hy
                · rw [if_neg hc]; exact HS.out.2.2
              · obtain ⟨y, hy, rfl⟩ := List.mem_map.1 hx
                by_cases hc : KW.contains y.1 = true
                · rw [if_pos hc]; exact HL.out.2.2 y hy
                · rw [if_neg hc]; exact HL.out.2.2 y hy
            rw [n1, n2]
            generalize someL KW L = M1 at *
            generalize turnL KW more L = M2 at *
            have HM1 := Lib.hid hm1
            have HM2 := Lib.hid hm2
            have HK1 := Lib.hid hk1
            have HK2 := Lib.hid hk2
            have HF2 := Lib.hid f2
            have HBW := Lib.hid hBw
            have co1 := of_c f1 (by omega) (fun x hx => by have := hm1.2.1 x hx; omega)
            clear hU hzq htk hv1 hv2 f1 f2 n1 n2 hk1 hk2 hm1 hm2 hBw hL1 hL2 hTw
            go_wp2_with fail
            refine co1.mono ?_
            rintro e w8 ⟨v8, rfl, hown8, hb8⟩
            have HB8 := Lib.hid (HBW.out.trans (hb8.mono HBW.out.size))
            have HW8 := Lib.hid hb8
            have ck1 := cook_call HT.out HB8.out (t := s) (by have := HS.out.1; omega) (HD.out.below HB8.out) (by have := HS.out.2.1; omega) HDX.out hown8 (by have := HM1.out.1; omega) HM1.out.2.2 HM1.out.2.1
            rw [HWS.out, HK1.out] at ck1
            clear co1 hown8 hb8
            go_wp2_with fail
            refine ck1.mono ?_
            rintro e w9 ⟨⟨C, er, rfl, hO⟩, hb9⟩
            obtain ⟨rfl, base9, -, hdiv9⟩ := hO
            obtain ⟨g2, c4, hC, ho4, -, hds2⟩ := hdiv9.dsh K1.out
            injection hC with hC
            have hC2 : C = #[.slice (some ⟨g2, 0, none⟩) o.outs.length c4, .bool o.once, .string (mk o.dep), .string (mk (depsT o p.2))] := hC
            clear hC
            subst hC2
            have HB9 := Lib.hid (HB8.out.trans (hb9.mono HB8.out.size))
            have HW9 := Lib.hid (HW8.out.trans (hb9.mono HW8.out.size))
            have HD2 := Lib.hid hds2
            clear ck1 hb9 hdiv9 hds2
            go_upto_region 21 with fail
            obtain ⟨V2, hV2⟩ : ∃ V, w9.alloc (.cells #[.slice (some ⟨g2, 0, none⟩) o.outs.length c4, .bool o.once, .string (mk o.dep), .string (mk (depsT o p.2))] 36) = V := ⟨_, rfl⟩
            rw [hV2]
            have bV2 : Below w9.heap.size w9 V2 := by rw [← hV2]; exact below_alloc _ _
            have nV2 : V2.heap[w9.heap.size]? = some (.cells #[.slice (some ⟨g2, 0, none⟩) o.outs.length c4, .bool o.once, .string (mk o.dep), .string (mk (depsT o p.2))] 36 (0, 0)) := by rw [← hV2]; exact heap_alloc_new _ _
            have HX2 := Lib.hid nV2
            have HBV2 := Lib.hid (HB9.out.trans (bV2.mono HB9.out.size))
            have HWV2 := Lib.hid (HW9.out.trans (bV2.mono HW9.out.size))
            have HDV2 := Lib.hid (HD2.out.below bV2)
            have hA5 := below_alloc V2 (.cells #[.string (mk [122, 122])] 9)
            have hzz := run_zz ((HD.out.below HBV2.out).below hA5) (by have := HS.out.2.1; omega) (q := V2.heap.size) (x := [122, 122]) (heap_alloc_new V2 _)
            obtain ⟨a5, c5, W5, hrun5, hs5, hb5⟩ := hzz
            have HDX2 : Hid (∀ x ∈ decl ++ [[122, 122]], x.length ≤ 9223372036854775807) := Lib.hid fun x hx => by
              rcases List.mem_append.1 hx with hx | hx
              · exact HDX.out x hx
              · rw [List.mem_singleton.1 hx]; show 2 ≤ _; omega
            have HDL2 : Hid ((decl ++ [[122, 122]]).length ≤ 1000000) := Lib.hid (by rw [List.length_append]; have := HS.out.2.1; show _ + 1 ≤ _; omega)
            generalize decl ++ [[122, 122]] = D2 at *
            have hb25 := hA5.trans (hb5.mono hA5.size)
            have HRUN5 := Lib.hid hrun5
            have HS5 := Lib.hid hs5
            have HB25 := Lib.hid hb25
            have HB5 := Lib.hid (HBV2.out.trans (hb25.mono HBV2.out.size))
            have co2 := of_c ((HF2.out.below HWV2.out).below hb25) (by have := HM2.out.1; omega) (fun x hx => by have := HM2.out.2.1 x hx; omega)
            have hi5 : (0 : Int) ≤ (decl.length : Int) := by omega
            have hdc : decl.length ≤ dc := by
              obtain ⟨_, cc, e, h1, -⟩ := HD.out
              cases e
              exact h1
            clear hV2 bV2 nV2 HD2 hA5 hrun5 hs5 hb5 hb25
            go_wp2_with (at_builtin; refine wpList_run rfl (.tmp 128) (.tmp 129) rfl rfl rfl HRUN5.out ?_)
            refine co2.mono ?_
            rintro e w10 ⟨v10, rfl, hown10, hb10⟩
            have HB10 := Lib.hid (HB5.out.trans (hb10.mono HB5.out.size))
            have HW10 := Lib.hid (HB25.out.trans (hb10.mono HB25.out.size))
            have ck2 := cook_call HT.out HB10.out (t := s) (by have := HS.out.1; omega) (HS5.out.below hb10) HDL2.out HDX2.out hown10 (by have := HM2.out.1; omega) HM2.out.2.2 HM2.out.2.1
            rw [HWS.out, HK2.out] at ck2
            clear co2 hown10 hb10
            go_wp2_with fail
            refine ck2.mono ?_
            rintro e w11 ⟨⟨C, er, rfl, hO⟩, hb11⟩
            obtain ⟨rfl, base11, -, hdiv11⟩ := hO
            obtain ⟨g3, c6, hC, ho6, -, hds3⟩ := hdiv11.dsh K1.out
            injection hC with hC
            have hC2 : C = #[.slice (some ⟨g3, 0, none⟩) o.outs.length c6, .bool o.once, .string (mk o.dep), .string (mk (depsT o p.2))] := hC
            clear hC
            subst hC2
            have HB11 := Lib.hid (HB10.out.trans (hb11.mono HB10.out.size))
            have HW11 := Lib.hid (HW10.out.trans (hb11.mono HW10.out.size))
            have HD3 := Lib.hid hds3
            clear ck2 hb11 hdiv11 hds3
            go_upto_region 22 with fail
            obtain ⟨V3, hV3⟩ : ∃ V, w11.alloc (.cells #[.slice (some ⟨g3, 0, none⟩) o.outs.length c6, .bool o.once, .string (mk o.dep), .string (mk (depsT o p.2))] 36) = V := ⟨_, rfl⟩
            rw [hV3]
            have bV3 : Below w11.heap.size w11 V3 := by rw [← hV3]; exact below_alloc _ _
            have nV3 : V3.heap[w11.heap.size]? = some (.cells #[.slice (some ⟨g3, 0, none⟩) o.outs.length c6, .bool o.once, .string (mk o.dep), .string (mk (depsT o p.2))] 36 (0, 0)) := by rw [← hV3]; exact heap_alloc_new _ _
            have HX3 := Lib.hid nV3
            have HBV3 := Lib.hid (HB11.out.trans (bV3.mono HB11.out.size))
            have HWV3 := Lib.hid (HW11.out.trans (bV3.mono HW11.out.size))
            have HDV3 := Lib.hid (HD3.out.below bV3)
            have hparts : readL (words [] s) = some o ∧ doneO hashT decl (fileL L) o.verb o.args = some (p.1, p.2) := by
              have hr0 := HR.out
              unfold cookL at hr0
              cases hrl : readL (words [] s) with
              | none => rw [hrl] at hr0; cases hr0
              | some q =>
                rw [hrl] at hr0
                have hr1 : (doneO hashT decl (fileL L) q.verb q.args).map (fun p => (q, p)) = some (o, p) := hr0
                cases hd2 : doneO hashT decl (fileL L) q.verb q.args with
                | none => rw [hd2] at hr1; cases hr1
                | some d =>
                  rw [hd2] at hr1
                  cases hr1
                  exact ⟨rfl, hd2⟩
            have cr := refCook_c (w := V3) (s := s) (by have := HS.out.1; omega) (HD.out.below HBV3.out) (by have := HS.out.2.1; omega) (HH.out.below HBV3.out) (by have := HL.out.1; omega) HL.out.2.1 hparts.1 hparts.2
            have HOL : Hid (o.outs.length ≤ 1000000) := Lib.hid (by
              have h1 := (readL_ok hparts.1).2.2.2.2.2.2
              have h2 := words_len s []
              simp only [if_true] at h2
              have := HS.out.1
              omega)
            clear hV3 bV3 nV3 HD3 hparts
            go_wp2_with fail
            refine cr.mono ?_
            rintro e w12 ⟨⟨C, rfl, hdrv⟩, hb12⟩
            obtain ⟨g4, c7, u4, k4, hC, ho7, hg4, hby4, hce4⟩ := hdrv
            injection hC with hC
            have hC2 : C = #[.slice (some ⟨g4, 0, none⟩) o.outs.length c7, .bool o.once, .string (mk o.dep), .string (mk (depsT o p.2))] := hC
            clear hC
            subst hC2
            have hds4 : Dsh w12 g4 o.outs p.1 := ⟨hg4, fun j x hx => ⟨(hce4 j x hx).1, u4, k4, (hce4 j x hx).2, hby4⟩⟩
            have HB12 := Lib.hid (HBV3.out.trans (hb12.mono HBV3.out.size))
            have HW12 := Lib.hid hb12
            have HD4 := Lib.hid hds4
            clear cr hb12 hg4 hby4 hce4 hds4
            go_upto_region 23 with fail
            obtain ⟨V4, hV4⟩ : ∃ V, w12.alloc (.cells #[.slice (some ⟨g4, 0, none⟩) o.outs.length c7, .bool o.once, .string (mk o.dep), .string (mk (depsT o p.2))] 47) = V := ⟨_, rfl⟩
            rw [hV4]
            have bV4 : Below w12.heap.size w12 V4 := by rw [← hV4]; exact below_alloc _ _
            have nV4 : V4.heap[w12.heap.size]? = some (.cells #[.slice (some ⟨g4, 0, none⟩) o.outs.length c7, .bool o.once, .string (mk o.dep), .string (mk (depsT o p.2))] 47 (0, 0)) := by rw [← hV4]; exact heap_alloc_new _ _
            have b34 := HW12.out.trans (bV4.mono HW12.out.size)
            have b24 := HWV3.out.trans (b34.mono HWV3.out.size)
            have HX4 := Lib.hid nV4
            have HX3b := Lib.hid ((b34.block _ (lt_some HX3.out)).trans HX3.out)
            have HX2b := Lib.hid ((b24.block _ (lt_some HX2.out)).trans HX2.out)
            have HDa := Lib.hid (HDV2.out.below b24)
            have HDb := Lib.hid (HDV3.out.below b34)
            have HDc := Lib.hid (HD4.out.below bV4)
            have HBV4 := Lib.hid (HB12.out.trans (bV4.mono HB12.out.size))
            have cs1 := same_c HDa.out HDc.out ho4 ho7 HOL.out (on := o.once) (sd := mk o.dep) (ss := mk (depsT o p.2))
            have cs2 : ∀ W, Below V4.heap.size V4 W → Calls Tryz.prog 18 #[.agg #[.slice (some ⟨g3, 0, none⟩) o.outs.length c6, .bool o.once, .string (mk o.dep), .string (mk (depsT o p.2))], .agg #[.slice (some ⟨g4, 0, none⟩) o.outs.length c7, .bool o.once, .string (mk o.dep), .string (mk (depsT o p.2))]] W fun e w' => e = .returned (.bool true) ∧ Below W.heap.size W w' := fun W hW => same_c (HDb.out.below hW) (HDc.out.below hW) ho6 ho7 HOL.out
            have CS2 := Lib.hid cs2
            have hbox : ∀ W, Below V4.heap.size V4 W → (∀ (i : Nat) (v : Value), (#[Value.slice (some ⟨g2, 0, none⟩) o.outs.length c4, .bool o.once, .string (mk o.dep), .string (mk (depsT o p.2))] : Array Value)[i]? = some v → W.cell? ⟨w9.heap.size, i, none⟩ = some v) ∧ (∀ (i : Nat) (v : Value), (#[Value.slice (some ⟨g3, 0, none⟩) o.outs.length c6, .bool o.once, .string (mk o.dep), .string (mk (depsT o p.2))] : Array Value)[i]? = some v → W.cell? ⟨w11.heap.size, i, none⟩ = some v) ∧ (∀ (i : Nat) (v : Value), (#[Value.slice (some ⟨g4, 0, none⟩) o.outs.length c7, .bool o.once, .string (mk o.dep), .string (mk (depsT o p.2))] : Array Value)[i]? = some v → W.cell? ⟨w12.heap.size, i, none⟩ = some v) := fun W hW => by
              have h1 := (hW.block _ (lt_some HX2b.out)).trans HX2b.out
              have h2 := (hW.block _ (lt_some HX3b.out)).trans HX3b.out
              have h3 := (hW.block _ (lt_some HX4.out)).trans HX4.out
              exact ⟨fun i v hv => by simp [World.cell?, h1] at hv ⊢; exact hv, fun i v hv => by simp [World.cell?, h2] at hv ⊢; exact hv, fun i v hv => by simp [World.cell?, h3] at hv ⊢; exact hv⟩
            have HBOX := Lib.hid hbox
            obtain ⟨q1, q2, q3⟩ := hbox V4 (Below.refl _ _)
            have a0 := q1 0 _ rfl
            have a1' := q1 1 _ rfl
            have a2' := q1 2 _ rfl
            have a3' := q1 3 _ rfl
            have t0 := q3 0 _ rfl
            have t1 := q3 1 _ rfl
            have t2 := q3 2 _ rfl
            have t3 := q3 3 _ rfl
            clear hV4 bV4 nV4 b34 b24 cs2 hbox q1 q2 q3
            go_wp2_with fail
            refine cs1.mono ?_
            rintro e w13 ⟨rfl, hb13⟩
            have HB13 := Lib.hid hb13
            clear cs1 a0 a1' a2' a3' t0 t1 t2 t3
            obtain ⟨q1, q2, q3⟩ := HBOX.out w13 hb13
            have a0 := q2 0 _ rfl
            have a1' := q2 1 _ rfl
            have a2' := q2 2 _ rfl
            have a3' := q2 3 _ rfl
            have t0 := q3 0 _ rfl
            have t1 := q3 1 _ rfl
            have t2 := q3 2 _ rfl
            have t3 := q3 3 _ rfl
            have cs3 := CS2.out w13 hb13
            clear q1 q2 q3 hb13
            go_wp2_with fail
            refine cs3.mono ?_
            rintro e w14 ⟨rfl, hb14⟩
            have HB14 := Lib.hid ((HBV4.out.trans (HB13.out.mono HBV4.out.size)).trans (hb14.mono (Nat.le_trans HBV4.out.size HB13.out.size)))
            have ca := awake_c w14
            clear cs3 hb14 a0 a1' a2' a3' t0 t1 t2 t3
            go_wp2_with fail
            refine ca.mono ?_
            rintro e w15 ⟨rfl, hb15⟩
            have HB15 := Lib.hid (HB14.out.trans (hb15.mono HB14.out.size))
            clear ca hb15
            go_wp2_with fail
            go_ret
            exact ⟨rfl, HB15.out⟩

end Go.Proofs.YtgledabcfonbeaaGreatDoor.Df
