/-
  The walk of CookOuts.
-/
import Derived.Test.YtgledabcfonbeaaGreatDoorCkJ15
import Derived.BigQuiet
namespace Go.Proofs.YtgledabcfonbeaaGreatDoor.Df
open Go.RowKit Go.Maps Go.Proofs.YtgledabcfonbeaaGreatDoor

theorem byt_drewO {w : World} {v : Value} {r : Bs} (a : Nat) (h : Byt w v r) : Byt (w.drewN a) v r := h.below ⟨rfl, rfl, rfl, Nat.le_refl _, fun _ _ => rfl⟩
theorem below_drewN (w : World) (a : Nat) : Below w.heap.size w (w.drewN a) := ⟨rfl, rfl, rfl, Nat.le_refl _, fun _ _ => rfl⟩

set_option maxRecDepth 100000 in
set_option maxHeartbeats 16000000 in
theorem outsW_c {w : World} {s : Bs} {dv fv : Value} {decl : List Bs} {L : List Fl} {U : List Value} (hT : Tz w) (hd : Strs w dv decl) (hdx : ∀ x ∈ decl, x.length ≤ 9223372036854775807) (h : Fls w fv L U) (hl : L.length ≤ 9223372036854775807) :
    Calls Tryz.prog 5 #[.string (mk s), dv, fv] w fun e w' => e = .returned (.bool true) ∧ Below w.heap.size w w' := by
  have cl := light_c h hl
  obtain ⟨z, hz⟩ : ∃ z, lightL L = z := ⟨_, rfl⟩
  rw [hz] at cl
  have hsz := mk_size s
  have HD := Lib.hid hd
  have HH := Lib.hid h
  have HDX := Lib.hid hdx
  have HT := Lib.hid hT
  obtain ⟨da, dc, rfl, -, -⟩ := hd
  obtain ⟨-, a, c, rfl, -, -⟩ := h
  clear hdx hT
  by_cases h300 : s.length ≤ 300
  rotate_left 1
  · have d1 : (300 : Int) < ((mk s).size : Int) := by rw [hsz]; omega
    clear hz hsz cl h300
    go_enter Tryz.func5, Tryz.ntmps5
    go_wp2_with fail
    go_ret
    exact ⟨rfl, Below.refl _ _⟩
  have d1 : ¬ (300 : Int) < ((mk s).size : Int) := by rw [hsz]; omega
  by_cases h20 : decl.length ≤ 20
  rotate_left 1
  · have d2 : (20 : Int) < (decl.length : Int) := by omega
    clear hz hsz cl h20 h300
    go_enter Tryz.func5, Tryz.ntmps5
    go_wp2_with fail
    go_ret
    exact ⟨rfl, Below.refl _ _⟩
  have d2 : ¬ (20 : Int) < (decl.length : Int) := by omega
  cases z with
  | false =>
    clear hz hsz h20 h300
    go_enter Tryz.func5, Tryz.ntmps5
    go_wp2_with fail
    refine cl.mono ?_
    rintro e w1 ⟨rfl, rfl⟩
    clear cl
    go_wp2_with fail
    go_ret
    exact ⟨rfl, Below.refl _ _⟩
  | true =>
    have hl10 : L.length ≤ 10 ∧ (∀ x ∈ L, x.2.length ≤ 200) ∧ ∀ x ∈ L, x.1.length ≤ 200 := by
      unfold lightL at hz
      rw [Bool.and_eq_true, decide_eq_true_iff, List.all_eq_true] at hz
      refine ⟨hz.1, fun x hx => ?_, fun x hx => ?_⟩ <;>
      · have := hz.2 x hx
        unfold shortF at this
        rw [Bool.and_eq_true, decide_eq_true_iff, decide_eq_true_iff] at this
        first | exact this.1 | exact this.2
    have HL := Lib.hid hl10
    have HS := Lib.hid (And.intro h300 h20)
    have co := of_c HH.out (by omega) (fun x hx => by have := hl10.2.1 x hx; omega)
    have call : ∀ (W : World) (t : Bs), t.length ≤ 900 → Below w.heap.size w W → ∀ v2, OwnFl W W.heap.size v2 L ∨ (∃ b, OwnFl W b v2 L) → Calls Tryz.prog 13 #[.string (mk t), .slice da decl.length dc, v2] W (CoA W (cookL hashT (words [] t) decl L)) := fun W t ht hW v2 hv => by
      obtain ⟨b, hv⟩ : ∃ b, OwnFl W b v2 L := by rcases hv with h | h; exact ⟨_, h⟩; exact h
      obtain ⟨U2, hf2, hcp2⟩ := hv.fls
      exact cook_a ht (HD.out.below hW) hf2 (by have := HS.out.2; omega) HDX.out (by have := HL.out.1; omega) (fun x hx => by have := HL.out.2.2 x hx; omega) (fun x hx => by have := HL.out.2.1 x hx; omega) hcp2 (fun o _ => sumC_all (HT.out.below hW) HL.out.2.1 o)
    have CALL := Lib.hid call
    have ofc : ∀ W, Below w.heap.size w W → _ := fun W hW => of_c (HH.out.below hW) (by have := HL.out.1; omega) (fun x hx => by have := HL.out.2.1 x hx; omega)
    have OFC := Lib.hid ofc
    clear call ofc hz hl10 h300 h20 hl
    go_enter Tryz.func5, Tryz.ntmps5
    go_wp2_with fail
    refine cl.mono ?_
    rintro e w1 ⟨rfl, rfl⟩
    clear cl
    go_wp2_with fail
    refine co.mono ?_
    rintro e w2 ⟨v2, rfl, hown, hb2⟩
    have ck := CALL.out w2 s (by have := HS.out.1; omega) hb2 v2 (.inr ⟨_, hown⟩)
    have HB2 := Lib.hid hb2
    obtain ⟨r, hr⟩ : ∃ r, cookL hashT (words [] s) decl L = r := ⟨_, rfl⟩
    rw [hr] at ck
    have HR := Lib.hid hr
    clear co hown hb2 hr
    cases r with
    | none =>
      go_wp2_with fail
      refine ck.mono ?_
      rintro e w3 ⟨⟨C, er, rfl, hO⟩, hb3⟩
      obtain ⟨rfl, hC0⟩ := hO
      have hC : C = #[.slice none 0 0, .bool false, .string ⟨#[]⟩, .string ⟨#[]⟩] := hC0
      clear hC0
      subst hC
      have HB3 := Lib.hid (HB2.out.trans (hb3.mono HB2.out.size))
      clear ck hb3
      go_upto_region 4 with fail
      obtain ⟨V, hV⟩ : ∃ V, w3.alloc (.cells #[.slice none 0 0, .bool false, .string ⟨#[]⟩, .string ⟨#[]⟩] 36) = V := ⟨_, rfl⟩
      rw [hV]
      have bV : Below w3.heap.size w3 V := by rw [← hV]; exact below_alloc _ _
      have nV : V.heap[w3.heap.size]? = some (.cells #[.slice none 0 0, .bool false, .string ⟨#[]⟩, .string ⟨#[]⟩] 36 (0, 0)) := by rw [← hV]; exact heap_alloc_new _ _
      have z0 : V.cell? ⟨w3.heap.size, 0, none⟩ = some (.slice none 0 0) := cell_of_heap nV
      have HBV := Lib.hid (HB3.out.trans (bV.mono HB3.out.size))
      have ca := awake_c V
      clear hV bV nV
      go_wp2_with fail
      refine ca.mono ?_
      rintro e w5 ⟨rfl, hb5⟩
      have HB5 := Lib.hid (HBV.out.trans (hb5.mono HBV.out.size))
      clear ca hb5
      go_wp2_with fail
      go_ret
      exact ⟨rfl, HB5.out⟩
    | some q =>
      obtain ⟨o, p⟩ := q
      obtain ⟨k1, -, k3⟩ := cookL_ok (fun r => by rw [hashT_len]; omega) HR.out
      have K1 := Lib.hid k1
      have K3 := Lib.hid k3
      clear k1 k3
      go_wp2_with fail
      refine ck.mono ?_
      rintro e w3 ⟨⟨C, er, rfl, hO⟩, hb3⟩
      obtain ⟨rfl, base, -, hdiv⟩ := hO
      obtain ⟨a1, c1, hC, hrow⟩ := hdiv.at
      obtain ⟨g, rfl, ⟨hc1, hc9⟩, -, hg, hcell⟩ := hrow K1.out
      injection hC with hC
      subst hC
      have hpos : 0 < o.outs.length := List.length_pos_iff.2 K1.out
      have HB3 := Lib.hid (HB2.out.trans (hb3.mono HB2.out.size))
      clear ck hb3 hdiv hrow
      go_upto_region 4 with fail
      obtain ⟨V, hV⟩ : ∃ V, w3.alloc (.cells #[.slice (some ⟨g, 0, none⟩) o.outs.length c1, .bool o.once, .string (mk o.dep), .string (mk (depsT o p.2))] 36) = V := ⟨_, rfl⟩
      rw [hV]
      have bV : Below w3.heap.size w3 V := by rw [← hV]; exact below_alloc _ _
      have nV : V.heap[w3.heap.size]? = some (.cells #[.slice (some ⟨g, 0, none⟩) o.outs.length c1, .bool o.once, .string (mk o.dep), .string (mk (depsT o p.2))] 36 (0, 0)) := by rw [← hV]; exact heap_alloc_new _ _
      have HNV := Lib.hid nV
      have HBV := Lib.hid (HB3.out.trans (bV.mono HB3.out.size))
      have HG : Hid (∀ j, j < o.outs.length → ∃ (u : Option Addr) (k : Nat), V.cell? ⟨g, j * 2 + 1, none⟩ = some (.slice u p.1.length k) ∧ Byt V (.slice u p.1.length k) p.1) := Lib.hid fun j hj => by
        obtain ⟨u, k, h1, h2⟩ := hcell j hj
        exact ⟨u, k, (cell_of_block (bV.block _ hg)).trans h1, h2.below bV⟩
      have HGV : Hid (g < V.heap.size) := Lib.hid (Nat.lt_of_lt_of_le hg bV.size)
      obtain ⟨n, hn⟩ : ∃ n, o.outs.length = n := ⟨_, rfl⟩
      rw [hn] at HNV HG hpos hc1
      clear hV bV nV hcell hg
      have z0 : V.cell? ⟨w3.heap.size, 0, none⟩ = some (.slice (some ⟨g, 0, none⟩) n c1) := cell_of_heap HNV.out
      have hp1 : ¬ ((n : Int) = 0) := by omega
      have HPOS := Lib.hid hpos
      have HN := Lib.hid hn
      clear hn hpos
      obtain ⟨f1, hf1⟩ : ∃ f1, p.1 = f1 := ⟨_, rfl⟩
      obtain ⟨on, hon⟩ : ∃ on, o.once = on := ⟨_, rfl⟩
      obtain ⟨dp, hdp⟩ : ∃ dp, o.dep = dp := ⟨_, rfl⟩
      obtain ⟨ds, hds⟩ : ∃ ds, depsT o p.2 = ds := ⟨_, rfl⟩
      rw [hf1] at HG
      rw [hon, hdp, hds] at HNV
      rw [hdp, hds] at K3
      have HON := Lib.hid hon
      have HDP := Lib.hid hdp
      have HF1 := Lib.hid hf1
      clear hf1 hon hdp hds
      go_wp2_with fail
      clear hp1 z0
      go_loopw [9] (fun i wr => ∃ j : Nat, j ≤ n ∧ i = .int .i64 j ∧ Hid (Below V.heap.size V wr)) (fun i _ => n - (intOf i).toNat)
      case atStart => exact ⟨0, Nat.zero_le _, rfl, Lib.hid (Below.refl _ _)⟩
      case round =>
        obtain ⟨j, hj, rfl, hB⟩ := hrel
        have z0 : wr.cell? ⟨w3.heap.size, 0, none⟩ = some (.slice (some ⟨g, 0, none⟩) n c1) := (cell_of_block (hB.out.block _ (lt_some HNV.out))).trans (cell_of_heap HNV.out)
        by_cases hlt : j < n
        · have hi0 : (0 : Int) ≤ (j : Int) := by omega
          have hi1 : (j : Int) < (n : Int) := by omega
          have hi2 : (0 : Int) < (n : Int) := by omega
          have hi3 : ¬ n = 0 := by omega
          obtain ⟨u1, q1, y1, by1⟩ := HG.out j hlt
          obtain ⟨u2, q2, y2, by2⟩ := HG.out 0 HPOS.out
          have x1 := (cell_of_block (hB.out.block _ HGV.out)).trans y1
          have x2 := (cell_of_block (hB.out.block _ HGV.out)).trans y2
          rw [Nat.zero_mul, Nat.zero_add] at x2
          have v1 := fun a => conv_byt (byt_drewO a (by1.below hB.out))
          have v2 := fun a => conv_byt (byt_drewO a (by2.below hB.out))
          clear y1 y2 by1 by2
          go_wp2_with fail
          go_quiet (fail)
          clear x1 x2 v1 v2 z0
          have hBd := Lib.hid (hB.out.trans ((below_drewN wr nq).mono hB.out.size))
          generalize wr.drewN nq = wq at *
          go_wp2_with fail
          go_roundw
          case rel => exact ⟨j + 1, by omega, by go_num, hBd⟩
          case measure => simp [intOf] <;> omega
        · obtain rfl : j = n := by omega
          have z1 : wr.cell? ⟨w3.heap.size, 1, none⟩ = some (.bool on) := (cell_of_block (hB.out.block _ (lt_some HNV.out))).trans (cell_of_heap HNV.out)
          have HBW := Lib.hid (HBV.out.trans (hB.out.mono HBV.out.size))
          cases on with
          | true =>
            have ca := awake_c wr
            go_wp2_with fail
            refine ca.mono ?_
            rintro e w5 ⟨rfl, hb5⟩
            have HB5 := Lib.hid (HBW.out.trans (hb5.mono HBW.out.size))
            clear ca hb5
            go_wp2_with fail
            go_ret
            exact ⟨rfl, HB5.out⟩
          | false =>
            have co2 := OFC.out wr HBW.out
            have a1 : (⟨#[111, 110, 99, 101, 32]⟩ : ByteArray) ++ mk s = mk (onceS ++ s) := mk_append onceS s
            have s1 : ¬ 9223372036854775807 < (⟨#[111, 110, 99, 101, 32]⟩ : ByteArray).size + (mk s).size := by
              have h5 : (⟨#[111, 110, 99, 101, 32]⟩ : ByteArray).size = 5 := rfl
              have := HS.out.1
              rw [h5, hsz]; omega
            go_wp2_with fail
            refine co2.mono ?_
            rintro e w4 ⟨v3, rfl, hown3, hb4⟩
            have ck2 := CALL.out w4 (onceS ++ s) (by have := HS.out.1; rw [List.length_append]; show 5 + _ ≤ _; omega) (HBW.out.trans (hb4.mono HBW.out.size)) v3 (.inr ⟨_, hown3⟩)
            rw [words_once, cookL_once HR.out HON.out] at ck2
            have HB4 := Lib.hid (HBW.out.trans (hb4.mono HBW.out.size))
            have HV4 := Lib.hid (hB.out.trans (hb4.mono hB.out.size))
            clear co2 hown3 hb4 a1 s1 z0 z1
            go_wp2_with fail
            refine ck2.mono ?_
            rintro e w5 ⟨⟨C, er, rfl, hO⟩, hb5⟩
            obtain ⟨rfl, base2, -, hdiv2⟩ := hO
            obtain ⟨a2, c2, hC, hrow2⟩ := hdiv2.at
            obtain ⟨g2, rfl, ⟨hc2, -⟩, -, hg2, hcell2⟩ := hrow2 K1.out
            obtain ⟨s2, hs2⟩ : ∃ s2, mk o.on.dep = s2 := ⟨_, rfl⟩
            obtain ⟨s3, hs3⟩ : ∃ s3, mk (depsT o.on p.2) = s3 := ⟨_, rfl⟩
            have hn2 : o.on.outs.length = j := HN.out
            rw [hn2] at hC hc2 hcell2
            rw [hs2, hs3] at hC
            obtain ⟨u2, q2, y2, by2⟩ := hcell2 0 HPOS.out
            rw [HF1.out] at y2 by2
            injection hC with hC
            have hC1 : C = #[.slice (some ⟨g2, 0, none⟩) j c2, .bool true, .string s2, .string s3] := hC
            clear hC
            subst hC1
            have HB5 := Lib.hid (HB4.out.trans (hb5.mono HB4.out.size))
            have HV5 := Lib.hid (HV4.out.trans (hb5.mono HV4.out.size))
            clear ck2 hb5 hdiv2 hrow2 hcell2 hs2 hs3 hn2
            go_upto_region 16 with fail
            obtain ⟨X, hX⟩ : ∃ X, w5.alloc (.cells #[.slice (some ⟨g2, 0, none⟩) j c2, .bool true, .string s2, .string s3] 36) = X := ⟨_, rfl⟩
            rw [hX]
            have bX : Below w5.heap.size w5 X := by rw [← hX]; exact below_alloc _ _
            have nX : X.heap[w5.heap.size]? = some (.cells #[.slice (some ⟨g2, 0, none⟩) j c2, .bool true, .string s2, .string s3] 36 (0, 0)) := by rw [← hX]; exact heap_alloc_new _ _
            have HBX := Lib.hid (HB5.out.trans (bX.mono HB5.out.size))
            have hVX := HV5.out.trans (bX.mono HV5.out.size)
            have z0 : X.cell? ⟨w3.heap.size, 0, none⟩ = some (.slice (some ⟨g, 0, none⟩) j c1) := (cell_of_block (hVX.block _ (lt_some HNV.out))).trans (cell_of_heap HNV.out)
            have i0 : X.cell? ⟨w5.heap.size, 0, none⟩ = some (.slice (some ⟨g2, 0, none⟩) j c2) := cell_of_heap nX
            have i1 : X.cell? ⟨w5.heap.size, 1, none⟩ = some (.bool true) := cell_of_heap nX
            obtain ⟨u1, q1, y1, by1⟩ := HG.out 0 HPOS.out
            have x1 := (cell_of_block (hVX.block _ HGV.out)).trans y1
            have x2 := (cell_of_block (bX.block _ hg2)).trans y2
            rw [Nat.zero_mul, Nat.zero_add] at x1 x2
            have v1 := fun a => conv_byt (byt_drewO a (by1.below hVX))
            have v2 := fun a => conv_byt (byt_drewO a (by2.below bX))
            have hi2 : (0 : Int) < (j : Int) := by have := HPOS.out; omega
            have hi3 : ¬ j = 0 := by have := HPOS.out; omega
            have HVX := Lib.hid hVX
            clear hX bX nX y1 y2 by1 by2 hg2 hVX
            go_quiet (fail)
            clear z0 i0 i1 x1 x2 v1 v2
            have HBQ := Lib.hid (HBX.out.trans ((below_drewN X nq).mono HBX.out.size))
            have HVQ := Lib.hid (HVX.out.trans ((below_drewN X nq).mono HVX.out.size))
            generalize X.drewN nq = wq at *
            have z2 : wq.cell? ⟨w3.heap.size, 2, none⟩ = some (.string (mk dp)) := (cell_of_block (HVQ.out.block _ (lt_some HNV.out))).trans (cell_of_heap HNV.out)
            have z3 : wq.cell? ⟨w3.heap.size, 3, none⟩ = some (.string (mk ds)) := (cell_of_block (HVQ.out.block _ (lt_some HNV.out))).trans (cell_of_heap HNV.out)
            obtain ⟨eb, he1⟩ : ∃ eb, (mk dp).toList.isEmpty = eb := ⟨_, rfl⟩
            have he2 : (mk ds).toList.isEmpty = eb := by
              rw [← he1, mk_toList, mk_toList]
              have h3 := K3.out
              cases dp <;> cases ds <;> first | rfl | simp at h3
            have ca := awake_c wq
            go_wp2_with fail
            refine ca.mono ?_
            rintro e w6 ⟨rfl, hb6⟩
            have HB6 := Lib.hid (HBQ.out.trans (hb6.mono HBQ.out.size))
            clear ca hb6
            go_wp2_with fail
            go_ret
            exact ⟨rfl, HB6.out⟩
end Go.Proofs.YtgledabcfonbeaaGreatDoor.Df
