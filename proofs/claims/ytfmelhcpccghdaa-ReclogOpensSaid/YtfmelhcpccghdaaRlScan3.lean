/-
  THE DOCUMENT's OWN Scan.
-/
import Derived.Test.YtfmelhcpccghdaaRlRef
namespace Go.Proofs.Ytfmelhcpccghdaa.Rl
open Go.RowKit Go.Maps

variable {w : World}

theorem Bt.at_ {a : Option Addr} {n c : Nat} {l : List UInt8} (h : Bt w a n c l) {j : Nat} (hj : j < n) : ∃ b o u, a = some ⟨b, o, none⟩ ∧ b < w.heap.size ∧ l[j]? = some u ∧ w.cell? ⟨b, o + j, none⟩ = some (.int .u8 u.toNat) := by
  have hl := h.len
  rcases h.cells with h1 | ⟨b, o, h1, h2, h3⟩
  · rw [h1] at hl; simp at hl; omega
  · exact ⟨b, o, l[j]'(by omega), h1, h2, List.getElem?_eq_getElem _, h3 j _ (List.getElem?_eq_getElem _)⟩

set_option maxRecDepth 100000 in
set_option maxHeartbeats 4000000 in
theorem begins_c {a b : Option Addr} {n c ca : Nat} {l : List UInt8} {k : UInt8} (ha : Bt w a 8 ca (head k)) (hb : Bt w b n c l) (hn9 : n ≤ 900000) : Calls Try.prog 26 #[.slice a 8 ca, .slice b n c] w fun e w' => e = .returned (.bool (decide (okHead k l))) ∧ Below w.heap.size w w' := by
  have HA := Lib.hid ha
  have HBb := Lib.hid hb
  clear ha hb
  go_enter Try.func26, Try.ntmps26
  go_wp2
  go_loopw [5] (fun v wr => ∃ i : Nat, i ≤ n ∧ i ≤ 8 ∧ v = .int .i64 i ∧ Hid (Below w.heap.size w wr) ∧ Hid (∀ j, j < i → (head k)[j]? = l[j]?)) (fun v _ => n - (intOf v).toNat)
  case atStart => exact ⟨0, Nat.zero_le _, Nat.zero_le _, rfl, Lib.hid (Below.refl _ _), Lib.hid fun j hj => by omega⟩
  case round =>
    obtain ⟨i, hi, hi8, rfl, hBR, hL⟩ := hrel
    by_cases hlt : i < n ∧ i < 8
    · obtain ⟨h1, h2⟩ := hlt
      obtain ⟨b1, o1, x, rfl, hb1, hx, hc1⟩ := HA.out.at_ h2
      obtain ⟨b2, o2, y, rfl, hb2, hy, hc2⟩ := HBb.out.at_ h1
      have hd1 := (hBR.out.cell (p := ⟨b1, o1 + i, none⟩) hb1).trans hc1
      have hd2 := (hBR.out.cell (p := ⟨b2, o2 + i, none⟩) hb2).trans hc2
      have HX := Lib.hid hx
      have HY := Lib.hid hy
      clear hx hy hc1 hc2
      by_cases he : x = y
      · have hz : ((x.toNat : Int) != (y.toNat : Int)) = false := by rw [he]; simp
        have HE := Lib.hid he
        clear he
        go_wp2_with fail
        go_quiet (fail)
        go_wp2
        go_roundw
        case rel => exact ⟨i + 1, by omega, by omega, by go_num, Lib.hid ⟨hBR.out.os, hBR.out.tape, hBR.out.output, hBR.out.size, hBR.out.block⟩, Lib.hid fun j hj => by
          by_cases e : j = i
          · subst e; rw [HX.out, HY.out, HE.out]
          · exact hL.out j (by omega)⟩
        case measure => simp [intOf]; omega
      · have hz : ((x.toNat : Int) != (y.toNat : Int)) = true := by
          simp
          intro e
          exact he (UInt8.toNat_inj.1 (by omega))
        have hno : decide (okHead k l) = false := decide_eq_false fun ho => he (by
          unfold okHead at ho
          have h3 := congrArg (fun z => z[i]?) ho
          have hm : i < min l.length 8 := by have := HBb.out.len; omega
          rw [List.getElem?_take_of_lt hm, List.getElem?_take_of_lt hm, HX.out, HY.out] at h3
          exact (Option.some.inj h3).symm)
        clear he
        go_wp2_with fail
        go_quiet (fail)
        go_wp2
        go_ret
        rw [hno]
        exact ⟨rfl, ⟨hBR.out.os, hBR.out.tape, hBR.out.output, hBR.out.size, hBR.out.block⟩⟩
    · have hyes : decide (okHead k l) = true := decide_eq_true (by
        unfold okHead
        apply List.ext_getElem?
        intro j
        by_cases hj : j < min l.length 8
        · rw [List.getElem?_take_of_lt hj, List.getElem?_take_of_lt hj]
          exact (hL.out j (by have := HBb.out.len; omega)).symm
        · rw [List.getElem?_eq_none (by rw [List.length_take]; omega), List.getElem?_eq_none (by rw [List.length_take]; omega)])
      by_cases h1 : i < n
      · obtain rfl : i = 8 := by omega
        go_wp2
        go_ret
        rw [hyes]
        exact ⟨rfl, hBR.out⟩
      · obtain rfl : i = n := by omega
        by_cases h2 : i < 8
        · go_wp2
          go_ret
          rw [hyes]
          exact ⟨rfl, hBR.out⟩
        · obtain rfl : i = 8 := by omega
          go_wp2
          go_ret
          rw [hyes]
          exact ⟨rfl, hBR.out⟩

theorem four_at {bb o n k cc : Nat} {l : List UInt8} (hl : n = l.length) (hc : ∀ j u, l[j]? = some u → w.cell? ⟨bb, o + j, none⟩ = some (.int .u8 u.toNat)) (hk : k + 4 ≤ n) :
    Pk.RowE w bb (.slice (some ⟨bb, o + k, none⟩) 4 cc) (nb ((l.drop k).take 4)) := by
  have h4 : (nb ((l.drop k).take 4)).length = 4 := by rw [nb_length, List.length_take, List.length_drop]; omega
  refine .inr ⟨o + k, cc, by rw [h4], fun i hi => ?_⟩
  rw [h4] at hi
  have hg : l[k + i]? = some (l[k + i]'(by omega)) := List.getElem?_eq_getElem _
  have := hc (k + i) _ hg
  rw [Nat.add_assoc, this]
  congr 2
  simp only [nb, List.getD_eq_getElem?_getD, List.getElem?_map, List.getElem?_take_of_lt hi, List.getElem?_drop, hg]
  rfl

set_option maxRecDepth 100000 in
set_option maxHeartbeats 8000000 in
theorem refScan_c {a : Option Addr} {n c : Nat} {l : List UInt8} (k : UInt8) (h : Bt w a n c l) (hn : n ≤ 900000) :
    Calls Try.prog 8 #[.slice a n c, .int .u8 k.toNat] w fun e w' => ∃ u, e = .returned (.tuple #[u, .int .i64 (scanEnd k l), .int .i64 (scanErr k l)]) ∧ Rows w.heap.size w' u (scanRecs k l) ∧ Below w.heap.size w w' := by
  have hh := refHead_c k w
  have H := Lib.hid h
  clear h
  go_enter Try.func8, Try.ntmps8
  go_wp2_with fail
  refine hh.mono ?_
  rintro e w1 ⟨a8, c8, rfl, hown, hb1⟩
  clear hh
  have hbg := begins_c (Bt.owned hown) (H.out.below hb1) hn
  have HB1 := Lib.hid hb1
  clear hown hb1
  go_wp2_with fail
  refine hbg.mono ?_
  rintro e w2 ⟨rfl, hb2⟩
  have HB2 := Lib.hid (HB1.out.trans (hb2.mono HB1.out.size))
  clear hbg hb2 HB1
  by_cases ho : okHead k l
  · rw [show decide (okHead k l) = true from decide_eq_true ho]
    by_cases h8 : 8 ≤ n
    · go_wp2_with fail
      have hl8 : 8 ≤ l.length := by rw [← H.out.len]; exact h8
      obtain ⟨bb, o, rfl, hbb, hcell⟩ := H.out.cells.resolve_left (fun e => by rw [e] at hl8; simp at hl8)
      have hnc := H.out.cap
      have HCELL := Lib.hid hcell
      have HL8 := Lib.hid hl8
      clear hcell hl8
      go_loopw [7, 8] (fun vr ve wr => ∃ (rs : List (List UInt8)) (at' : Nat), ve = .int .i64 at' ∧ at' ≤ n ∧ 8 ≤ at' ∧ ∃ ra rn rc, vr = .slice ra rn rc ∧ Hid (rs.length = rn) ∧ Hid (Rows w.heap.size wr (.slice ra rs.length rc) rs) ∧ Hid (recs (l.drop 8) = rs ++ recs (l.drop at')) ∧ Hid (at' = 8 + (all rs).length) ∧ Hid (Below w.heap.size w wr)) (fun _ ve _ => n - (intOf ve).toNat)
      case atStart => exact ⟨[], 8, rfl, h8, Nat.le_refl _, none, 0, 0, rfl, Lib.hid rfl, Lib.hid (rows_nil _ _), Lib.hid rfl, Lib.hid rfl, HB2⟩
      case round =>
        obtain ⟨rs, at', rfl, han, ha8, ra, rn, rc, rfl, HRN, HRW, HRC, HAT, HBR⟩ := hrel
        clear HB2
        by_cases hlt : at' + 8 ≤ n
        · have hcw : ∀ j u, l[j]? = some u → wr.cell? ⟨bb, o + j, none⟩ = some (.int .u8 u.toNat) := fun j u hj => (HBR.out.cell (p := ⟨bb, o + j, none⟩) hbb).trans (HCELL.out j u hj)
          have hv1 := Pk.value_any bb _ _ wr (nb_lt _) (by rw [nb_length, List.length_take]; omega) (four_at (cc := c - at') H.out.len hcw (show at' + 4 ≤ n by omega))
          have hv2 := Pk.value_any bb _ _ wr (nb_lt _) (by rw [nb_length, List.length_take]; omega) (four_at (cc := c - (at' + 4)) H.out.len hcw (show at' + 4 + 4 ≤ n by omega))
          rw [val_num] at hv1 hv2
          have e5 : (l.drop (at' + 4)).take 4 = ((l.drop at').drop 4).take 4 := by rw [List.drop_drop]
          rw [e5] at hv2
          have hLl : (l.drop at').length = n - at' := by rw [List.length_drop, ← H.out.len]
          have hfe := first_eq (L := l.drop at') (by omega)
          have hlen4 : val ((l.drop at').take 4) < 4294967296 := val_lt4 (by rw [List.length_take]; omega)
          have hsm4 : val (((l.drop at').drop 4).take 4) < 4294967296 := val_lt4 (by rw [List.length_take, List.length_drop]; omega)
          obtain ⟨len, hlen⟩ : ∃ k, val ((l.drop at').take 4) = k := ⟨_, rfl⟩
          obtain ⟨sm, hsm⟩ : ∃ k, val (((l.drop at').drop 4).take 4) = k := ⟨_, rfl⟩
          rw [hlen, hsm, hLl] at hfe
          rw [hlen] at hlen4 hv1
          rw [hsm] at hsm4 hv2
          have hrn6 : rn ≤ 900000 := by have := HAT.out; have := rows_le rs; have := HRN.out; omega
          have HFE := Lib.hid hfe
          have hw4 : IntKind.i64.wrap ((at' : Int) + 4) = (at' : Int) + 4 := by rw [IntKind.wrap_i64]; omega
          have hw8 : IntKind.i64.wrap ((at' : Int) + 8) = (at' : Int) + 8 := by rw [IntKind.wrap_i64]; omega
          have hi1 : (0 : Int) ≤ (at' : Int) + 4 := by omega
          have hi2 : (at' : Int) + 4 ≤ (n : Int) := by omega
          have hi3 : (at' : Int) + 4 ≤ (c : Int) := by omega
          have hi4 : (at' : Int) + 8 ≤ (n : Int) := by omega
          have hi5 : (at' : Int) + 8 ≤ (c : Int) := by omega
          clear hcw e5 hLl hfe hlen hsm
          go_wp2_with fail
          refine hv1.mono ?_
          rintro e wx ⟨rfl, rfl⟩
          go_wp2_with fail
          refine hv2.mono ?_
          rintro e wx ⟨rfl, rfl⟩
          clear hv1 hv2
          by_cases h4 : len ≤ 4096
          · by_cases h5 : at' + 8 + len ≤ n
            · by_cases hcc : at' + 8 = c
              · have hlen0 : len = 0 := by omega
                obtain ⟨R, hR⟩ : ∃ R, ((l.drop at').drop 8).take len = R := ⟨_, rfl⟩
                rw [hR] at HFE
                have hrest : Bt wr (some ⟨bb, o, none⟩) len 0 R := ⟨by rw [← hR, hlen0]; simp, by omega, fun e => (by cases e), .inl (by rw [← hR, hlen0]; simp)⟩
                subst hcc
                clear hR hlen0 hi3 hi5
                have HREST := Lib.hid hrest
                clear hrest
                have hsum := Cr.refsum_any (some ⟨bb, o, none⟩) len 0 (nb R) wr (nb_lt _) (by rw [nb_length, ← HREST.out.len]; omega) (by rw [nb_length]; exact HREST.out.len) HREST.out.cr
                rw [show Cr.Crc.sum (nb R) = csum R from rfl] at hsum
                obtain ⟨cs, hcs⟩ : ∃ x, csum R = x := ⟨_, rfl⟩
                have hcs32 : cs < 4294967296 := by rw [← hcs]; exact Cr.Crc.more_lt _ _
                rw [hcs] at hsum
                have HCS := Lib.hid hcs
                clear hcs
                go_wp2_with fail
                refine hsum.mono ?_
                rintro e wx ⟨rfl, rfl⟩
                clear hsum
                by_cases hcse : cs = sm
                · have hf : first (l.drop at') = some R := by rw [HFE.out, if_pos ⟨h4, by omega, by rw [HCS.out]; exact hcse⟩]
                  have hne : ((cs : Int) != (sm : Int)) = false := by simp; omega
                  obtain ⟨g1, g2⟩ := scan_next HRC.out hf HAT.out
                  have hrl := HREST.out.len
                  rw [← hrl] at g1 g2
                  have G1 := Lib.hid g1
                  have G2 := Lib.hid g2
                  have HRL := Lib.hid hrl
                  have hown0 := Pk.owns_made wr wr.heap.size (Nat.le_refl _)
                  have hpk := (HREST.out.below (below_alloc wr (.cells #[] 5))).pk
                  have hsz0 : wr.heap.size ≤ (wr.alloc (.cells #[] 5)).heap.size := (below_alloc wr (.cells #[] 5)).size
                  clear hf hcse g1 g2 hrl HFE HRC HAT HCS
                  go_wp2_with (first
                    | (at_builtin; refine Pk.wpList_append_bytes rfl _ _ rfl wr.heap.size _ 0 _ rfl hown0 (some ⟨bb, o, none⟩) len 0 (nb R) rfl (by rw [nb_length]; exact HRL.out) (fun e => by cases e) hpk (nb R) rfl (by omega) hsz0 ?_
                       intro a3 n3 c3 w3 hown3 Hn3 _ _ _ hb3
                       have hn3 : len = n3 := by rw [Hn3.out, nb_length]; exact HRL.out
                       subst hn3
                       have hown4 : w3.ownsRow wr.heap.size 5 1 (.slice a3 len c3) R.length (bytesV R) := by rw [← HRL.out, ← bytesV_nb]; exact hown3
                       have hbC' := (below_alloc wr (.cells #[] 5)).trans hb3
                       have hbw : Below w.heap.size w w3 := HBR.out.trans (hbC'.mono HBR.out.size)
                       obtain ⟨a2, c2, w2', hrun, hrows, hb2⟩ := rows_app (a := ra) (c := rc) (HRW.out.below hbC') hown4 HBR.out.size hbw.size (by rw [HRN.out]; omega)
                       rw [HRN.out] at hrun hrows
                       have HROWS := Lib.hid hrows
                       have HB2 := Lib.hid (hbw.trans hb2)
                       clear hown3 hown4 hb3 hbC' hbw hrows hb2 Hn3 hpk hown0)
                    | (at_builtin; refine wpList_append_rows rfl _ _ rfl rfl _ _ _ rfl rfl hrun ?_))
                  go_roundw
                  case rel => exact ⟨_, at' + 8 + len, by go_num, by omega, by omega, a2, rn + 1, c2, rfl, Lib.hid (by rw [List.length_append, HRN.out]; rfl), Lib.hid (by rw [List.length_append, HRN.out]; exact HROWS.out), G1, G2, HB2⟩
                  case measure => simp [intOf]; omega
                · have hf : first (l.drop at') = none := by rw [HFE.out, if_neg (fun hh => hcse (by rw [← hh.2.2, HCS.out]))]
                  have hne : ((cs : Int) != (sm : Int)) = true := by simp; omega
                  obtain ⟨f1, f2, f3⟩ := scan_fin ho HL8.out HRC.out hf HAT.out
                  clear hf hcse HFE
                  go_wp2_with fail
                  go_ret3
                  rw [f1, f2, f3]
                  exact ⟨_, rfl, by rw [← HRN.out]; exact HRW.out, HBR.out⟩
              · have hcc' : at' + 8 < c := by omega
                clear hcc
                have hrest : Bt wr (some ⟨bb, o + (at' + 8), none⟩) len (c - (at' + 8)) (((l.drop at').drop 8).take len) := by
                  refine ⟨by rw [List.length_take, List.length_drop, List.length_drop, ← H.out.len]; omega, by omega, fun e => (by cases e), .inr ⟨bb, o + (at' + 8), rfl, Nat.lt_of_lt_of_le hbb HBR.out.size, fun j u hj => ?_⟩⟩
                  rw [List.getElem?_take] at hj
                  split at hj
                  · rw [List.drop_drop, List.getElem?_drop] at hj
                    have := HCELL.out (at' + 8 + j) u hj
                    rw [← this, Nat.add_assoc o]
                    exact HBR.out.cell (p := ⟨bb, o + (at' + 8 + j), none⟩) hbb
                  · cases hj
                obtain ⟨R, hR⟩ : ∃ R, ((l.drop at').drop 8).take len = R := ⟨_, rfl⟩
                rw [hR] at hrest HFE
                clear hR
                have HREST := Lib.hid hrest
                clear hrest
                have hsum := Cr.refsum_any (some ⟨bb, o + (at' + 8), none⟩) len (c - (at' + 8)) (nb R) wr (nb_lt _) (by rw [nb_length, ← HREST.out.len]; omega) (by rw [nb_length]; exact HREST.out.len) HREST.out.cr
                rw [show Cr.Crc.sum (nb R) = csum R from rfl] at hsum
                obtain ⟨cs, hcs⟩ : ∃ x, csum R = x := ⟨_, rfl⟩
                have hcs32 : cs < 4294967296 := by rw [← hcs]; exact Cr.Crc.more_lt _ _
                rw [hcs] at hsum
                have HCS := Lib.hid hcs
                clear hcs
                go_wp2_with fail
                refine hsum.mono ?_
                rintro e wx ⟨rfl, rfl⟩
                clear hsum
                by_cases hcse : cs = sm
                · have hf : first (l.drop at') = some R := by rw [HFE.out, if_pos ⟨h4, by omega, by rw [HCS.out]; exact hcse⟩]
                  have hne : ((cs : Int) != (sm : Int)) = false := by simp; omega
                  obtain ⟨g1, g2⟩ := scan_next HRC.out hf HAT.out
                  have hrl := HREST.out.len
                  rw [← hrl] at g1 g2
                  have G1 := Lib.hid g1
                  have G2 := Lib.hid g2
                  have HRL := Lib.hid hrl
                  have hown0 := Pk.owns_made wr wr.heap.size (Nat.le_refl _)
                  have hpk := (HREST.out.below (below_alloc wr (.cells #[] 5))).pk
                  have hsz0 : wr.heap.size ≤ (wr.alloc (.cells #[] 5)).heap.size := (below_alloc wr (.cells #[] 5)).size
                  clear hf hcse g1 g2 hrl HFE HRC HAT HCS
                  go_wp2_with (first
                    | (at_builtin; refine Pk.wpList_append_bytes rfl _ _ rfl wr.heap.size _ 0 _ rfl hown0 (some ⟨bb, o + (at' + 8), none⟩) len (c - (at' + 8)) (nb R) rfl (by rw [nb_length]; exact HRL.out) (fun e => by cases e) hpk (nb R) rfl (by omega) hsz0 ?_
                       intro a3 n3 c3 w3 hown3 Hn3 _ _ _ hb3
                       have hn3 : len = n3 := by rw [Hn3.out, nb_length]; exact HRL.out
                       subst hn3
                       have hown4 : w3.ownsRow wr.heap.size 5 1 (.slice a3 len c3) R.length (bytesV R) := by rw [← HRL.out, ← bytesV_nb]; exact hown3
                       have hbC' := (below_alloc wr (.cells #[] 5)).trans hb3
                       have hbw : Below w.heap.size w w3 := HBR.out.trans (hbC'.mono HBR.out.size)
                       obtain ⟨a2, c2, w2', hrun, hrows, hb2⟩ := rows_app (a := ra) (c := rc) (HRW.out.below hbC') hown4 HBR.out.size hbw.size (by rw [HRN.out]; omega)
                       rw [HRN.out] at hrun hrows
                       have HROWS := Lib.hid hrows
                       have HB2 := Lib.hid (hbw.trans hb2)
                       clear hown3 hown4 hb3 hbC' hbw hrows hb2 Hn3 hpk hown0)
                    | (at_builtin; refine wpList_append_rows rfl _ _ rfl rfl _ _ _ rfl rfl hrun ?_))
                  go_roundw
                  case rel => exact ⟨_, at' + 8 + len, by go_num, by omega, by omega, a2, rn + 1, c2, rfl, Lib.hid (by rw [List.length_append, HRN.out]; rfl), Lib.hid (by rw [List.length_append, HRN.out]; exact HROWS.out), G1, G2, HB2⟩
                  case measure => simp [intOf]; omega
                · have hf : first (l.drop at') = none := by rw [HFE.out, if_neg (fun hh => hcse (by rw [← hh.2.2, HCS.out]))]
                  have hne : ((cs : Int) != (sm : Int)) = true := by simp; omega
                  obtain ⟨f1, f2, f3⟩ := scan_fin ho HL8.out HRC.out hf HAT.out
                  clear hf hcse HFE
                  go_wp2_with fail
                  go_ret3
                  rw [f1, f2, f3]
                  exact ⟨_, rfl, by rw [← HRN.out]; exact HRW.out, HBR.out⟩
            · have h6 : n - (at' + 8) < len := by omega
              have hf : first (l.drop at') = none := by rw [HFE.out, if_neg (by omega)]
              obtain ⟨f1, f2, f3⟩ := scan_fin ho HL8.out HRC.out hf HAT.out
              clear hf
              go_wp2_with fail
              go_ret3
              rw [f1, f2, f3]
              exact ⟨_, rfl, by rw [← HRN.out]; exact HRW.out, HBR.out⟩
          · go_wp2_with fail
            have hf : first (l.drop at') = none := by rw [HFE.out, if_neg (by omega)]
            obtain ⟨f1, f2, f3⟩ := scan_fin ho HL8.out HRC.out hf HAT.out
            go_ret3
            rw [f1, f2, f3]
            exact ⟨_, rfl, by rw [← HRN.out]; exact HRW.out, HBR.out⟩
        · have hf : first (l.drop at') = none := first_short (by rw [List.length_drop, ← H.out.len]; omega)
          obtain ⟨f1, f2, f3⟩ := scan_fin ho HL8.out HRC.out hf HAT.out
          go_wp2_with fail
          go_ret3
          rw [f1, f2, f3]
          exact ⟨_, rfl, by rw [← HRN.out]; exact HRW.out, HBR.out⟩
    · go_wp2
      obtain ⟨f1, f2, f3⟩ := scan_short ho (show l.length < 8 by rw [← H.out.len]; omega)
      go_ret3
      rw [f1, f2, f3]
      exact ⟨_, rfl, rows_nil _ _, HB2.out⟩
  · rw [show decide (okHead k l) = false from decide_eq_false ho]
    go_wp2
    obtain ⟨f1, f2, f3⟩ := scan_bad ho
    go_ret3
    rw [f1, f2, f3]
    exact ⟨_, rfl, rows_nil _ _, HB2.out⟩
end Go.Proofs.Ytfmelhcpccghdaa.Rl
