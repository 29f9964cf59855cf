/-
  reclog's Scan.
-/
import Derived.Test.YtfmelhcpccghdaaGreatRlBytes
import Derived.OwnWalk
namespace Go.Proofs.YtfmelhcpccghdaaGreat.Rl
open Go.RowKit Go.Maps

variable {w : World}

def okHead (k : UInt8) (b : List UInt8) : Prop := b.take (min b.length 8) = (head k).take (min b.length 8)
instance (k : UInt8) (b : List UInt8) : Decidable (okHead k b) := inferInstanceAs (Decidable (_ = _))
def scanRecs (k : UInt8) (b : List UInt8) : List (List UInt8) := if okHead k b then gotOf b else []
def scanEnd (k : UInt8) (b : List UInt8) : Nat := if okHead k b ∧ 8 ≤ b.length then 8 + (all (gotOf b)).length else 0
def scanErr (k : UInt8) (b : List UInt8) : Nat := if okHead k b then 0 else 9

theorem first_short {b : List UInt8} (h : b.length < 8) : first b = none := by unfold first; rw [if_neg (by omega)]
theorem val_num (l : List UInt8) : Pk.num (nb l) = val l := by
  induction l with
  | nil => rfl
  | cons b r ih => simp only [nb, List.map_cons, Pk.num, val]; rw [← ih]; rfl
theorem rd4 {l : List UInt8} (h : 4 ≤ l.length) : Pk.rdN 4 (nb l) = val (l.take 4) ∧ Pk.rdL 4 (nb l) = nb (l.drop 4) := by
  unfold Pk.rdN Pk.rdL
  rw [if_pos (by rw [nb_length]; exact h), if_pos (by rw [nb_length]; exact h)]
  refine ⟨?_, by simp [nb]⟩
  rw [← val_num]
  simp [nb]

theorem first_eq {L : List UInt8} (h : 8 ≤ L.length) : first L = if val (L.take 4) ≤ 4096 ∧ val (L.take 4) ≤ L.length - 8 ∧ csum ((L.drop 8).take (val (L.take 4))) = val ((L.drop 4).take 4) then some ((L.drop 8).take (val (L.take 4))) else none := by
  unfold first
  by_cases hc : val (L.take 4) ≤ 4096 ∧ val (L.take 4) ≤ L.length - 8 ∧ csum ((L.drop 8).take (val (L.take 4))) = val ((L.drop 4).take 4)
  · rw [if_pos ⟨h, hc⟩, if_pos hc]
  · rw [if_neg (fun hh => hc hh.2), if_neg hc]
theorem rows_le : ∀ (rs : List (List UInt8)), rs.length ≤ (all rs).length
  | [] => Nat.le_refl _
  | r :: rs => by
    have := rows_le rs
    rw [all_cons, List.length_append, frame_length, List.length_cons]
    omega
theorem scan_fin {k : UInt8} {l : List UInt8} {rs : List (List UInt8)} {e : Nat} (ho : okHead k l) (h8 : 8 ≤ l.length) (h1 : recs (l.drop 8) = rs ++ recs (l.drop e)) (h2 : first (l.drop e) = none) (h3 : e = 8 + (all rs).length) :
    scanRecs k l = rs ∧ scanEnd k l = e ∧ scanErr k l = 0 := by
  have hg : gotOf l = rs := by unfold gotOf; rw [if_neg (by omega), h1, recs_none h2, List.append_nil]
  refine ⟨?_, ?_, ?_⟩
  · unfold scanRecs; rw [if_pos ho, hg]
  · unfold scanEnd; rw [if_pos ⟨ho, h8⟩, hg, h3]
  · unfold scanErr; rw [if_pos ho]
theorem scan_short {k : UInt8} {l : List UInt8} (ho : okHead k l) (h8 : l.length < 8) : scanRecs k l = [] ∧ scanEnd k l = 0 ∧ scanErr k l = 0 := by
  refine ⟨?_, ?_, ?_⟩
  · unfold scanRecs gotOf; rw [if_pos ho, if_pos h8]
  · unfold scanEnd; rw [if_neg (fun h => by omega)]
  · unfold scanErr; rw [if_pos ho]
theorem scan_bad {k : UInt8} {l : List UInt8} (ho : ¬ okHead k l) : scanRecs k l = [] ∧ scanEnd k l = 0 ∧ scanErr k l = 9 := by
  refine ⟨?_, ?_, ?_⟩
  · unfold scanRecs; rw [if_neg ho]
  · unfold scanEnd; rw [if_neg (fun h => ho h.1)]
  · unfold scanErr; rw [if_neg ho]
theorem scan_next {l : List UInt8} {rs : List (List UInt8)} {e : Nat} {r : List UInt8} (h1 : recs (l.drop 8) = rs ++ recs (l.drop e)) (h2 : first (l.drop e) = some r) (h3 : e = 8 + (all rs).length) :
    recs (l.drop 8) = (rs ++ [r]) ++ recs (l.drop (e + 8 + r.length)) ∧ e + 8 + r.length = 8 + (all (rs ++ [r])).length := by
  refine ⟨?_, ?_⟩
  · rw [h1, recs_some h2, List.drop_drop, List.append_assoc, Nat.add_assoc]
    rfl
  · rw [all_append, all_one, List.length_append, frame_length, h3]
    omega

set_option maxRecDepth 100000 in
set_option maxHeartbeats 4000000 in
theorem scan_c {a : Option Addr} {n c : Nat} {l : List UInt8} (k : UInt8) (h : Bt w a n c l) (hn : n ≤ 900000) :
    Calls Tryz.prog 50 #[.slice a n c, .int .u8 k.toNat] w fun e w' => ∃ u, e = .returned (.tuple #[u, .int .i64 (scanEnd k l), .int .i64 (scanErr k l)]) ∧ Rows w.heap.size w' u (scanRecs k l) ∧ Below w.heap.size w w' := by
  have hh := head_c k w
  obtain ⟨m, hm, hmn, hm8⟩ : ∃ m : Nat, min (n : Int) 8 = (m : Int) ∧ m ≤ n ∧ m ≤ 8 := ⟨min n 8, by omega, by omega, by omega⟩
  have hmm : m = min l.length 8 := by rw [← h.len]; omega
  have H := Lib.hid h
  have HMM := Lib.hid hmm
  clear h hmm
  go_enter Tryz.func50, Tryz.ntmps50
  go_wp2_with fail
  go_step3
  go_wp2_with fail
  refine hh.mono ?_
  rintro e w1 ⟨a8, c8, rfl, hown, hb1⟩
  clear hh
  have hp := hasPrefix_c (H.out.below hb1) ((Bt.owned hown).take hm8) hmn
  have hc8 : 8 ≤ c8 := (Bt.owned hown).cap
  have HB1 := Lib.hid hb1
  clear hown hb1
  go_wp2_with fail
  refine hp.mono ?_
  rintro e w2 ⟨rfl, rfl⟩
  clear hp
  have hok : decide (l.take m = (head k).take m) = decide (okHead k l) := decide_eq_decide.2 (by unfold okHead; rw [← HMM.out])
  rw [hok]
  clear hok
  by_cases ho : okHead k l
  · rw [show decide (okHead k l) = true from decide_eq_true ho]
    by_cases h8 : 8 ≤ n
    · go_wp2_with fail
      go_step3
      go_wp2_with fail
      have hl8 : 8 ≤ l.length := by rw [← H.out.len]; exact h8
      obtain ⟨bb, o, rfl, hbb, hcell⟩ := H.out.cells.resolve_left (fun e => by rw [e] at hl8; simp at hl8)
      have hnc := H.out.cap
      have HCELL := Lib.hid hcell
      have HL8 := Lib.hid hl8
      clear hcell hl8 hm hmn hm8 HMM
      go_loopw [4, 5] (fun vr ve wr => ∃ (rs : List (List UInt8)) (at' : Nat), ve = .int .i64 at' ∧ at' ≤ n ∧ 8 ≤ at' ∧ ∃ ra rn rc, vr = .slice ra rn rc ∧ Hid (rs.length = rn) ∧ Hid (Rows w.heap.size wr (.slice ra rs.length rc) rs) ∧ Hid (recs (l.drop 8) = rs ++ recs (l.drop at')) ∧ Hid (at' = 8 + (all rs).length) ∧ Hid (Below w.heap.size w wr)) (fun _ ve _ => n - (intOf ve).toNat)
      case atStart => exact ⟨[], 8, rfl, h8, Nat.le_refl _, none, 0, 0, rfl, Lib.hid rfl, Lib.hid (rows_nil _ _), Lib.hid rfl, Lib.hid rfl, HB1⟩
      case round =>
        obtain ⟨rs, at', rfl, han, ha8, ra, rn, rc, rfl, HRN, HRW, HRC, HAT, HBR⟩ := hrel
        clear HB1
        by_cases hlt : at' + 8 ≤ n
        · obtain ⟨q, hq⟩ : ∃ q, n = at' + 8 + q := ⟨n - (at' + 8), by omega⟩
          have hb8 : Bt wr (some ⟨bb, o + at', none⟩) 8 (c - at') ((l.drop at').take 8) := by
            refine ⟨?_, by omega, fun e => (by cases e), .inr ⟨bb, o + at', rfl, Nat.lt_of_lt_of_le hbb HBR.out.size, fun j u hj => ?_⟩⟩
            · rw [List.length_take, List.length_drop, ← H.out.len]; omega
            · rw [List.getElem?_take] at hj
              split at hj
              · rw [List.getElem?_drop] at hj
                have := HCELL.out (at' + j) u hj
                rw [← this, Nat.add_assoc]
                exact HBR.out.cell (p := ⟨bb, o + (at' + j), none⟩) hbb
              · cases hj
          have hnew := Pk.new_any (some ⟨bb, o + at', none⟩) 8 (c - at') (nb ((l.drop at').take 8)) wr (Lib.hid (by rw [nb_length]; exact hb8.len)) hb8.pk (by omega)
          clear hb8
          go_wp2_with fail
          refine hnew.mono ?_
          rintro e wN ⟨p, hp, rfl, hrd, hbN⟩
          clear hnew
          have hB8l : ((l.drop at').take 8).length = 8 := by rw [List.length_take, List.length_drop, ← H.out.len]; omega
          have hu1 := Pk.u32r_any p wr.heap.size (nb ((l.drop at').take 8)) false wN.drew ⟨hrd.ne, hrd.lt, hrd.cells⟩ (by rw [nb_length]; omega) (nb_lt _)
          obtain ⟨e1, e2⟩ := rd4 (l := (l.drop at').take 8) (by omega)
          have hu2 := fun (W : World) (hr : Pk.Rd W p wr.heap.size (Pk.rdL 4 (nb ((l.drop at').take 8))) (Pk.rdB 4 (nb ((l.drop at').take 8)) false)) => Pk.u32r_any p wr.heap.size _ _ W hr (by rw [e2, nb_length, List.length_drop]; omega) (by rw [e2]; exact nb_lt _)
          have e3 : Pk.rdN 4 (Pk.rdL 4 (nb ((l.drop at').take 8))) = val ((((l.drop at').take 8).drop 4).take 4) := by rw [e2]; exact (rd4 (by rw [List.length_drop]; omega)).1
          have e4 : ((l.drop at').take 8).take 4 = (l.drop at').take 4 := by rw [List.take_take]; rfl
          have e5 : ((((l.drop at').take 8).drop 4).take 4) = ((l.drop at').drop 4).take 4 := by rw [List.drop_take, List.take_take]; rfl
          rw [e4] at e1
          rw [e5] at e3
          rw [e1] at hu1
          rw [e3] at hu2
          obtain ⟨len, hlen⟩ : ∃ k, val ((l.drop at').take 4) = k := ⟨_, rfl⟩
          obtain ⟨sm, hsm⟩ : ∃ k, val (((l.drop at').drop 4).take 4) = k := ⟨_, rfl⟩
          rw [hlen] at hu1
          rw [hsm] at hu2
          have hlen4 : len < 4294967296 := by rw [← hlen]; exact val_lt4 (by rw [List.length_take, List.length_drop, ← H.out.len]; omega)
          have hsm4 : sm < 4294967296 := by rw [← hsm]; exact val_lt4 (by rw [List.length_take, List.length_drop, List.length_drop, ← H.out.len]; omega)
          have HLEN := Lib.hid hlen
          have HSM := Lib.hid hsm
          have HU2 := Lib.hid hu2
          have HBN := Lib.hid hbN
          have hw1 : IntKind.i64.wrap ((at' : Int) + 8) = (at' : Int) + 8 := by rw [IntKind.wrap_i64]; omega
          have hi1 : (0 : Int) ≤ (at' : Int) + 8 := by omega
          have hi2 : (at' : Int) + 8 ≤ (n : Int) := by omega
          have hi3 : (at' : Int) + 8 ≤ (c : Int) := by omega
          clear hB8l e1 e2 e3 e4 e5 hu2 hlen hsm hrd hbN hq
          by_cases hcc : at' + 8 = c
          · subst hcc
            have hn0 : n ≤ at' + 8 := by omega
            have hLl : (l.drop at').length = n - at' := by rw [List.length_drop, ← H.out.len]
            have hfe := first_eq (L := l.drop at') (by omega)
            rw [HLEN.out, HSM.out, hLl] at hfe
            have hrn6 : rn ≤ 900000 := by have := HAT.out; have := rows_le rs; have := HRN.out; omega
            by_cases h4 : len ≤ 4096
            · by_cases h5 : len = 0
              · subst h5
                have h5 : at' + 8 + 0 ≤ n := by omega
                have hrest : Bt wr (some ⟨bb, o, none⟩) 0 0 (((l.drop at').drop 8).take 0) := ⟨by simp, Nat.le_refl _, fun e => (by cases e), .inl (by simp)⟩
                obtain ⟨R, hR⟩ : ∃ R, ((l.drop at').drop 8).take 0 = R := ⟨_, rfl⟩
                rw [hR] at hrest hfe
                have HREST := Lib.hid hrest
                have HFE := Lib.hid hfe
                clear hR
                clear hrest hfe hLl
                go_wp2_with fail
                go_region_held3 (fun _ => True) (exact trivial)
                  (first
                    | (go_at_call 70; refine hu1.mono ?_; rintro e wU ⟨rfl, hrd2, ho1⟩; have hu2 := HU2.out wU hrd2)
                    | (go_at_call 70; refine hu2.mono ?_; rintro e wV ⟨rfl, hrd3, ho2⟩))
                have hbV : Below wr.heap.size wr wV := ((HBN.out.drew).trans ((ho1.below (Nat.le_of_lt hp) HBN.out.size).trans (ho2.below (Nat.le_of_lt hp) (Nat.le_trans HBN.out.size ho1.size))))
                have hrV := HREST.out.below hbV
                have hsum := Cr.sum_any (some ⟨bb, o, none⟩) 0 0 (nb R) wV (nb_lt _) (by rw [nb_length, ← HREST.out.len]; omega) (by rw [nb_length]; exact HREST.out.len) hrV.cr
                rw [show Cr.Crc.sum (nb R) = csum R from rfl] at hsum
                obtain ⟨cs, hcs⟩ : ∃ x, csum R = x := ⟨_, rfl⟩
                rw [hcs] at hsum
                have HRV := Lib.hid hrV
                have HBV := Lib.hid hbV
                have HCS := Lib.hid hcs
                clear hbV hrV hcs hrd2 hrd3 ho1 ho2 hu1 HU2 HBN
                go_wp2_with fail
                refine hsum.mono ?_
                rintro e wS ⟨rfl, hbS⟩
                clear hsum
                by_cases hcse : cs = sm
                · have hf : first (l.drop at') = some R := by rw [HFE.out, if_pos ⟨h4, by omega, by rw [HCS.out]; exact hcse⟩]
                  have hne : ((cs : Int) != (sm : Int)) = false := by simp; omega
                  obtain ⟨g1, g2⟩ := scan_next HRC.out hf HAT.out
                  have hrl := HRV.out.len
                  have hcl := bclone_c (HRV.out.below hbS).row (by rw [← hrl]; omega)
                  rw [← hrl] at g1 g2
                  have G1 := Lib.hid g1
                  have G2 := Lib.hid g2
                  have HRL := Lib.hid hrl
                  have hbS' := HBV.out.trans (hbS.mono HBV.out.size)
                  have HBS := Lib.hid hbS'
                  clear hf hcse g1 g2 hrl hbS hbS' HFE HRC HAT HCS HBV HRV HREST
                  go_wp2_with fail
                  refine hcl.mono ?_
                  rintro e wC ⟨u, rfl, hown, hbC⟩
                  clear hcl
                  obtain ⟨ua, uc, rfl⟩ : ∃ a c, u = .slice a 0 c := by rw [HRL.out]; exact row_len hown
                  have hbC' := HBS.out.trans (hbC.mono HBS.out.size)
                  have hbw : Below w.heap.size w wC := HBR.out.trans (hbC'.mono HBR.out.size)
                  obtain ⟨a2, c2, w2, hrun, hrows, hb2⟩ := rows_app (a := ra) (c := rc) (HRW.out.below hbC') hown (Nat.le_trans HBR.out.size HBS.out.size) hbw.size (by rw [HRN.out]; omega)
                  rw [HRN.out] at hrun hrows
                  have HROWS := Lib.hid hrows
                  have HB2 := Lib.hid (hbw.trans hb2)
                  clear hown hbC hbC' hbw hrows hb2 HBS
                  go_wp2_with (at_builtin; refine wpList_append_rows rfl _ _ rfl rfl _ _ _ rfl rfl hrun ?_)
                  go_roundw
                  case rel => exact ⟨_, at' + 8 + 0, by go_num, by omega, by omega, a2, rn + 1, c2, rfl, Lib.hid (by rw [List.length_append, HRN.out]; rfl), Lib.hid (by rw [List.length_append, HRN.out]; exact HROWS.out), G1, G2, HB2⟩
                  case measure => simp [intOf]; omega
                · have hf : first (l.drop at') = none := by rw [HFE.out, if_neg (fun hh => hcse (by rw [← hh.2.2, HCS.out]))]
                  have hne : ((cs : Int) != (sm : Int)) = true := by simp; omega
                  obtain ⟨f1, f2, f3⟩ := scan_fin ho HL8.out HRC.out hf HAT.out
                  have hbS' := HBV.out.trans (hbS.mono HBV.out.size)
                  clear hf hcse HFE
                  go_wp2_with fail
                  simp only [Exit.noGoto]
                  go_ret3
                  rw [f1, f2, f3]
                  exact ⟨_, rfl, by rw [← HRN.out]; exact HRW.out.below hbS', HBR.out.trans (hbS'.mono HBR.out.size)⟩
              · have hf : first (l.drop at') = none := by rw [hfe, if_neg (by omega)]
                obtain ⟨f1, f2, f3⟩ := scan_fin ho HL8.out HRC.out hf HAT.out
                have h6 : n - (at' + 8) < len := by omega
                clear hfe hf hLl
                go_wp2_with fail
                go_region_held3 (fun _ => True) (exact trivial)
                  (first
                    | (go_at_call 70; refine hu1.mono ?_; rintro e wU ⟨rfl, hrd2, ho1⟩; have hu2 := HU2.out wU hrd2)
                    | (go_at_call 70; refine hu2.mono ?_; rintro e wV ⟨rfl, hrd3, ho2⟩))
                have hbV : Below wr.heap.size wr wV := ((HBN.out.drew).trans ((ho1.below (Nat.le_of_lt hp) HBN.out.size).trans (ho2.below (Nat.le_of_lt hp) (Nat.le_trans HBN.out.size ho1.size))))
                go_wp2_with fail
                simp only [Exit.noGoto]
                go_ret3
                rw [f1, f2, f3]
                exact ⟨_, rfl, by rw [← HRN.out]; exact HRW.out.below hbV, HBR.out.trans (hbV.mono HBR.out.size)⟩
            · have hf : first (l.drop at') = none := by rw [hfe, if_neg (by omega)]
              obtain ⟨f1, f2, f3⟩ := scan_fin ho HL8.out HRC.out hf HAT.out
              clear hfe hf hLl
              go_wp2_with fail
              go_region_held3 (fun _ => True) (exact trivial)
                (first
                  | (go_at_call 70; refine hu1.mono ?_; rintro e wU ⟨rfl, hrd2, ho1⟩; have hu2 := HU2.out wU hrd2)
                  | (go_at_call 70; refine hu2.mono ?_; rintro e wV ⟨rfl, hrd3, ho2⟩))
              have hbV : Below wr.heap.size wr wV := ((HBN.out.drew).trans ((ho1.below (Nat.le_of_lt hp) HBN.out.size).trans (ho2.below (Nat.le_of_lt hp) (Nat.le_trans HBN.out.size ho1.size))))
              go_wp2_with fail
              simp only [Exit.noGoto]
              go_ret3
              rw [f1, f2, f3]
              exact ⟨_, rfl, by rw [← HRN.out]; exact HRW.out.below hbV, HBR.out.trans (hbV.mono HBR.out.size)⟩
          · have hcc' : at' + 8 < c := by omega
            clear hcc
            have hLl : (l.drop at').length = n - at' := by rw [List.length_drop, ← H.out.len]
            have hfe := first_eq (L := l.drop at') (by omega)
            rw [HLEN.out, HSM.out, hLl] at hfe
            have hrn6 : rn ≤ 900000 := by have := HAT.out; have := rows_le rs; have := HRN.out; omega
            by_cases h4 : len ≤ 4096
            · by_cases h5 : at' + 8 + len ≤ n
              · have hrest : Bt wr (some ⟨bb, o + (at' + 8), none⟩) len (c - (at' + 8)) (((l.drop at').drop 8).take len) := by
                  refine ⟨by rw [List.length_take, List.length_drop, hLl]; omega, by omega, fun e => (by cases e), .inr ⟨bb, o + (at' + 8), rfl, Nat.lt_of_lt_of_le hbb HBR.out.size, fun j u hj => ?_⟩⟩
                  rw [List.getElem?_take] at hj
                  split at hj
                  · rw [List.drop_drop, List.getElem?_drop] at hj
                    have := HCELL.out (at' + 8 + j) u hj
                    rw [← this, Nat.add_assoc o]
                    exact HBR.out.cell (p := ⟨bb, o + (at' + 8 + j), none⟩) hbb
                  · cases hj
                obtain ⟨R, hR⟩ : ∃ R, ((l.drop at').drop 8).take len = R := ⟨_, rfl⟩
                rw [hR] at hrest hfe
                have HREST := Lib.hid hrest
                have HFE := Lib.hid hfe
                clear hR
                clear hrest hfe hLl
                go_wp2_with fail
                go_region_held3 (fun _ => True) (exact trivial)
                  (first
                    | (go_at_call 70; refine hu1.mono ?_; rintro e wU ⟨rfl, hrd2, ho1⟩; have hu2 := HU2.out wU hrd2)
                    | (go_at_call 70; refine hu2.mono ?_; rintro e wV ⟨rfl, hrd3, ho2⟩))
                have hbV : Below wr.heap.size wr wV := ((HBN.out.drew).trans ((ho1.below (Nat.le_of_lt hp) HBN.out.size).trans (ho2.below (Nat.le_of_lt hp) (Nat.le_trans HBN.out.size ho1.size))))
                have hrV := HREST.out.below hbV
                have hsum := Cr.sum_any (some ⟨bb, o + (at' + 8), none⟩) len (c - (at' + 8)) (nb R) wV (nb_lt _) (by rw [nb_length, ← HREST.out.len]; omega) (by rw [nb_length]; exact HREST.out.len) hrV.cr
                rw [show Cr.Crc.sum (nb R) = csum R from rfl] at hsum
                obtain ⟨cs, hcs⟩ : ∃ x, csum R = x := ⟨_, rfl⟩
                rw [hcs] at hsum
                have HRV := Lib.hid hrV
                have HBV := Lib.hid hbV
                have HCS := Lib.hid hcs
                clear hbV hrV hcs hrd2 hrd3 ho1 ho2 hu1 HU2 HBN
                go_wp2_with fail
                refine hsum.mono ?_
                rintro e wS ⟨rfl, hbS⟩
                clear hsum
                by_cases hcse : cs = sm
                · have hf : first (l.drop at') = some R := by rw [HFE.out, if_pos ⟨h4, by omega, by rw [HCS.out]; exact hcse⟩]
                  have hne : ((cs : Int) != (sm : Int)) = false := by simp; omega
                  obtain ⟨g1, g2⟩ := scan_next HRC.out hf HAT.out
                  have hrl := HRV.out.len
                  have hcl := bclone_c (HRV.out.below hbS).row (by rw [← hrl]; omega)
                  rw [← hrl] at g1 g2
                  have G1 := Lib.hid g1
                  have G2 := Lib.hid g2
                  have HRL := Lib.hid hrl
                  have hbS' := HBV.out.trans (hbS.mono HBV.out.size)
                  have HBS := Lib.hid hbS'
                  clear hf hcse g1 g2 hrl hbS hbS' HFE HRC HAT HCS HBV HRV HREST
                  go_wp2_with fail
                  refine hcl.mono ?_
                  rintro e wC ⟨u, rfl, hown, hbC⟩
                  clear hcl
                  obtain ⟨ua, uc, rfl⟩ : ∃ a c, u = .slice a len c := by rw [HRL.out]; exact row_len hown
                  have hbC' := HBS.out.trans (hbC.mono HBS.out.size)
                  have hbw : Below w.heap.size w wC := HBR.out.trans (hbC'.mono HBR.out.size)
                  obtain ⟨a2, c2, w2, hrun, hrows, hb2⟩ := rows_app (a := ra) (c := rc) (HRW.out.below hbC') hown (Nat.le_trans HBR.out.size HBS.out.size) hbw.size (by rw [HRN.out]; omega)
                  rw [HRN.out] at hrun hrows
                  have HROWS := Lib.hid hrows
                  have HB2 := Lib.hid (hbw.trans hb2)
                  clear hown hbC hbC' hbw hrows hb2 HBS
                  go_wp2_with (at_builtin; refine wpList_append_rows rfl _ _ rfl rfl _ _ _ rfl rfl hrun ?_)
                  go_roundw
                  case rel => exact ⟨_, at' + 8 + len, by go_num, by omega, by omega, a2, rn + 1, c2, rfl, Lib.hid (by rw [List.length_append, HRN.out]; rfl), Lib.hid (by rw [List.length_append, HRN.out]; exact HROWS.out), G1, G2, HB2⟩
                  case measure => simp [intOf]; omega
                · have hf : first (l.drop at') = none := by rw [HFE.out, if_neg (fun hh => hcse (by rw [← hh.2.2, HCS.out]))]
                  have hne : ((cs : Int) != (sm : Int)) = true := by simp; omega
                  obtain ⟨f1, f2, f3⟩ := scan_fin ho HL8.out HRC.out hf HAT.out
                  have hbS' := HBV.out.trans (hbS.mono HBV.out.size)
                  clear hf hcse HFE
                  go_wp2_with fail
                  simp only [Exit.noGoto]
                  go_ret3
                  rw [f1, f2, f3]
                  exact ⟨_, rfl, by rw [← HRN.out]; exact HRW.out.below hbS', HBR.out.trans (hbS'.mono HBR.out.size)⟩
              · have hf : first (l.drop at') = none := by rw [hfe, if_neg (by omega)]
                obtain ⟨f1, f2, f3⟩ := scan_fin ho HL8.out HRC.out hf HAT.out
                have h6 : n - (at' + 8) < len := by omega
                clear hfe hf hLl
                go_wp2_with fail
                go_region_held3 (fun _ => True) (exact trivial)
                  (first
                    | (go_at_call 70; refine hu1.mono ?_; rintro e wU ⟨rfl, hrd2, ho1⟩; have hu2 := HU2.out wU hrd2)
                    | (go_at_call 70; refine hu2.mono ?_; rintro e wV ⟨rfl, hrd3, ho2⟩))
                have hbV : Below wr.heap.size wr wV := ((HBN.out.drew).trans ((ho1.below (Nat.le_of_lt hp) HBN.out.size).trans (ho2.below (Nat.le_of_lt hp) (Nat.le_trans HBN.out.size ho1.size))))
                go_wp2_with fail
                simp only [Exit.noGoto]
                go_ret3
                rw [f1, f2, f3]
                exact ⟨_, rfl, by rw [← HRN.out]; exact HRW.out.below hbV, HBR.out.trans (hbV.mono HBR.out.size)⟩
            · have hf : first (l.drop at') = none := by rw [hfe, if_neg (by omega)]
              obtain ⟨f1, f2, f3⟩ := scan_fin ho HL8.out HRC.out hf HAT.out
              clear hfe hf hLl
              go_wp2_with fail
              go_region_held3 (fun _ => True) (exact trivial)
                (first
                  | (go_at_call 70; refine hu1.mono ?_; rintro e wU ⟨rfl, hrd2, ho1⟩; have hu2 := HU2.out wU hrd2)
                  | (go_at_call 70; refine hu2.mono ?_; rintro e wV ⟨rfl, hrd3, ho2⟩))
              have hbV : Below wr.heap.size wr wV := ((HBN.out.drew).trans ((ho1.below (Nat.le_of_lt hp) HBN.out.size).trans (ho2.below (Nat.le_of_lt hp) (Nat.le_trans HBN.out.size ho1.size))))
              go_wp2_with fail
              simp only [Exit.noGoto]
              go_ret3
              rw [f1, f2, f3]
              exact ⟨_, rfl, by rw [← HRN.out]; exact HRW.out.below hbV, HBR.out.trans (hbV.mono HBR.out.size)⟩
        · have hf : first (l.drop at') = none := first_short (by rw [List.length_drop, ← H.out.len]; omega)
          obtain ⟨f1, f2, f3⟩ := scan_fin ho HL8.out HRC.out hf HAT.out
          go_wp2_with fail
          simp only [Exit.noGoto]
          go_ret3
          rw [f1, f2, f3]
          exact ⟨_, rfl, by rw [← HRN.out]; exact HRW.out, HBR.out⟩
    · go_wp2
      simp only [Exit.noGoto]
      obtain ⟨f1, f2, f3⟩ := scan_short ho (show l.length < 8 by rw [← H.out.len]; omega)
      go_ret3
      rw [f1, f2, f3]
      exact ⟨_, rfl, rows_nil _ _, HB1.out⟩
  · rw [show decide (okHead k l) = false from decide_eq_false ho]
    go_wp2
    simp only [Exit.noGoto]
    obtain ⟨f1, f2, f3⟩ := scan_bad ho
    go_ret3
    rw [f1, f2, f3]
    exact ⟨_, rfl, rows_nil _ _, HB1.out⟩
end Go.Proofs.YtfmelhcpccghdaaGreat.Rl
