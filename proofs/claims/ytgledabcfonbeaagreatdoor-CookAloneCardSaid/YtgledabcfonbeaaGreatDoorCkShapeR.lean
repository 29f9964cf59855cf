/-
  The document's Shape, walked, where the command has the form.
-/
import Derived.Test.YtgledabcfonbeaaGreatDoorCkJ17
import Derived.Test.YtgledabcfonbeaaGreatDoorCkMadeR
import Derived.Test.YtgledabcfonbeaaGreatDoorCkShapeP
import Derived.Deep.RegionHeld3
import Derived.BigQuiet
import Derived.BigRegion
namespace Go.Proofs.YtgledabcfonbeaaGreatDoor.Df
open Go.RowKit Go.Maps Go.Proofs.YtgledabcfonbeaaGreatDoor

set_option maxRecDepth 100000 in
set_option maxHeartbeats 16000000 in
theorem shape_t {w : World} {s : Bs} (hs : s.length ≤ 900) {o : Cmd} {ws2 be : List Bs} (F : Form (words [] s) o ws2 be) (hon : o.once = true) :
    Calls Tryz.prog 26 #[.string (mk s)] w (ShQ w o) := by
  obtain ⟨w1, hw1⟩ : ∃ W, w.alloc (.cells #[.slice none 0 0, .bool false, .string ⟨#[]⟩, .string ⟨#[]⟩] 47) = W := ⟨_, rfl⟩
  have b1 : Below w.heap.size w w1 := by rw [← hw1]; exact below_alloc _ _
  have n1 : w1.heap[w.heap.size]? = some (.cells zRD 47 (0, 0)) := by rw [← hw1]; exact heap_alloc_new _ _
  have cw := words_rc (w := w1) (s := s) (by omega)
  have HB1 := Lib.hid b1
  have HN1 := Lib.hid n1
  clear b1 n1
  obtain ⟨ws, hws⟩ : ∃ ws, words [] s = ws := ⟨_, rfl⟩
  rw [hws] at cw F
  have HWL : Hid (ws.length ≤ 901) := Lib.hid (by
    rw [← hws]
    have := words_len s []
    simp at this
    omega)
  go_enter Tryz.func26, Tryz.ntmps26
  go_wp2_with fail
  refine cw.mono ?_
  rintro e w2 ⟨wa, wc, rfl, hown, hb2⟩
  have hne : ws ≠ [] := by
    have h1 := F.off
    intro e
    rw [e] at h1
    have h2 : o.once = false ∧ ws2 = [] := ⟨(congrArg Prod.fst h1).symm, (congrArg Prod.snd h1).symm⟩
    have h3 := F.parts
    rw [h2.2] at h3
    simp at h3
  obtain ⟨g, rfl, hwc, hcells⟩ : ∃ g, wa = some ⟨g, 0, none⟩ ∧ ws.length ≤ wc ∧ SAt w2 g 0 ws := by
    have hst := owns_strs hown
    obtain ⟨a, c, e, hc, hrow⟩ := hst
    cases e
    rcases hown.2 with ⟨e1, e2⟩ | ⟨g, cap, cur, e1, _⟩
    · exact absurd (List.eq_nil_of_length_eq_zero e2) hne
    · injection e1 with e1
      rcases hrow with h | ⟨g2, off2, e3, hg, hcell⟩
      · exact absurd h hne
      · rw [e1] at e3
        cases e3
        exact ⟨g, e1, hc, hg, hcell⟩
  have HB2 := Lib.hid (HB1.out.trans (hb2.mono HB1.out.size))
  have HSA := Lib.hid hcells
  have hlo : w.heap.size < w1.heap.size := lt_some HN1.out
  have hgb : w1.heap.size ≤ g := (owns_block hown (g := g) rfl).1
  have HN2 := Lib.hid ((hb2.block _ hlo).trans HN1.out)
  have hw21 := hb2.size
  have hgw2 : g < w2.heap.size := hcells.1
  clear cw hown hb2 hcells HN1 HB1 hw1
  go_upto_region 3 with fail
  obtain ⟨W, hW⟩ : ∃ W, w2.alloc (.cells #[.slice none 0 0, .bool false, .string ⟨#[]⟩, .string ⟨#[]⟩] 47) = W := ⟨_, rfl⟩
  rw [hW]
  have bW : Below w2.heap.size w2 W := by rw [← hW]; exact below_alloc _ _
  have nW : W.heap[w2.heap.size]? = some (.cells zRD 47 (0, 0)) := by rw [← hW]; exact heap_alloc_new _ _
  have HBW := Lib.hid (HB2.out.trans (bW.mono HB2.out.size))
  have HNR := Lib.hid ((bW.block _ (lt_some HN2.out)).trans HN2.out)
  have HND := Lib.hid nW
  have HSW := Lib.hid (HSA.out.below bW)
  have hd2 : w.heap.size < w2.heap.size := by omega
  clear hW bW nW HB2 HN2 HSA
  have hlen0 : (0 : Int) < (ws.length : Int) := by have := List.length_pos_iff.2 hne; omega
  have hlen1 : ws.length ≤ 9223372036854775807 := by have := HWL.out; omega
  have h2len : 2 ≤ ws2.length := by
    rw [F.parts, List.length_append, List.length_cons, List.length_cons]
    omega
  · skip
    have h1 := F.off
    rw [hon] at h1
    have hws2 := off_true h1
    have x0 : W.cell? ⟨g, 0, none⟩ = some (.string (mk wOnce)) := by have := HSW.out.2 0 wOnce (by rw [hws2]; rfl); exact this
    have e0 : ((mk wOnce).toList == ([111, 110, 99, 101] : List UInt8)) = true := by rw [mk_toList]; rfl
    have hwl : ws.length = ws2.length + 1 := by rw [hws2]; rfl
    have hw1 : ¬ wc = 1 := by omega
    have y1 : W.frozen? ⟨w2.heap.size, 1, none⟩ = false := by simp [World.frozen?, HND.out, zRD]
    have y2 : W.cell? ⟨w2.heap.size, 1, none⟩ = some (.bool false) := cell_of_heap HND.out
    clear h1
    go_wp2_with fail
    obtain ⟨V, hV⟩ : ∃ V, W.setCell ⟨w2.heap.size, 1, none⟩ (.bool true) = V := ⟨_, rfl⟩
    rw [hV]
    have HDB : Hid (V.heap[w2.heap.size]? = some (.cells #[.slice none 0 0, .bool true, .string ⟨#[]⟩, .string ⟨#[]⟩] 47 (0, 0))) := Lib.hid (by rw [← hV]; exact set_block (j := 1) HND.out)
    have HRB : Hid (V.heap[w.heap.size]? = some (.cells zRD 47 (0, 0))) := Lib.hid (by rw [← hV]; exact (set_other (by omega)).trans HNR.out)
    have hgd : g ≠ w2.heap.size := by
      intro e
      have h1 := HSW.out.2 0 wOnce (by rw [hws2]; rfl)
      rw [e] at h1
      rw [cell_of_heap (j := 0) HND.out] at h1
      cases h1
    have HS2 : Hid (SAt V g 1 ws2) := Lib.hid (by
      have h1 : SAt V g 0 ws := HSW.out.kept (by rw [← hV, World.size_setCell]; exact Nat.le_refl _) (by rw [← hV]; exact set_other hgd)
      have h2 := h1.drop (n := 1)
      rw [hws2] at h2
      exact h2)
    have HBV : Hid (Below w.heap.size w V) := Lib.hid (by rw [← hV]; exact HBW.out.setCell (Nat.le_of_lt hd2) _)
    have HVS : Hid (w2.heap.size < V.heap.size) := Lib.hid (lt_some HDB.out)
    have hc0 : ws2.length ≤ wc - 1 := by omega
    have hwe : ws.length - 1 = ws2.length := by omega
    obtain ⟨c0, hc0e⟩ : ∃ c0, wc - 1 = c0 := ⟨_, rfl⟩
    rw [hc0e] at hc0
    clear hV x0 e0 hw1 y1 y2 HND HNR HSW HBW hgd hws2
    rw [hc0e]
    obtain ⟨n, hn⟩ : ∃ n, o.args.length + 1 = n := ⟨_, rfl⟩
    have hparts := F.parts
    have hnl : ws2.length = n + 1 + be.length := by rw [hparts, List.length_append, List.length_cons, List.length_cons, ← hn]; omega
    have hk62 : ∀ k x, k < n → ws2[k]? = some x → x ≠ [62] := fun k x hk hx e => by
      rw [hparts, List.getElem?_append_left (by rw [List.length_cons]; omega)] at hx
      rw [e] at hx
      exact F.no62 (List.mem_of_getElem? hx)
    have hn62 : ws2[n]? = some [62] := by
      rw [hparts, List.getElem?_append_right (by rw [List.length_cons]; omega), List.length_cons, hn, Nat.sub_self]
      rfl
    have hbe : 1 ≤ be.length := by
      have h1 := F.ok
      have h2 : 1 ≤ o.outs.length := by
        cases ho : o.outs with
        | nil => rw [ho] at h1; simp [okOuts] at h1
        | cons x r => simp
      rcases F.tail with ⟨-, e⟩ | ⟨-, e, -⟩
      · rw [e]; exact h2
      · rw [e, List.length_append]; omega
    have HK62 := Lib.hid hk62
    have HN62 := Lib.hid hn62
    have HPARTS := Lib.hid hparts
    have HNN := Lib.hid hn
    have HF := Lib.hid F
    have h901 : ws2.length ≤ 901 := by have := HWL.out; omega
    clear hk62 hn62 hparts hn F
    go_loop [7] (fun i => ∃ k : Nat, k ≤ n ∧ i = .int .i64 k) (fun i => n - (intOf i).toNat)
    case atStart => exact ⟨0, Nat.zero_le _, rfl⟩
    case round =>
      obtain ⟨k, hk, rfl⟩ := hrel
      obtain ⟨x, hx⟩ : ∃ x, ws2[k]? = some x := ⟨_, List.getElem?_eq_getElem (by omega)⟩
      have hc : V.cell? ⟨g, 1 + k, none⟩ = some (.string (mk x)) := by have := HS2.out.2 k x hx; exact this
      have hi0 : (0 : Int) ≤ (k : Int) := by omega
      have hi1 : (k : Int) < (ws2.length : Int) := by omega
      by_cases hlt : k < n
      · have e1 : ((mk x).toList == ([62] : List UInt8)) = false := by
          rw [mk_toList, beq_eq_false_iff_ne]
          exact HK62.out k x hlt hx
        clear hx
        go_wp2_with fail
        go_round
        case rel => exact ⟨k + 1, by omega, by go_num⟩
        case measure => simp [intOf] <;> omega
      · obtain rfl : k = n := by omega
        obtain rfl : x = [62] := Option.some.inj (hx.symm.trans HN62.out)
        have e1 : ((mk [62]).toList == ([62] : List UInt8)) = true := by rw [mk_toList]; rfl
        have hz1 : ((k : Int) == 0) = false := by rw [beq_eq_false_iff_ne]; have := HNN.out; omega
        have hz2 : ((k : Int) == (ws2.length : Int)) = false := by rw [beq_eq_false_iff_ne]; omega
        have hz3 : (0 : Int) ≤ (k : Int) + 1 := by omega
        have hz4 : (k : Int) + 1 ≤ (ws2.length : Int) := by omega
        have hz5 : ¬ c0 = k + 1 := by omega
        have HSB : Hid (SAt V g (1 + (k + 1)) be) := Lib.hid (by
          have h1 := HS2.out.drop (n := k + 1)
          have h2 : ws2.drop (k + 1) = be := by
            rw [HPARTS.out, show (o.verb :: o.args) ++ [62] :: be = ((o.verb :: o.args) ++ [[62]]) ++ be by simp, show k + 1 = ((o.verb :: o.args) ++ [[62]]).length by rw [List.length_append, List.length_cons, HNN.out]; rfl, List.drop_left]
          rw [h2] at h1
          exact h1)
        clear hx
        go_wp2_with fail
        obtain ⟨c1, hc1⟩ : ∃ c1, c0 - (k + 1) = c1 := ⟨_, rfl⟩
        rw [hc1]
        obtain ⟨f1, hf1⟩ : ∃ f1, 1 + (k + 1) = f1 := ⟨_, rfl⟩
        rw [hf1] at HSB
        rw [hf1]
        clear hf1
        have hbc : be.length ≤ c1 := by omega
        obtain ⟨m, hm⟩ : ∃ m, o.outs.length = m := ⟨_, rfl⟩
        have HM := Lib.hid hm
        clear hc1 hc e1 hi0 hi1 hz1 hz2 hz3 hz4 hz5 hm
        rcases HF.out.tail with ⟨hdep, hbo⟩ | ⟨hdep, hbo, hdr⟩
        · have hbm : be.length = m := by rw [hbo, HM.out]
          have H58 : Hid (∀ (j : Nat) x, be[j]? = some x → x ≠ [58]) := Lib.hid fun j x hx e => by
            rw [hbo, e] at hx
            exact HF.out.no58 (List.mem_of_getElem? hx)
          have HDEP := Lib.hid hdep
          have HBO := Lib.hid hbo
          clear hdep hbo
          rw [hbm]
          rw [hbm] at hbc
          go_loop [8, 9] (fun o8 i => ∃ j : Nat, j ≤ m ∧ i = .int .i64 j ∧ o8 = .slice (some ⟨g, f1, none⟩) m c1) (fun _ i => m - (intOf i).toNat)
          case atStart => exact ⟨0, Nat.zero_le _, rfl, rfl⟩
          case round =>
            obtain ⟨j, hj, rfl, rfl⟩ := hrel
            by_cases hlt2 : j < m
            · obtain ⟨x, hx⟩ : ∃ x, be[j]? = some x := ⟨_, List.getElem?_eq_getElem (by omega)⟩
              have hc : V.cell? ⟨g, f1 + j, none⟩ = some (.string (mk x)) := HSB.out.2 j x hx
              have e1 : ((mk x).toList == ([58] : List UInt8)) = false := by rw [mk_toList, beq_eq_false_iff_ne]; exact H58.out j x hx
              have hi0 : (0 : Int) ≤ (j : Int) := by omega
              have hi1 : (j : Int) < (m : Int) := by omega
              clear hx
              go_wp2_with fail
              go_round
              case rel => exact ⟨j + 1, by omega, by go_num, rfl⟩
              case measure => simp [intOf] <;> omega
            · obtain rfl : m = j := by omega
              have z2 : V.cell? ⟨w2.heap.size, 2, none⟩ = some (.string ⟨#[]⟩) := cell_of_heap HDB.out
              have xv : V.cell? ⟨g, 1, none⟩ = some (.string (mk o.verb)) := HS2.out.2 0 o.verb (by rw [HPARTS.out]; rfl)
              have eV : ((mk o.verb).toList == ([105, 110, 99] : List UInt8)) = false := by
                rw [mk_toList]
                have h1 := HF.out.inc
                rw [HDEP.out] at h1
                have h2 : ¬ o.verb = wInc := of_decide_eq_false h1.symm
                rw [beq_eq_false_iff_ne]
                exact h2
              have hm1 : 1 ≤ m := by
                rw [← HM.out]
                cases ho : o.outs with
                | nil => have h1 := HF.out.ok; rw [ho] at h1; simp [okOuts] at h1
                | cons x r => simp
              have hm0 : ((m : Int) == 0) = false := by rw [beq_eq_false_iff_ne]; omega
              go_wp2_with fail
              go_quiet (fail)
              clear z2 xv eV hm0
              have hYB := below_drewN V nq
              generalize V.drewN nq = Y at *
              have HDY := Lib.hid ((hYB.block _ (lt_some HDB.out)).trans HDB.out)
              have HRY := Lib.hid ((hYB.block _ (lt_some HRB.out)).trans HRB.out)
              have HSO : Hid (SAt Y g f1 o.outs) := Lib.hid (by have h1 := HSB.out.below hYB; rw [HBO.out] at h1; exact h1)
              have HS2Y := Lib.hid (HS2.out.below hYB)
              have HBY := Lib.hid (HBV.out.trans (hYB.mono HBV.out.size))
              clear hYB HDB HRB HSB HS2 HBV HVS
              go_wp2_with fail
              go_loopw [10] (fun i wr => ∃ j : Nat, j ≤ m ∧ i = .int .i64 j ∧ Hid (Below Y.heap.size Y wr)) (fun i _ => m - (intOf i).toNat)
              case atStart => exact ⟨0, Nat.zero_le _, rfl, Lib.hid (Below.refl _ _)⟩
              case round =>
                obtain ⟨j, hj, rfl, hB⟩ := hrel
                by_cases hlt3 : j < m
                · obtain ⟨x, hx⟩ : ∃ x, o.outs[j]? = some x := ⟨_, List.getElem?_eq_getElem (by rw [HM.out]; exact hlt3)⟩
                  have hok := HF.out.ok
                  unfold okOuts at hok
                  rw [Bool.and_eq_true, Bool.and_eq_true] at hok
                  have hr := List.all_eq_true.1 hok.1.2 x (List.mem_of_getElem? hx)
                  have hnc := once_nodup _ o.outs rfl (of_decide_eq_true hok.2) j x hx
                  have hSw := HSO.out.below hB.out
                  have k0 : wr.cell? ⟨g, f1 + j, none⟩ = some (.string (mk x)) := hSw.2 j x hx
                  have hgw : g < wr.heap.size := hSw.1
                  have hxl := right_len hr
                  have bd : Below wr.heap.size wr wr.drew := ⟨rfl, rfl, rfl, Nat.le_refl _, fun _ _ => rfl⟩
                  have cr : Calls Tryz.prog 38 #[.string (mk x)] wr.drew fun e w' => e = .returned (.bool true) ∧ Below wr.heap.size wr w' ∧ w'.cell? ⟨g, f1 + j, none⟩ = some (.string (mk x)) := (refRight_c x (by omega) wr.drew).mono fun e w' ⟨h1, h2⟩ => by
                    have h3 : Below wr.heap.size wr w' := bd.trans h2
                    exact ⟨by rw [h1, hr], h3, (cell_of_block (h3.block g hgw)).trans k0⟩
                  have htk : (o.outs.take j).length = j := by rw [List.length_take, HM.out]; omega
                  have cin : ∀ W, Below wr.heap.size wr W → Calls Tryz.prog 16 #[.slice (some ⟨g, f1, none⟩) j c1, .string (mk x)] W fun e w' => e = .returned (.bool false) ∧ Below wr.heap.size wr w' ∧ w'.cell? ⟨g, f1 + j, none⟩ = some (.string (mk x)) := fun W hW => by
                    have h1 : SAt W g f1 (o.outs.take j) := SAt.take (L := o.outs.drop j) (by rw [List.take_append_drop]; exact hSw.below hW)
                    have h2 := in_c x (h1.strs (c := c1) (by rw [htk]; omega)) (by rw [htk]; omega)
                    rw [htk, hnc] at h2
                    exact h2.mono fun e w' ⟨h3, h4⟩ => by
                      have h5 := hW.trans (h4.mono hW.size)
                      exact ⟨h3, h5, (cell_of_block (h5.block g hgw)).trans k0⟩
                  have hi0 : (0 : Int) ≤ (j : Int) := by omega
                  have hi1 : (j : Int) < (m : Int) := by omega
                  have hi2 : (j : Int) ≤ (m : Int) := by omega
                  have hi3 : ¬ c1 = 0 := by omega
                  have hi4 : (j : Int) ≤ (c1 : Int) := by omega
                  clear hx hok hr hnc hSw hxl bd htk
                  go_wp2_with fail
                  go_region_held3 (fun w' => w'.cell? ⟨g, f1 + j, none⟩ = some (.string (mk x)))
                    (first | exact k0 | exact k1 | exact k2)
                    (first
                      | (go_at_call 38; (with_reducible refine cr.mono ?_); rintro e w6 ⟨rfl, hb6, k1⟩)
                      | (go_at_call 16; (with_reducible refine (cin _ hb6).mono ?_); rintro e w7 ⟨rfl, hb7, k2⟩))
                  have HB7 := Lib.hid (hB.out.trans (hb7.mono hB.out.size))
                  clear cr cin k0 k1 k2 hb6 hb7
                  go_wp2_with fail
                  go_roundw
                  case rel => exact ⟨j + 1, by omega, by go_num, HB7⟩
                  case measure => simp [intOf] <;> omega
                · skip
                  obtain rfl : m = j := by omega
                  obtain ⟨Y2, rfl⟩ : ∃ Y2, Y2 = wr := ⟨wr, rfl⟩
                  have HDZ := Lib.hid ((hB.out.block _ (lt_some HDY.out)).trans HDY.out)
                  have HRZ := Lib.hid ((hB.out.block _ (lt_some HRY.out)).trans HRY.out)
                  have HSZ := Lib.hid (HSO.out.below hB.out)
                  have HS2Z := Lib.hid (HS2Y.out.below hB.out)
                  have HBZ := Lib.hid (HBY.out.trans (hB.out.mono HBY.out.size))
                  have HDlt : Hid (w2.heap.size < Y2.heap.size) := Lib.hid (lt_some HDZ.out)
                  clear hB HDY HRY HSO HS2Y HBY
                  go_wp2_with fail
                  go_loopw [11] (fun i wr => ∃ (j : Nat) (LL : List (Bs × Value)) (oa : Option Addr) (oc : Nat), j ≤ m ∧ i = .int .i64 j ∧ Hid (LL = (o.outs.take j).map fun x => (x, Value.slice none 0 0)) ∧ Hid (wr.heap[w2.heap.size]? = some (.cells #[.slice oa LL.length oc, .bool true, .string ⟨#[]⟩, .string ⟨#[]⟩] 47 (0, 0))) ∧ Hid (wr.ownsRow Y2.heap.size 45 2 (.slice oa LL.length oc) LL.length (fcells LL)) ∧ Hid (Md w2.heap.size Y2 wr)) (fun i _ => m - (intOf i).toNat)
                  case atStart => exact ⟨0, [], none, 0, Nat.zero_le _, rfl, Lib.hid rfl, HDZ, Lib.hid (World.ownsRow_nil _ _ _ _), Lib.hid ⟨rfl, rfl, rfl, Nat.le_refl _, fun _ _ _ => rfl⟩⟩
                  case round =>
                    obtain ⟨j, LL, oa, oc, hj, rfl, hLL, hD, hO, hM⟩ := hrel
                    by_cases hlt4 : j < m
                    · obtain ⟨x, hx⟩ : ∃ x, o.outs[j]? = some x := ⟨_, List.getElem?_eq_getElem (by rw [HM.out]; exact hlt4)⟩
                      have hgY : g < Y2.heap.size := HSZ.out.1
                      have hSw : SAt wr g f1 o.outs := HSZ.out.kept hM.out.2.2.2.1 (hM.out.2.2.2.2 g hgY (by omega))
                      have hLl : LL.length = j := by rw [hLL.out, List.length_map, List.length_take, HM.out]; omega
                      have bd : Below wr.heap.size wr wr.drew := ⟨rfl, rfl, rfl, Nat.le_refl _, fun _ _ => rfl⟩
                      obtain ⟨a9, c9, W2, hrun2, hF2, hg2⟩ := run_appR (W := wr.drew) (owns_below hO.out bd) hM.out.2.2.2.1 (by rw [hLl]; have := HM.out; omega) x (ba := none) (bn := 0) (bc := 0)
                      have hA2 : Below wr.heap.size wr (wr.drew.alloc (.cells #[.string (mk x), .slice none 0 0] 45)) := bd.trans (below_alloc wr.drew _)
                      have hown : ∀ q, (Value.slice oa LL.length oc).ownBlock = some q → Y2.heap.size ≤ q := fun q hq => (owns_block hO.out hq).1
                      have hlow2 : ∀ q, q < Y2.heap.size → W2.heap[q]? = wr.heap[q]? := fun q hq => (hg2.block q (Nat.lt_of_lt_of_le hq (Nat.le_trans hM.out.2.2.2.1 hA2.size)) (fun e => by have := hown q e.symm; omega)).trans (hA2.block q (Nat.lt_of_lt_of_le hq hM.out.2.2.2.1))
                      have hD2 := (hlow2 _ HDlt.out).trans hD.out
                      have S0 : wr.cell? ⟨w2.heap.size, 0, none⟩ = some (.slice oa LL.length oc) ∧ wr.cell? ⟨g, f1 + j, none⟩ = some (.string (mk x)) := ⟨cell_of_heap hD.out, hSw.2 j x hx⟩
                      have S1 : (wr.drew.alloc (.cells #[.string (mk x), .slice none 0 0] 45)).cell? ⟨w2.heap.size, 0, none⟩ = some (.slice oa LL.length oc) ∧ (wr.drew.alloc (.cells #[.string (mk x), .slice none 0 0] 45)).cell? ⟨g, f1 + j, none⟩ = some (.string (mk x)) := ⟨(cell_of_block (hA2.block _ (lt_some hD.out))).trans S0.1, (cell_of_block (hA2.block _ hSw.1)).trans S0.2⟩
                      have S2 : W2.cell? ⟨w2.heap.size, 0, none⟩ = some (.slice oa LL.length oc) ∧ W2.cell? ⟨g, f1 + j, none⟩ = some (.string (mk x)) := ⟨(cell_of_block (hlow2 _ HDlt.out)).trans S0.1, (cell_of_block (hlow2 g hgY)).trans S0.2⟩
                      have y0 : W2.cell? ⟨w2.heap.size, 0, none⟩ = some (.slice oa LL.length oc) := S2.1
                      have z0 : W2.frozen? ⟨w2.heap.size, 0, none⟩ = false := by simp [World.frozen?, hD2]
                      have HR1 := Lib.hid hrun2
                      obtain ⟨W3, hW3⟩ : ∃ W3, W2.setCell ⟨w2.heap.size, 0, none⟩ (.slice a9 (LL ++ [(x, Value.slice none 0 0)]).length c9) = W3 := ⟨_, rfl⟩
                      obtain ⟨L1, hL1⟩ : ∃ L1, LL ++ [(x, Value.slice none 0 0)] = L1 := ⟨_, rfl⟩
                      have HLN : Hid (L1 = (o.outs.take (j + 1)).map fun x => (x, Value.slice none 0 0)) := Lib.hid (by rw [← hL1, hLL.out, List.take_add_one, hx]; simp)
                      have HDN : Hid (W3.heap[w2.heap.size]? = some (.cells #[.slice a9 L1.length c9, .bool true, .string ⟨#[]⟩, .string ⟨#[]⟩] 47 (0, 0))) := Lib.hid (by rw [← hW3, hL1]; exact set_block (j := 0) hD2)
                      have HON : Hid (W3.ownsRow Y2.heap.size 45 2 (.slice a9 L1.length c9) L1.length (fcells L1)) := Lib.hid (by
                        rw [hL1] at hF2
                        exact owns_kept hF2 fun q hq => by
                          rw [← hW3]
                          exact set_other (by have := (owns_block hF2 hq).1; have := HDlt.out; omega))
                      have HMN : Hid (Md w2.heap.size Y2 W3) := Lib.hid (by
                        rw [← hW3]
                        have hm := hM.out
                        exact ⟨hg2.os.trans (hA2.os.trans hm.1), hg2.tape.trans (hA2.tape.trans hm.2.1), hg2.output.trans (hA2.output.trans hm.2.2.1), by rw [World.size_setCell]; exact Nat.le_trans hm.2.2.2.1 (Nat.le_trans hA2.size hg2.size), fun q hq hne => (set_other hne).trans ((hlow2 q hq).trans (hm.2.2.2.2 q hq hne))⟩)
                      have hi0 : (0 : Int) ≤ (j : Int) := by omega
                      have hi1 : (j : Int) < (m : Int) := by omega
                      have HW3 := Lib.hid hW3
                      rw [hL1] at HR1 HW3
                      clear bd hx hSw hLl hrun2 hF2 hg2 hA2 hown hlow2 hD2 hW3 hL1 hgY
                      go_wp2_with fail
                      refine Nt.wp_region_N 10 (fun w' => w'.cell? ⟨w2.heap.size, 0, none⟩ = some (.slice oa LL.length oc) ∧ w'.cell? ⟨g, f1 + j, none⟩ = some (.string (mk x))) (by kernel_rfl) ?_
                      refine Nt.takeT (i := 0) (oi := { dst := some 131, op := Op.fieldAddr 47 (Operand.tmp 6) 0, type := 0, pos := _, after := #[], guard := Option.none }) (v := ?_) rfl (by kernel_rfl) (by kernel_rfl) (by kernel_rfl) (by kernel_rfl) (fun _ _ _ h => h) (Or.inl ⟨by rfl, ?_⟩) (fun _ => S0) ?_
                      rotate_left 1
                      · intro w hSw
                        try dsimp only at hSw
                        go_simp
                        first | done | with_reducible rfl
                      try simp only [Act.put, List.setIfInBounds_toArray, List.set_cons_zero, List.set_cons_succ]
                      refine Nt.takeS (i := 1) (oi := { dst := some 132, op := Op.load 22 (Operand.tmp 131), type := 22, pos := _, after := #[{ on := 0, ground := Ground.data }], guard := Option.none }) (v := ?_) rfl (by kernel_rfl) (by kernel_rfl) (by kernel_rfl) (by kernel_rfl) (by kernel_rfl) (by kernel_rfl) (fun _ _ _ h => h) (Or.inl ⟨by rfl, ?_⟩) S0 ?_
                      rotate_left 1
                      · intro w hSw
                        try dsimp only at hSw
                        go_simp
                        first | done | with_reducible rfl
                      try simp only [Act.put, List.setIfInBounds_toArray, List.set_cons_zero, List.set_cons_succ]
                      refine Nt.takeT (i := 2) (oi := { dst := some 133, op := Op.move (Operand.tmp 8), type := 32, pos := _, after := #[], guard := Option.none }) (v := ?_) rfl (by kernel_rfl) (by kernel_rfl) (by kernel_rfl) (by kernel_rfl) (fun _ _ _ h => h) (Or.inl ⟨by rfl, ?_⟩) (fun _ => S0) ?_
                      rotate_left 1
                      · intro w hSw
                        try dsimp only at hSw
                        go_simp
                        first | done | with_reducible rfl
                      try simp only [Act.put, List.setIfInBounds_toArray, List.set_cons_zero, List.set_cons_succ]
                      refine Nt.takeT (i := 3) (oi := { dst := some 134, op := Op.move (Operand.tmp 11), type := 3, pos := _, after := #[], guard := Option.none }) (v := ?_) rfl (by kernel_rfl) (by kernel_rfl) (by kernel_rfl) (by kernel_rfl) (fun _ _ _ h => h) (Or.inl ⟨by rfl, ?_⟩) (fun _ => S0) ?_
                      rotate_left 1
                      · intro w hSw
                        try dsimp only at hSw
                        go_simp
                        first | done | with_reducible rfl
                      try simp only [Act.put, List.setIfInBounds_toArray, List.set_cons_zero, List.set_cons_succ]
                      refine Nt.takeT (i := 4) (oi := { dst := some 135, op := Op.indexAddr 32 (Operand.tmp 133) (Operand.tmp 134), type := 0, pos := _, after := #[{ on := 2, ground := Ground.data }, { on := 3, ground := Ground.data }], guard := Option.none }) (v := ?_) rfl (by kernel_rfl) (by kernel_rfl) (by kernel_rfl) (by kernel_rfl) (fun _ _ _ h => h) (Or.inl ⟨by rfl, ?_⟩) (fun _ => S0) ?_
                      rotate_left 1
                      · intro w hSw
                        try dsimp only at hSw
                        go_simp
                        first | done | with_reducible rfl
                      try simp only [Act.put, List.setIfInBounds_toArray, List.set_cons_zero, List.set_cons_succ]
                      refine Nt.takeS (i := 5) (oi := { dst := some 136, op := Op.load 9 (Operand.tmp 135), type := 9, pos := _, after := #[{ on := 4, ground := Ground.data }], guard := Option.none }) (v := ?_) rfl (by kernel_rfl) (by kernel_rfl) (by kernel_rfl) (by kernel_rfl) (by kernel_rfl) (by kernel_rfl) (fun _ _ _ h => h) (Or.inl ⟨by rfl, ?_⟩) S0 ?_
                      rotate_left 1
                      · intro w hSw
                        try dsimp only at hSw
                        go_simp
                        first | done | with_reducible rfl
                      try simp only [Act.put, List.setIfInBounds_toArray, List.set_cons_zero, List.set_cons_succ]
                      refine Nt.takeT (i := 6) (oi := { dst := some 137, op := Op.build 45 #[(0, Operand.tmp 136)], type := 45, pos := _, after := #[{ on := 5, ground := Ground.data }], guard := Option.none }) (v := ?_) rfl (by kernel_rfl) (by kernel_rfl) (by kernel_rfl) (by kernel_rfl) (fun _ _ _ h => h) (Or.inl ⟨by rfl, ?_⟩) (fun _ => S0) ?_
                      rotate_left 1
                      · intro w hSw
                        try dsimp only at hSw
                        go_simp
                        first | done | with_reducible rfl
                      try simp only [Act.put, List.setIfInBounds_toArray, List.set_cons_zero, List.set_cons_succ]
                      refine Nt.nextN (i := 7) (by kernel_rfl) rfl (fun K hK => ?_)
                      go_simp
                      refine hK.out _ _ (fun _ => S1) ?_
                      clear hK K
                      try simp only [Act.put, List.setIfInBounds_toArray, List.set_cons_zero, List.set_cons_succ]
                      refine Nt.nextN (i := 8) (by kernel_rfl) rfl (fun K hK => ?_)
                      refine step_run2 rfl (.tmp 132) (.tmp 138) rfl (by simp [Act.eval]) (by simp [Act.eval]) HR1.out ?_
                      refine hK.out _ _ (fun _ => S2) ?_
                      clear hK K
                      try simp only [Act.put, List.setIfInBounds_toArray, List.set_cons_zero, List.set_cons_succ]
                      refine Nt.nextN (i := 9) (by kernel_rfl) rfl (fun K hK => ?_)
                      go_simp
                      refine hK.out _ _ (fun _ => S2) ?_
                      clear hK K
                      try simp only [Act.put, List.setIfInBounds_toArray, List.set_cons_zero, List.set_cons_succ]
                      refine Nt.nextN (i := 10) (by kernel_rfl) rfl (fun K hK => ?_)
                      go_simp
                      refine hK.out _ _ (fun h => by simp at h) ?_
                      clear hK K
                      try simp only [Act.put, List.setIfInBounds_toArray, List.set_cons_zero, List.set_cons_succ]
                      refine Nt.doneN (by kernel_rfl) ?_ _
                      rw [HW3.out]
                      go_wp2_with fail
                      go_roundw
                      case rel => exact ⟨j + 1, L1, a9, c9, by omega, by go_num, HLN, HDN, HON, HMN⟩
                      case measure => simp [intOf] <;> omega
                    · skip
                      obtain rfl : m = j := by omega
                      have hgY : g < Y2.heap.size := HSZ.out.1
                      have hrY : w.heap.size < Y2.heap.size := lt_some HRZ.out
                      have v0w := (HS2Z.out.kept hM.out.2.2.2.1 (hM.out.2.2.2.2 g hgY (by omega))).2 0 o.verb (by rw [HPARTS.out]; rfl)
                      have HR3 := Lib.hid ((hM.out.2.2.2.2 w.heap.size hrY (by omega)).trans HRZ.out)
                      have hMS := hM.out.2.2.2.1
                      obtain ⟨w9, rfl⟩ : ∃ w9, w9 = wr := ⟨wr, rfl⟩
                      have v0 : w9.cell? ⟨g, 1, none⟩ = some (.string (mk o.verb)) := v0w
                      have d0 : w9.cell? ⟨w2.heap.size, 0, none⟩ = some (.slice oa LL.length oc) := cell_of_heap hD.out
                      have d1 : w9.cell? ⟨w2.heap.size, 1, none⟩ = some (.bool true) := cell_of_heap hD.out
                      have d2 : w9.cell? ⟨w2.heap.size, 2, none⟩ = some (.string ⟨#[]⟩) := cell_of_heap hD.out
                      have d3 : w9.cell? ⟨w2.heap.size, 3, none⟩ = some (.string ⟨#[]⟩) := cell_of_heap hD.out
                      have r0 : w9.cell? ⟨w.heap.size, 0, none⟩ = some (.slice none 0 0) := cell_of_heap HR3.out
                      have r1 : w9.cell? ⟨w.heap.size, 1, none⟩ = some (.bool false) := cell_of_heap HR3.out
                      have r2 : w9.cell? ⟨w.heap.size, 2, none⟩ = some (.string ⟨#[]⟩) := cell_of_heap HR3.out
                      have r3 : w9.cell? ⟨w.heap.size, 3, none⟩ = some (.string ⟨#[]⟩) := cell_of_heap HR3.out
                      have y0 : w9.frozen? ⟨w.heap.size, 0, none⟩ = false := by simp [World.frozen?, HR3.out, zRD]
                      have y1 : w9.frozen? ⟨w.heap.size, 1, none⟩ = false := by simp [World.frozen?, HR3.out, zRD]
                      have y2 : w9.frozen? ⟨w.heap.size, 2, none⟩ = false := by simp [World.frozen?, HR3.out, zRD]
                      have y3 : w9.frozen? ⟨w.heap.size, 3, none⟩ = false := by simp [World.frozen?, HR3.out, zRD]
                      obtain ⟨kf, hkf⟩ := Option.isSome_iff_exists.1 HF.out.known
                      have hkk : (k : Int) ≤ (k : Int) + 1 + (m : Int) := by omega
                      have hkc : (k : Int) ≤ (c0 : Int) := by omega
                      have hk0 : (0 : Int) ≤ (k : Int) := by omega
                      have hkp : (0 : Int) < (k : Int) + 1 + (m : Int) := by omega
                      obtain ⟨vb, hvb⟩ : ∃ vb, o.verb = vb := ⟨_, rfl⟩
                      rw [hvb] at v0 v0w
                      rcases verb_cases hkf with ⟨hv, -⟩ | ⟨hv, -⟩ | ⟨hv, -⟩ | ⟨hv, -⟩ | ⟨hv, -⟩ | ⟨hv, -⟩
                      · have e0 : ((mk vb).toList == ([99, 97, 116] : List UInt8)) = true := by rw [mk_toList, ← hvb, hv]; rfl
                        have HVB := Lib.hid hvb
                        clear hkf v0w hv hvb
                        go_wp2_with fail
                        go_region
                        obtain ⟨WE, hWE⟩ : ∃ WE, ((((w9.setCell ⟨w.heap.size, 0, none⟩ (.slice oa LL.length oc)).setCell ⟨w.heap.size, 1, none⟩ (.bool true)).setCell ⟨w.heap.size, 2, none⟩ (.string ⟨#[]⟩)).setCell ⟨w.heap.size, 3, none⟩ (.string ⟨#[]⟩)).drew = WE := ⟨_, rfl⟩
                        have hP0 := set_block (j := 3) (u := .string ⟨#[]⟩) (set_block (j := 2) (u := .string ⟨#[]⟩) (set_block (j := 1) (u := .bool true) (set_block (j := 0) (u := .slice oa LL.length oc) HR3.out)))
                        have hP : WE.heap[w.heap.size]? = some (.cells #[.slice oa LL.length oc, .bool true, .string ⟨#[]⟩, .string ⟨#[]⟩] 47 (0, 0)) := by rw [← hWE]; exact hP0
                        have hoth : ∀ q, q ≠ w.heap.size → WE.heap[q]? = w9.heap[q]? := fun q hq => by
                          rw [← hWE]
                          exact (set_other hq).trans ((set_other hq).trans ((set_other hq).trans (set_other hq)))
                        have hsz : WE.heap.size = w9.heap.size := by
                          rw [← hWE]
                          show ((((w9.setCell _ _).setCell _ _).setCell _ _).setCell _ _).heap.size = _
                          rw [World.size_setCell, World.size_setCell, World.size_setCell, World.size_setCell]
                        have hos : WE.os = w9.os ∧ WE.tape = w9.tape ∧ WE.output = w9.output := by rw [← hWE]; exact ⟨rfl, rfl, rfl⟩
                        rw [hWE]
                        have s0 : WE.cell? ⟨w.heap.size, 0, none⟩ = some (.slice oa LL.length oc) := cell_of_heap hP
                        have s1 : WE.cell? ⟨w.heap.size, 1, none⟩ = some (.bool true) := cell_of_heap hP
                        have s2 : WE.cell? ⟨w.heap.size, 2, none⟩ = some (.string ⟨#[]⟩) := cell_of_heap hP
                        have s3 : WE.cell? ⟨w.heap.size, 3, none⟩ = some (.string ⟨#[]⟩) := cell_of_heap hP
                        clear hP0 v0 d0 d1 d2 d3 r0 r1 r2 r3 y0 y1 y2 y3 hWE
                        go_wp2_with fail
                        refine bodyPost_ret (v := .tuple #[.slice (some ⟨g, 1, none⟩) k c0, .agg #[.slice oa LL.length oc, .bool true, .string ⟨#[]⟩, .string ⟨#[]⟩], .bool true]) (by simp [results, Tryz.f26, go_sem, s0, s1, s2, s3]) rfl ?_
                        refine ⟨some ⟨g, 1, none⟩, c0, LL, oa, oc, ?_, by have := HNN.out; omega, ?_, ?_, ?_, ?_⟩
                        · rw [HNN.out, hon, HDEP.out]
                          all_goals rfl
                        · have hS : SAt w9 g 1 ws2 := HS2Z.out.kept hMS (hM.out.2.2.2.2 g hgY (by omega))
                          have hS2 : SAt WE g 1 ws2 := hS.kept (by rw [hsz]; exact Nat.le_refl _) (hoth g (by omega))
                          rw [HPARTS.out] at hS2
                          have h1 := (hS2.take).strs (c := c0) (by rw [List.length_cons, HNN.out]; omega)
                          rw [List.length_cons] at h1
                          exact h1
                        · rw [hLL.out, List.take_of_length_le (by rw [HM.out]; exact Nat.le_refl _)]
                        · refine owns_lower (owns_kept hO.out fun q hq => hoth q ?_) (by omega)
                          have := (owns_block hO.out hq).1
                          omega
                        · have hz := HBZ.out
                          have hm := hM.out
                          exact ⟨hos.1.trans (hm.1.trans hz.os), hos.2.1.trans (hm.2.1.trans hz.tape), hos.2.2.trans (hm.2.2.1.trans hz.output), by rw [hsz]; exact Nat.le_trans hz.size hm.2.2.2.1, fun q hq => (hoth q (by omega)).trans ((hm.2.2.2.2 q (by omega) (by omega)).trans (hz.block q hq))⟩
                      · have e0 : ((mk vb).toList == ([99, 97, 116] : List UInt8)) = false := by rw [mk_toList, ← hvb, hv]; rfl
                        have e1 : ((mk vb).toList == ([114, 101, 118] : List UInt8)) = true := by rw [mk_toList, ← hvb, hv]; rfl
                        have HVB := Lib.hid hvb
                        clear hkf v0w hv hvb
                        go_wp2_with fail
                        go_region
                        obtain ⟨WE, hWE⟩ : ∃ WE, ((((w9.setCell ⟨w.heap.size, 0, none⟩ (.slice oa LL.length oc)).setCell ⟨w.heap.size, 1, none⟩ (.bool true)).setCell ⟨w.heap.size, 2, none⟩ (.string ⟨#[]⟩)).setCell ⟨w.heap.size, 3, none⟩ (.string ⟨#[]⟩)).drew = WE := ⟨_, rfl⟩
                        have hP0 := set_block (j := 3) (u := .string ⟨#[]⟩) (set_block (j := 2) (u := .string ⟨#[]⟩) (set_block (j := 1) (u := .bool true) (set_block (j := 0) (u := .slice oa LL.length oc) HR3.out)))
                        have hP : WE.heap[w.heap.size]? = some (.cells #[.slice oa LL.length oc, .bool true, .string ⟨#[]⟩, .string ⟨#[]⟩] 47 (0, 0)) := by rw [← hWE]; exact hP0
                        have hoth : ∀ q, q ≠ w.heap.size → WE.heap[q]? = w9.heap[q]? := fun q hq => by
                          rw [← hWE]
                          exact (set_other hq).trans ((set_other hq).trans ((set_other hq).trans (set_other hq)))
                        have hsz : WE.heap.size = w9.heap.size := by
                          rw [← hWE]
                          show ((((w9.setCell _ _).setCell _ _).setCell _ _).setCell _ _).heap.size = _
                          rw [World.size_setCell, World.size_setCell, World.size_setCell, World.size_setCell]
                        have hos : WE.os = w9.os ∧ WE.tape = w9.tape ∧ WE.output = w9.output := by rw [← hWE]; exact ⟨rfl, rfl, rfl⟩
                        rw [hWE]
                        have s0 : WE.cell? ⟨w.heap.size, 0, none⟩ = some (.slice oa LL.length oc) := cell_of_heap hP
                        have s1 : WE.cell? ⟨w.heap.size, 1, none⟩ = some (.bool true) := cell_of_heap hP
                        have s2 : WE.cell? ⟨w.heap.size, 2, none⟩ = some (.string ⟨#[]⟩) := cell_of_heap hP
                        have s3 : WE.cell? ⟨w.heap.size, 3, none⟩ = some (.string ⟨#[]⟩) := cell_of_heap hP
                        clear hP0 v0 d0 d1 d2 d3 r0 r1 r2 r3 y0 y1 y2 y3 hWE
                        go_wp2_with fail
                        refine bodyPost_ret (v := .tuple #[.slice (some ⟨g, 1, none⟩) k c0, .agg #[.slice oa LL.length oc, .bool true, .string ⟨#[]⟩, .string ⟨#[]⟩], .bool true]) (by simp [results, Tryz.f26, go_sem, s0, s1, s2, s3]) rfl ?_
                        refine ⟨some ⟨g, 1, none⟩, c0, LL, oa, oc, ?_, by have := HNN.out; omega, ?_, ?_, ?_, ?_⟩
                        · rw [HNN.out, hon, HDEP.out]
                          all_goals rfl
                        · have hS : SAt w9 g 1 ws2 := HS2Z.out.kept hMS (hM.out.2.2.2.2 g hgY (by omega))
                          have hS2 : SAt WE g 1 ws2 := hS.kept (by rw [hsz]; exact Nat.le_refl _) (hoth g (by omega))
                          rw [HPARTS.out] at hS2
                          have h1 := (hS2.take).strs (c := c0) (by rw [List.length_cons, HNN.out]; omega)
                          rw [List.length_cons] at h1
                          exact h1
                        · rw [hLL.out, List.take_of_length_le (by rw [HM.out]; exact Nat.le_refl _)]
                        · refine owns_lower (owns_kept hO.out fun q hq => hoth q ?_) (by omega)
                          have := (owns_block hO.out hq).1
                          omega
                        · have hz := HBZ.out
                          have hm := hM.out
                          exact ⟨hos.1.trans (hm.1.trans hz.os), hos.2.1.trans (hm.2.1.trans hz.tape), hos.2.2.trans (hm.2.2.1.trans hz.output), by rw [hsz]; exact Nat.le_trans hz.size hm.2.2.2.1, fun q hq => (hoth q (by omega)).trans ((hm.2.2.2.2 q (by omega) (by omega)).trans (hz.block q hq))⟩
                      · have e0 : ((mk vb).toList == ([99, 97, 116] : List UInt8)) = false := by rw [mk_toList, ← hvb, hv]; rfl
                        have e1 : ((mk vb).toList == ([114, 101, 118] : List UInt8)) = false := by rw [mk_toList, ← hvb, hv]; rfl
                        have e2 : ((mk vb).toList == ([115, 117, 109] : List UInt8)) = true := by rw [mk_toList, ← hvb, hv]; rfl
                        have HVB := Lib.hid hvb
                        clear hkf v0w hv hvb
                        go_wp2_with fail
                        go_region
                        obtain ⟨WE, hWE⟩ : ∃ WE, ((((w9.setCell ⟨w.heap.size, 0, none⟩ (.slice oa LL.length oc)).setCell ⟨w.heap.size, 1, none⟩ (.bool true)).setCell ⟨w.heap.size, 2, none⟩ (.string ⟨#[]⟩)).setCell ⟨w.heap.size, 3, none⟩ (.string ⟨#[]⟩)).drew = WE := ⟨_, rfl⟩
                        have hP0 := set_block (j := 3) (u := .string ⟨#[]⟩) (set_block (j := 2) (u := .string ⟨#[]⟩) (set_block (j := 1) (u := .bool true) (set_block (j := 0) (u := .slice oa LL.length oc) HR3.out)))
                        have hP : WE.heap[w.heap.size]? = some (.cells #[.slice oa LL.length oc, .bool true, .string ⟨#[]⟩, .string ⟨#[]⟩] 47 (0, 0)) := by rw [← hWE]; exact hP0
                        have hoth : ∀ q, q ≠ w.heap.size → WE.heap[q]? = w9.heap[q]? := fun q hq => by
                          rw [← hWE]
                          exact (set_other hq).trans ((set_other hq).trans ((set_other hq).trans (set_other hq)))
                        have hsz : WE.heap.size = w9.heap.size := by
                          rw [← hWE]
                          show ((((w9.setCell _ _).setCell _ _).setCell _ _).setCell _ _).heap.size = _
                          rw [World.size_setCell, World.size_setCell, World.size_setCell, World.size_setCell]
                        have hos : WE.os = w9.os ∧ WE.tape = w9.tape ∧ WE.output = w9.output := by rw [← hWE]; exact ⟨rfl, rfl, rfl⟩
                        rw [hWE]
                        have s0 : WE.cell? ⟨w.heap.size, 0, none⟩ = some (.slice oa LL.length oc) := cell_of_heap hP
                        have s1 : WE.cell? ⟨w.heap.size, 1, none⟩ = some (.bool true) := cell_of_heap hP
                        have s2 : WE.cell? ⟨w.heap.size, 2, none⟩ = some (.string ⟨#[]⟩) := cell_of_heap hP
                        have s3 : WE.cell? ⟨w.heap.size, 3, none⟩ = some (.string ⟨#[]⟩) := cell_of_heap hP
                        clear hP0 v0 d0 d1 d2 d3 r0 r1 r2 r3 y0 y1 y2 y3 hWE
                        go_wp2_with fail
                        refine bodyPost_ret (v := .tuple #[.slice (some ⟨g, 1, none⟩) k c0, .agg #[.slice oa LL.length oc, .bool true, .string ⟨#[]⟩, .string ⟨#[]⟩], .bool true]) (by simp [results, Tryz.f26, go_sem, s0, s1, s2, s3]) rfl ?_
                        refine ⟨some ⟨g, 1, none⟩, c0, LL, oa, oc, ?_, by have := HNN.out; omega, ?_, ?_, ?_, ?_⟩
                        · rw [HNN.out, hon, HDEP.out]
                          all_goals rfl
                        · have hS : SAt w9 g 1 ws2 := HS2Z.out.kept hMS (hM.out.2.2.2.2 g hgY (by omega))
                          have hS2 : SAt WE g 1 ws2 := hS.kept (by rw [hsz]; exact Nat.le_refl _) (hoth g (by omega))
                          rw [HPARTS.out] at hS2
                          have h1 := (hS2.take).strs (c := c0) (by rw [List.length_cons, HNN.out]; omega)
                          rw [List.length_cons] at h1
                          exact h1
                        · rw [hLL.out, List.take_of_length_le (by rw [HM.out]; exact Nat.le_refl _)]
                        · refine owns_lower (owns_kept hO.out fun q hq => hoth q ?_) (by omega)
                          have := (owns_block hO.out hq).1
                          omega
                        · have hz := HBZ.out
                          have hm := hM.out
                          exact ⟨hos.1.trans (hm.1.trans hz.os), hos.2.1.trans (hm.2.1.trans hz.tape), hos.2.2.trans (hm.2.2.1.trans hz.output), by rw [hsz]; exact Nat.le_trans hz.size hm.2.2.2.1, fun q hq => (hoth q (by omega)).trans ((hm.2.2.2.2 q (by omega) (by omega)).trans (hz.block q hq))⟩
                      · have e0 : ((mk vb).toList == ([99, 97, 116] : List UInt8)) = false := by rw [mk_toList, ← hvb, hv]; rfl
                        have e1 : ((mk vb).toList == ([114, 101, 118] : List UInt8)) = false := by rw [mk_toList, ← hvb, hv]; rfl
                        have e2 : ((mk vb).toList == ([115, 117, 109] : List UInt8)) = false := by rw [mk_toList, ← hvb, hv]; rfl
                        have e3 : ((mk vb).toList == ([112, 117, 116] : List UInt8)) = true := by rw [mk_toList, ← hvb, hv]; rfl
                        have HVB := Lib.hid hvb
                        clear hkf v0w hv hvb
                        go_wp2_with fail
                        go_region
                        obtain ⟨WE, hWE⟩ : ∃ WE, ((((w9.setCell ⟨w.heap.size, 0, none⟩ (.slice oa LL.length oc)).setCell ⟨w.heap.size, 1, none⟩ (.bool true)).setCell ⟨w.heap.size, 2, none⟩ (.string ⟨#[]⟩)).setCell ⟨w.heap.size, 3, none⟩ (.string ⟨#[]⟩)).drew = WE := ⟨_, rfl⟩
                        have hP0 := set_block (j := 3) (u := .string ⟨#[]⟩) (set_block (j := 2) (u := .string ⟨#[]⟩) (set_block (j := 1) (u := .bool true) (set_block (j := 0) (u := .slice oa LL.length oc) HR3.out)))
                        have hP : WE.heap[w.heap.size]? = some (.cells #[.slice oa LL.length oc, .bool true, .string ⟨#[]⟩, .string ⟨#[]⟩] 47 (0, 0)) := by rw [← hWE]; exact hP0
                        have hoth : ∀ q, q ≠ w.heap.size → WE.heap[q]? = w9.heap[q]? := fun q hq => by
                          rw [← hWE]
                          exact (set_other hq).trans ((set_other hq).trans ((set_other hq).trans (set_other hq)))
                        have hsz : WE.heap.size = w9.heap.size := by
                          rw [← hWE]
                          show ((((w9.setCell _ _).setCell _ _).setCell _ _).setCell _ _).heap.size = _
                          rw [World.size_setCell, World.size_setCell, World.size_setCell, World.size_setCell]
                        have hos : WE.os = w9.os ∧ WE.tape = w9.tape ∧ WE.output = w9.output := by rw [← hWE]; exact ⟨rfl, rfl, rfl⟩
                        rw [hWE]
                        have s0 : WE.cell? ⟨w.heap.size, 0, none⟩ = some (.slice oa LL.length oc) := cell_of_heap hP
                        have s1 : WE.cell? ⟨w.heap.size, 1, none⟩ = some (.bool true) := cell_of_heap hP
                        have s2 : WE.cell? ⟨w.heap.size, 2, none⟩ = some (.string ⟨#[]⟩) := cell_of_heap hP
                        have s3 : WE.cell? ⟨w.heap.size, 3, none⟩ = some (.string ⟨#[]⟩) := cell_of_heap hP
                        clear hP0 v0 d0 d1 d2 d3 r0 r1 r2 r3 y0 y1 y2 y3 hWE
                        go_wp2_with fail
                        refine bodyPost_ret (v := .tuple #[.slice (some ⟨g, 1, none⟩) k c0, .agg #[.slice oa LL.length oc, .bool true, .string ⟨#[]⟩, .string ⟨#[]⟩], .bool true]) (by simp [results, Tryz.f26, go_sem, s0, s1, s2, s3]) rfl ?_
                        refine ⟨some ⟨g, 1, none⟩, c0, LL, oa, oc, ?_, by have := HNN.out; omega, ?_, ?_, ?_, ?_⟩
                        · rw [HNN.out, hon, HDEP.out]
                          all_goals rfl
                        · have hS : SAt w9 g 1 ws2 := HS2Z.out.kept hMS (hM.out.2.2.2.2 g hgY (by omega))
                          have hS2 : SAt WE g 1 ws2 := hS.kept (by rw [hsz]; exact Nat.le_refl _) (hoth g (by omega))
                          rw [HPARTS.out] at hS2
                          have h1 := (hS2.take).strs (c := c0) (by rw [List.length_cons, HNN.out]; omega)
                          rw [List.length_cons] at h1
                          exact h1
                        · rw [hLL.out, List.take_of_length_le (by rw [HM.out]; exact Nat.le_refl _)]
                        · refine owns_lower (owns_kept hO.out fun q hq => hoth q ?_) (by omega)
                          have := (owns_block hO.out hq).1
                          omega
                        · have hz := HBZ.out
                          have hm := hM.out
                          exact ⟨hos.1.trans (hm.1.trans hz.os), hos.2.1.trans (hm.2.1.trans hz.tape), hos.2.2.trans (hm.2.2.1.trans hz.output), by rw [hsz]; exact Nat.le_trans hz.size hm.2.2.2.1, fun q hq => (hoth q (by omega)).trans ((hm.2.2.2.2 q (by omega) (by omega)).trans (hz.block q hq))⟩
                      · have h1 := HF.out.inc
                        rw [HDEP.out, hv] at h1
                        exact absurd h1 (by decide)
                      · have e0 : ((mk vb).toList == ([99, 97, 116] : List UInt8)) = false := by rw [mk_toList, ← hvb, hv]; rfl
                        have e1 : ((mk vb).toList == ([114, 101, 118] : List UInt8)) = false := by rw [mk_toList, ← hvb, hv]; rfl
                        have e2 : ((mk vb).toList == ([115, 117, 109] : List UInt8)) = false := by rw [mk_toList, ← hvb, hv]; rfl
                        have e3 : ((mk vb).toList == ([112, 117, 116] : List UInt8)) = false := by rw [mk_toList, ← hvb, hv]; rfl
                        have e4 : ((mk vb).toList == ([105, 110, 99] : List UInt8)) = false := by rw [mk_toList, ← hvb, hv]; rfl
                        have e5 : ((mk vb).toList == ([102, 97, 105, 108] : List UInt8)) = true := by rw [mk_toList, ← hvb, hv]; rfl
                        have HVB := Lib.hid hvb
                        clear hkf v0w hv hvb
                        go_wp2_with fail
                        go_region
                        obtain ⟨WE, hWE⟩ : ∃ WE, ((((w9.setCell ⟨w.heap.size, 0, none⟩ (.slice oa LL.length oc)).setCell ⟨w.heap.size, 1, none⟩ (.bool true)).setCell ⟨w.heap.size, 2, none⟩ (.string ⟨#[]⟩)).setCell ⟨w.heap.size, 3, none⟩ (.string ⟨#[]⟩)).drew = WE := ⟨_, rfl⟩
                        have hP0 := set_block (j := 3) (u := .string ⟨#[]⟩) (set_block (j := 2) (u := .string ⟨#[]⟩) (set_block (j := 1) (u := .bool true) (set_block (j := 0) (u := .slice oa LL.length oc) HR3.out)))
                        have hP : WE.heap[w.heap.size]? = some (.cells #[.slice oa LL.length oc, .bool true, .string ⟨#[]⟩, .string ⟨#[]⟩] 47 (0, 0)) := by rw [← hWE]; exact hP0
                        have hoth : ∀ q, q ≠ w.heap.size → WE.heap[q]? = w9.heap[q]? := fun q hq => by
                          rw [← hWE]
                          exact (set_other hq).trans ((set_other hq).trans ((set_other hq).trans (set_other hq)))
                        have hsz : WE.heap.size = w9.heap.size := by
                          rw [← hWE]
                          show ((((w9.setCell _ _).setCell _ _).setCell _ _).setCell _ _).heap.size = _
                          rw [World.size_setCell, World.size_setCell, World.size_setCell, World.size_setCell]
                        have hos : WE.os = w9.os ∧ WE.tape = w9.tape ∧ WE.output = w9.output := by rw [← hWE]; exact ⟨rfl, rfl, rfl⟩
                        rw [hWE]
                        have s0 : WE.cell? ⟨w.heap.size, 0, none⟩ = some (.slice oa LL.length oc) := cell_of_heap hP
                        have s1 : WE.cell? ⟨w.heap.size, 1, none⟩ = some (.bool true) := cell_of_heap hP
                        have s2 : WE.cell? ⟨w.heap.size, 2, none⟩ = some (.string ⟨#[]⟩) := cell_of_heap hP
                        have s3 : WE.cell? ⟨w.heap.size, 3, none⟩ = some (.string ⟨#[]⟩) := cell_of_heap hP
                        clear hP0 v0 d0 d1 d2 d3 r0 r1 r2 r3 y0 y1 y2 y3 hWE
                        go_wp2_with fail
                        refine bodyPost_ret (v := .tuple #[.slice (some ⟨g, 1, none⟩) k c0, .agg #[.slice oa LL.length oc, .bool true, .string ⟨#[]⟩, .string ⟨#[]⟩], .bool true]) (by simp [results, Tryz.f26, go_sem, s0, s1, s2, s3]) rfl ?_
                        refine ⟨some ⟨g, 1, none⟩, c0, LL, oa, oc, ?_, by have := HNN.out; omega, ?_, ?_, ?_, ?_⟩
                        · rw [HNN.out, hon, HDEP.out]
                          all_goals rfl
                        · have hS : SAt w9 g 1 ws2 := HS2Z.out.kept hMS (hM.out.2.2.2.2 g hgY (by omega))
                          have hS2 : SAt WE g 1 ws2 := hS.kept (by rw [hsz]; exact Nat.le_refl _) (hoth g (by omega))
                          rw [HPARTS.out] at hS2
                          have h1 := (hS2.take).strs (c := c0) (by rw [List.length_cons, HNN.out]; omega)
                          rw [List.length_cons] at h1
                          exact h1
                        · rw [hLL.out, List.take_of_length_le (by rw [HM.out]; exact Nat.le_refl _)]
                        · refine owns_lower (owns_kept hO.out fun q hq => hoth q ?_) (by omega)
                          have := (owns_block hO.out hq).1
                          omega
                        · have hz := HBZ.out
                          have hm := hM.out
                          exact ⟨hos.1.trans (hm.1.trans hz.os), hos.2.1.trans (hm.2.1.trans hz.tape), hos.2.2.trans (hm.2.2.1.trans hz.output), by rw [hsz]; exact Nat.le_trans hz.size hm.2.2.2.1, fun q hq => (hoth q (by omega)).trans ((hm.2.2.2.2 q (by omega) (by omega)).trans (hz.block q hq))⟩
        · skip
          have hbm : be.length = m + 2 := by rw [hbo, List.length_append, HM.out]; rfl
          obtain ⟨dp, hdp⟩ : ∃ dp, o.dep = dp := ⟨_, rfl⟩
          have HDEP : Hid (o.dep ≠ []) := Lib.hid hdep
          have HDP := Lib.hid hdp
          rw [hdp] at hbo hdep hdr
          have HDN := Lib.hid hdep
          have H58 : Hid (∀ (j : Nat) x, o.outs[j]? = some x → x ≠ [58]) := Lib.hid fun j x hx e => by
            rw [e] at hx
            exact HF.out.no58 (List.mem_of_getElem? hx)
          have HJ : Hid (∀ (j : Nat) x, o.outs[j]? = some x → be[j]? = some x) := Lib.hid fun j x hx => by
            rw [hbo, List.getElem?_append_left (List.getElem?_eq_some_iff.1 hx).1]
            exact hx
          have hb1 : be[m]? = some [58] := by rw [hbo, List.getElem?_append_right (by rw [HM.out]; exact Nat.le_refl _), HM.out, Nat.sub_self]; rfl
          have hb2 : be[m + 1]? = some dp := by rw [hbo, List.getElem?_append_right (by rw [HM.out]; omega), HM.out, show m + 1 - m = 1 by omega]; rfl
          have HB1 := Lib.hid hb1
          have HB2 := Lib.hid hb2
          have HBO := Lib.hid hbo
          have HDR := Lib.hid hdr
          have hdl := right_len hdr
          obtain ⟨m2, hm2⟩ : ∃ m2, be.length = m2 := ⟨_, rfl⟩
          have hm22 : m2 = m + 2 := by omega
          clear hb1 hb2 hbo hdep hdr hdp hbm
          rw [hm2]
          rw [hm2] at hbc
          go_loopw [8, 9] (fun o8 i wr => (∃ j : Nat, j ≤ m ∧ i = .int .i64 j ∧ o8 = .slice (some ⟨g, f1, none⟩) m2 c1 ∧ V = wr) ∨ (i = .int .i64 ((m : Int) + 1) ∧ o8 = .slice (some ⟨g, f1, none⟩) m c1 ∧ Hid (wr.heap[w2.heap.size]? = some (.cells #[.slice none 0 0, .bool true, .string (mk dp), .string ⟨#[]⟩] 47 (0, 0))) ∧ Hid (wr.heap[w.heap.size]? = some (.cells zRD 47 (0, 0))) ∧ Hid (SAt wr g f1 o.outs) ∧ Hid (SAt wr g 1 ws2) ∧ Hid (Below w.heap.size w wr))) (fun _ i _ => m + 2 - (intOf i).toNat)
          case atStart => exact .inl ⟨0, Nat.zero_le _, rfl, rfl, rfl⟩
          case round =>
            rcases hrel with ⟨j, hj, rfl, rfl, rfl⟩ | ⟨rfl, rfl, hDn, hRn, hSn, hS2n, hBn⟩
            · by_cases hlt2 : j < m
              · obtain ⟨x, hx⟩ : ∃ x, o.outs[j]? = some x := ⟨_, List.getElem?_eq_getElem (by rw [HM.out]; exact hlt2)⟩
                have hc : V.cell? ⟨g, f1 + j, none⟩ = some (.string (mk x)) := HSB.out.2 j x (HJ.out j x hx)
                have e1 : ((mk x).toList == ([58] : List UInt8)) = false := by rw [mk_toList, beq_eq_false_iff_ne]; exact H58.out j x hx
                have hi0 : (0 : Int) ≤ (j : Int) := by omega
                have hi1 : (j : Int) < (m2 : Int) := by omega
                have HM22 := Lib.hid hm22
                clear hx hm22
                go_wp2_with fail
                go_roundw
                case rel => exact .inl ⟨j + 1, by omega, by go_num, by first | rfl | trivial, by first | rfl | trivial⟩
                case measure => simp [intOf] <;> omega
              · obtain rfl : m = j := by omega
                have hc : V.cell? ⟨g, f1 + m, none⟩ = some (.string (mk [58])) := HSB.out.2 m _ HB1.out
                have hc2 : V.cell? ⟨g, f1 + (m + 1), none⟩ = some (.string (mk dp)) := HSB.out.2 (m + 1) _ HB2.out
                have e1 : ((mk [58]).toList == ([58] : List UInt8)) = true := by rw [mk_toList]; rfl
                have hi0 : (0 : Int) ≤ (m : Int) := by omega
                have hi1 : (m : Int) < (m2 : Int) := by omega
                have hi2 : (m2 : Int) - 2 = (m : Int) := by omega
                have hi3 : (0 : Int) ≤ (m : Int) + 1 := by omega
                have hi4 : (m : Int) + 1 < (m2 : Int) := by omega
                have HM22 := Lib.hid hm22
                clear hm22
                have cr := refRight_c dp (by omega) V
                rw [HDR.out] at cr
                go_wp2_with fail
                refine cr.mono ?_
                rintro e w6 ⟨rfl, hb6⟩
                have hD6 := (hb6.block _ (lt_some HDB.out)).trans HDB.out
                have y2 : w6.cell? ⟨w2.heap.size, 2, none⟩ = some (.string ⟨#[]⟩) := cell_of_heap hD6
                have y3 : w6.frozen? ⟨w2.heap.size, 2, none⟩ = false := by simp [World.frozen?, hD6]
                have hS6 := HSB.out.below hb6
                have hc3 : w6.cell? ⟨g, f1 + (m + 1), none⟩ = some (.string (mk dp)) := hS6.2 (m + 1) _ HB2.out
                have hi6 : (m : Int) ≤ (c1 : Int) := by have := HM22.out; omega
                have hi7 : ¬ c1 = 0 := by have := HM22.out; omega
                obtain ⟨W7, hW7⟩ : ∃ W7, w6.setCell ⟨w2.heap.size, 2, none⟩ (.string (mk dp)) = W7 := ⟨_, rfl⟩
                have HDn : Hid (W7.heap[w2.heap.size]? = some (.cells #[.slice none 0 0, .bool true, .string (mk dp), .string ⟨#[]⟩] 47 (0, 0))) := Lib.hid (by rw [← hW7]; exact set_block (j := 2) hD6)
                have hkeep : ∀ q, q ≠ w2.heap.size → W7.heap[q]? = w6.heap[q]? := fun q hq => by rw [← hW7]; exact set_other hq
                have hsz7 : W7.heap.size = w6.heap.size := by rw [← hW7]; exact World.size_setCell _ _ _
                have HRn : Hid (W7.heap[w.heap.size]? = some (.cells zRD 47 (0, 0))) := Lib.hid ((hkeep _ (by omega)).trans ((hb6.block _ (lt_some HRB.out)).trans HRB.out))
                have HSn : Hid (SAt W7 g f1 o.outs) := Lib.hid (by
                  rw [HBO.out] at hS6
                  exact (hS6.take).kept (by rw [hsz7]; exact Nat.le_refl _) (hkeep g (by omega)))
                have HS2n : Hid (SAt W7 g 1 ws2) := Lib.hid ((HS2.out.below hb6).kept (by rw [hsz7]; exact Nat.le_refl _) (hkeep g (by omega)))
                have HBn : Hid (Below w.heap.size w W7) := Lib.hid (by rw [← hW7]; exact (HBV.out.trans (hb6.mono HBV.out.size)).setCell (Nat.le_of_lt hd2) _)
                clear cr hc hc2 hb6 hD6 hS6 hkeep hsz7
                subst hW7
                go_wp2_with fail
                go_roundw
                case rel => exact .inr ⟨by first | rfl | go_num, by first | rfl | trivial, HDn, HRn, HSn, HS2n, HBn⟩
                case measure => simp [intOf] <;> omega
            · obtain ⟨V5, rfl⟩ : ∃ V5, V5 = wr := ⟨wr, rfl⟩
              clear HDB HRB HSB HS2 HBV
              have HDB := hDn
              have HRB := hRn
              have HSB := hSn
              have HS2 := hS2n
              have HBV := hBn
              have hle : ¬ (m : Int) + 1 < (m : Int) := by omega
              have hi0 : (0 : Int) ≤ (m : Int) + 1 := by omega
              have hmc1 : m + 2 ≤ c1 := by omega
              have hm2m : m ≤ m2 := by omega
              clear hDn hRn hSn hS2n hBn hm22
              have z2 : V5.cell? ⟨w2.heap.size, 2, none⟩ = some (.string (mk dp)) := cell_of_heap HDB.out
              have xv : V5.cell? ⟨g, 1, none⟩ = some (.string (mk o.verb)) := HS2.out.2 0 o.verb (by rw [HPARTS.out]; rfl)
              have eV : ((mk o.verb).toList == ([105, 110, 99] : List UInt8)) = true := by
                rw [mk_toList]
                have h1 := HF.out.inc
                rw [decide_eq_true HDEP.out] at h1
                have h2 : o.verb = wInc := of_decide_eq_true h1.symm
                rw [h2]
                rfl
              have eD : (mk dp).toList.isEmpty = false := by
                rw [mk_toList]
                cases hdq : dp with
                | nil => exact absurd hdq HDN.out
                | cons a r => rfl
              have hm1 : 1 ≤ m := by
                rw [← HM.out]
                cases ho : o.outs with
                | nil => have h1 := HF.out.ok; rw [ho] at h1; simp [okOuts] at h1
                | cons x r => simp
              have hm0 : ((m : Int) == 0) = false := by rw [beq_eq_false_iff_ne]; omega
              go_wp2_with fail
              go_quiet (fail)
              clear z2 xv eV hm0 eD
              have hYB := below_drewN V5 nq
              generalize V5.drewN nq = Y at *
              have HDY := Lib.hid ((hYB.block _ (lt_some HDB.out)).trans HDB.out)
              have HRY := Lib.hid ((hYB.block _ (lt_some HRB.out)).trans HRB.out)
              have HSO : Hid (SAt Y g f1 o.outs) := Lib.hid (by have h1 := HSB.out.below hYB; exact h1)
              have HS2Y := Lib.hid (HS2.out.below hYB)
              have HBY := Lib.hid (HBV.out.trans (hYB.mono HBV.out.size))
              clear hYB HDB HRB HSB HS2 HBV HVS
              go_wp2_with fail
              go_loopw [10] (fun i wr => ∃ j : Nat, j ≤ m ∧ i = .int .i64 j ∧ Hid (Below Y.heap.size Y wr)) (fun i _ => m - (intOf i).toNat)
              case atStart => exact ⟨0, Nat.zero_le _, rfl, Lib.hid (Below.refl _ _)⟩
              case round =>
                obtain ⟨j, hj, rfl, hB⟩ := hrel
                by_cases hlt3 : j < m
                · obtain ⟨x, hx⟩ : ∃ x, o.outs[j]? = some x := ⟨_, List.getElem?_eq_getElem (by rw [HM.out]; exact hlt3)⟩
                  have hok := HF.out.ok
                  unfold okOuts at hok
                  rw [Bool.and_eq_true, Bool.and_eq_true] at hok
                  have hr := List.all_eq_true.1 hok.1.2 x (List.mem_of_getElem? hx)
                  have hnc := once_nodup _ o.outs rfl (of_decide_eq_true hok.2) j x hx
                  have hSw := HSO.out.below hB.out
                  have k0 : wr.cell? ⟨g, f1 + j, none⟩ = some (.string (mk x)) := hSw.2 j x hx
                  have hgw : g < wr.heap.size := hSw.1
                  have hxl := right_len hr
                  have bd : Below wr.heap.size wr wr.drew := ⟨rfl, rfl, rfl, Nat.le_refl _, fun _ _ => rfl⟩
                  have cr : Calls Tryz.prog 38 #[.string (mk x)] wr.drew fun e w' => e = .returned (.bool true) ∧ Below wr.heap.size wr w' ∧ w'.cell? ⟨g, f1 + j, none⟩ = some (.string (mk x)) := (refRight_c x (by omega) wr.drew).mono fun e w' ⟨h1, h2⟩ => by
                    have h3 : Below wr.heap.size wr w' := bd.trans h2
                    exact ⟨by rw [h1, hr], h3, (cell_of_block (h3.block g hgw)).trans k0⟩
                  have htk : (o.outs.take j).length = j := by rw [List.length_take, HM.out]; omega
                  have cin : ∀ W, Below wr.heap.size wr W → Calls Tryz.prog 16 #[.slice (some ⟨g, f1, none⟩) j c1, .string (mk x)] W fun e w' => e = .returned (.bool false) ∧ Below wr.heap.size wr w' ∧ w'.cell? ⟨g, f1 + j, none⟩ = some (.string (mk x)) := fun W hW => by
                    have h1 : SAt W g f1 (o.outs.take j) := SAt.take (L := o.outs.drop j) (by rw [List.take_append_drop]; exact hSw.below hW)
                    have h2 := in_c x (h1.strs (c := c1) (by rw [htk]; omega)) (by rw [htk]; omega)
                    rw [htk, hnc] at h2
                    exact h2.mono fun e w' ⟨h3, h4⟩ => by
                      have h5 := hW.trans (h4.mono hW.size)
                      exact ⟨h3, h5, (cell_of_block (h5.block g hgw)).trans k0⟩
                  have hi0 : (0 : Int) ≤ (j : Int) := by omega
                  have hi1 : (j : Int) < (m : Int) := by omega
                  have hi2 : (j : Int) ≤ (m : Int) := by omega
                  have hi3 : ¬ c1 = 0 := by omega
                  have hi4 : (j : Int) ≤ (c1 : Int) := by omega
                  clear hx hok hr hnc hSw hxl bd htk
                  go_wp2_with fail
                  go_region_held3 (fun w' => w'.cell? ⟨g, f1 + j, none⟩ = some (.string (mk x)))
                    (first | exact k0 | exact k1 | exact k2)
                    (first
                      | (go_at_call 38; (with_reducible refine cr.mono ?_); rintro e w6 ⟨rfl, hb6, k1⟩)
                      | (go_at_call 16; (with_reducible refine (cin _ hb6).mono ?_); rintro e w7 ⟨rfl, hb7, k2⟩))
                  have HB7 := Lib.hid (hB.out.trans (hb7.mono hB.out.size))
                  clear cr cin k0 k1 k2 hb6 hb7
                  go_wp2_with fail
                  go_roundw
                  case rel => exact ⟨j + 1, by omega, by go_num, HB7⟩
                  case measure => simp [intOf] <;> omega
                · skip
                  obtain rfl : m = j := by omega
                  obtain ⟨Y2, rfl⟩ : ∃ Y2, Y2 = wr := ⟨wr, rfl⟩
                  have HDZ := Lib.hid ((hB.out.block _ (lt_some HDY.out)).trans HDY.out)
                  have HRZ := Lib.hid ((hB.out.block _ (lt_some HRY.out)).trans HRY.out)
                  have HSZ := Lib.hid (HSO.out.below hB.out)
                  have HS2Z := Lib.hid (HS2Y.out.below hB.out)
                  have HBZ := Lib.hid (HBY.out.trans (hB.out.mono HBY.out.size))
                  have HDlt : Hid (w2.heap.size < Y2.heap.size) := Lib.hid (lt_some HDZ.out)
                  clear hB HDY HRY HSO HS2Y HBY
                  go_wp2_with fail
                  go_loopw [11] (fun i wr => ∃ (j : Nat) (LL : List (Bs × Value)) (oa : Option Addr) (oc : Nat), j ≤ m ∧ i = .int .i64 j ∧ Hid (LL = (o.outs.take j).map fun x => (x, Value.slice none 0 0)) ∧ Hid (wr.heap[w2.heap.size]? = some (.cells #[.slice oa LL.length oc, .bool true, .string (mk dp), .string ⟨#[]⟩] 47 (0, 0))) ∧ Hid (wr.ownsRow Y2.heap.size 45 2 (.slice oa LL.length oc) LL.length (fcells LL)) ∧ Hid (Md w2.heap.size Y2 wr)) (fun i _ => m - (intOf i).toNat)
                  case atStart => exact ⟨0, [], none, 0, Nat.zero_le _, rfl, Lib.hid rfl, HDZ, Lib.hid (World.ownsRow_nil _ _ _ _), Lib.hid ⟨rfl, rfl, rfl, Nat.le_refl _, fun _ _ _ => rfl⟩⟩
                  case round =>
                    obtain ⟨j, LL, oa, oc, hj, rfl, hLL, hD, hO, hM⟩ := hrel
                    by_cases hlt4 : j < m
                    · obtain ⟨x, hx⟩ : ∃ x, o.outs[j]? = some x := ⟨_, List.getElem?_eq_getElem (by rw [HM.out]; exact hlt4)⟩
                      have hgY : g < Y2.heap.size := HSZ.out.1
                      have hSw : SAt wr g f1 o.outs := HSZ.out.kept hM.out.2.2.2.1 (hM.out.2.2.2.2 g hgY (by omega))
                      have hLl : LL.length = j := by rw [hLL.out, List.length_map, List.length_take, HM.out]; omega
                      have bd : Below wr.heap.size wr wr.drew := ⟨rfl, rfl, rfl, Nat.le_refl _, fun _ _ => rfl⟩
                      obtain ⟨a9, c9, W2, hrun2, hF2, hg2⟩ := run_appR (W := wr.drew) (owns_below hO.out bd) hM.out.2.2.2.1 (by rw [hLl]; have := HM.out; omega) x (ba := none) (bn := 0) (bc := 0)
                      have hA2 : Below wr.heap.size wr (wr.drew.alloc (.cells #[.string (mk x), .slice none 0 0] 45)) := bd.trans (below_alloc wr.drew _)
                      have hown : ∀ q, (Value.slice oa LL.length oc).ownBlock = some q → Y2.heap.size ≤ q := fun q hq => (owns_block hO.out hq).1
                      have hlow2 : ∀ q, q < Y2.heap.size → W2.heap[q]? = wr.heap[q]? := fun q hq => (hg2.block q (Nat.lt_of_lt_of_le hq (Nat.le_trans hM.out.2.2.2.1 hA2.size)) (fun e => by have := hown q e.symm; omega)).trans (hA2.block q (Nat.lt_of_lt_of_le hq hM.out.2.2.2.1))
                      have hD2 := (hlow2 _ HDlt.out).trans hD.out
                      have S0 : wr.cell? ⟨w2.heap.size, 0, none⟩ = some (.slice oa LL.length oc) ∧ wr.cell? ⟨g, f1 + j, none⟩ = some (.string (mk x)) := ⟨cell_of_heap hD.out, hSw.2 j x hx⟩
                      have S1 : (wr.drew.alloc (.cells #[.string (mk x), .slice none 0 0] 45)).cell? ⟨w2.heap.size, 0, none⟩ = some (.slice oa LL.length oc) ∧ (wr.drew.alloc (.cells #[.string (mk x), .slice none 0 0] 45)).cell? ⟨g, f1 + j, none⟩ = some (.string (mk x)) := ⟨(cell_of_block (hA2.block _ (lt_some hD.out))).trans S0.1, (cell_of_block (hA2.block _ hSw.1)).trans S0.2⟩
                      have S2 : W2.cell? ⟨w2.heap.size, 0, none⟩ = some (.slice oa LL.length oc) ∧ W2.cell? ⟨g, f1 + j, none⟩ = some (.string (mk x)) := ⟨(cell_of_block (hlow2 _ HDlt.out)).trans S0.1, (cell_of_block (hlow2 g hgY)).trans S0.2⟩
                      have y0 : W2.cell? ⟨w2.heap.size, 0, none⟩ = some (.slice oa LL.length oc) := S2.1
                      have z0 : W2.frozen? ⟨w2.heap.size, 0, none⟩ = false := by simp [World.frozen?, hD2]
                      have HR1 := Lib.hid hrun2
                      obtain ⟨W3, hW3⟩ : ∃ W3, W2.setCell ⟨w2.heap.size, 0, none⟩ (.slice a9 (LL ++ [(x, Value.slice none 0 0)]).length c9) = W3 := ⟨_, rfl⟩
                      obtain ⟨L1, hL1⟩ : ∃ L1, LL ++ [(x, Value.slice none 0 0)] = L1 := ⟨_, rfl⟩
                      have HLN : Hid (L1 = (o.outs.take (j + 1)).map fun x => (x, Value.slice none 0 0)) := Lib.hid (by rw [← hL1, hLL.out, List.take_add_one, hx]; simp)
                      have HDN : Hid (W3.heap[w2.heap.size]? = some (.cells #[.slice a9 L1.length c9, .bool true, .string (mk dp), .string ⟨#[]⟩] 47 (0, 0))) := Lib.hid (by rw [← hW3, hL1]; exact set_block (j := 0) hD2)
                      have HON : Hid (W3.ownsRow Y2.heap.size 45 2 (.slice a9 L1.length c9) L1.length (fcells L1)) := Lib.hid (by
                        rw [hL1] at hF2
                        exact owns_kept hF2 fun q hq => by
                          rw [← hW3]
                          exact set_other (by have := (owns_block hF2 hq).1; have := HDlt.out; omega))
                      have HMN : Hid (Md w2.heap.size Y2 W3) := Lib.hid (by
                        rw [← hW3]
                        have hm := hM.out
                        exact ⟨hg2.os.trans (hA2.os.trans hm.1), hg2.tape.trans (hA2.tape.trans hm.2.1), hg2.output.trans (hA2.output.trans hm.2.2.1), by rw [World.size_setCell]; exact Nat.le_trans hm.2.2.2.1 (Nat.le_trans hA2.size hg2.size), fun q hq hne => (set_other hne).trans ((hlow2 q hq).trans (hm.2.2.2.2 q hq hne))⟩)
                      have hi0 : (0 : Int) ≤ (j : Int) := by omega
                      have hi1 : (j : Int) < (m : Int) := by omega
                      have HW3 := Lib.hid hW3
                      rw [hL1] at HR1 HW3
                      clear bd hx hSw hLl hrun2 hF2 hg2 hA2 hown hlow2 hD2 hW3 hL1 hgY
                      go_wp2_with fail
                      refine Nt.wp_region_N 10 (fun w' => w'.cell? ⟨w2.heap.size, 0, none⟩ = some (.slice oa LL.length oc) ∧ w'.cell? ⟨g, f1 + j, none⟩ = some (.string (mk x))) (by kernel_rfl) ?_
                      refine Nt.takeT (i := 0) (oi := { dst := some 131, op := Op.fieldAddr 47 (Operand.tmp 6) 0, type := 0, pos := _, after := #[], guard := Option.none }) (v := ?_) rfl (by kernel_rfl) (by kernel_rfl) (by kernel_rfl) (by kernel_rfl) (fun _ _ _ h => h) (Or.inl ⟨by rfl, ?_⟩) (fun _ => S0) ?_
                      rotate_left 1
                      · intro w hSw
                        try dsimp only at hSw
                        go_simp
                        first | done | with_reducible rfl
                      try simp only [Act.put, List.setIfInBounds_toArray, List.set_cons_zero, List.set_cons_succ]
                      refine Nt.takeS (i := 1) (oi := { dst := some 132, op := Op.load 22 (Operand.tmp 131), type := 22, pos := _, after := #[{ on := 0, ground := Ground.data }], guard := Option.none }) (v := ?_) rfl (by kernel_rfl) (by kernel_rfl) (by kernel_rfl) (by kernel_rfl) (by kernel_rfl) (by kernel_rfl) (fun _ _ _ h => h) (Or.inl ⟨by rfl, ?_⟩) S0 ?_
                      rotate_left 1
                      · intro w hSw
                        try dsimp only at hSw
                        go_simp
                        first | done | with_reducible rfl
                      try simp only [Act.put, List.setIfInBounds_toArray, List.set_cons_zero, List.set_cons_succ]
                      refine Nt.takeT (i := 2) (oi := { dst := some 133, op := Op.move (Operand.tmp 8), type := 32, pos := _, after := #[], guard := Option.none }) (v := ?_) rfl (by kernel_rfl) (by kernel_rfl) (by kernel_rfl) (by kernel_rfl) (fun _ _ _ h => h) (Or.inl ⟨by rfl, ?_⟩) (fun _ => S0) ?_
                      rotate_left 1
                      · intro w hSw
                        try dsimp only at hSw
                        go_simp
                        first | done | with_reducible rfl
                      try simp only [Act.put, List.setIfInBounds_toArray, List.set_cons_zero, List.set_cons_succ]
                      refine Nt.takeT (i := 3) (oi := { dst := some 134, op := Op.move (Operand.tmp 11), type := 3, pos := _, after := #[], guard := Option.none }) (v := ?_) rfl (by kernel_rfl) (by kernel_rfl) (by kernel_rfl) (by kernel_rfl) (fun _ _ _ h => h) (Or.inl ⟨by rfl, ?_⟩) (fun _ => S0) ?_
                      rotate_left 1
                      · intro w hSw
                        try dsimp only at hSw
                        go_simp
                        first | done | with_reducible rfl
                      try simp only [Act.put, List.setIfInBounds_toArray, List.set_cons_zero, List.set_cons_succ]
                      refine Nt.takeT (i := 4) (oi := { dst := some 135, op := Op.indexAddr 32 (Operand.tmp 133) (Operand.tmp 134), type := 0, pos := _, after := #[{ on := 2, ground := Ground.data }, { on := 3, ground := Ground.data }], guard := Option.none }) (v := ?_) rfl (by kernel_rfl) (by kernel_rfl) (by kernel_rfl) (by kernel_rfl) (fun _ _ _ h => h) (Or.inl ⟨by rfl, ?_⟩) (fun _ => S0) ?_
                      rotate_left 1
                      · intro w hSw
                        try dsimp only at hSw
                        go_simp
                        first | done | with_reducible rfl
                      try simp only [Act.put, List.setIfInBounds_toArray, List.set_cons_zero, List.set_cons_succ]
                      refine Nt.takeS (i := 5) (oi := { dst := some 136, op := Op.load 9 (Operand.tmp 135), type := 9, pos := _, after := #[{ on := 4, ground := Ground.data }], guard := Option.none }) (v := ?_) rfl (by kernel_rfl) (by kernel_rfl) (by kernel_rfl) (by kernel_rfl) (by kernel_rfl) (by kernel_rfl) (fun _ _ _ h => h) (Or.inl ⟨by rfl, ?_⟩) S0 ?_
                      rotate_left 1
                      · intro w hSw
                        try dsimp only at hSw
                        go_simp
                        first | done | with_reducible rfl
                      try simp only [Act.put, List.setIfInBounds_toArray, List.set_cons_zero, List.set_cons_succ]
                      refine Nt.takeT (i := 6) (oi := { dst := some 137, op := Op.build 45 #[(0, Operand.tmp 136)], type := 45, pos := _, after := #[{ on := 5, ground := Ground.data }], guard := Option.none }) (v := ?_) rfl (by kernel_rfl) (by kernel_rfl) (by kernel_rfl) (by kernel_rfl) (fun _ _ _ h => h) (Or.inl ⟨by rfl, ?_⟩) (fun _ => S0) ?_
                      rotate_left 1
                      · intro w hSw
                        try dsimp only at hSw
                        go_simp
                        first | done | with_reducible rfl
                      try simp only [Act.put, List.setIfInBounds_toArray, List.set_cons_zero, List.set_cons_succ]
                      refine Nt.nextN (i := 7) (by kernel_rfl) rfl (fun K hK => ?_)
                      go_simp
                      refine hK.out _ _ (fun _ => S1) ?_
                      clear hK K
                      try simp only [Act.put, List.setIfInBounds_toArray, List.set_cons_zero, List.set_cons_succ]
                      refine Nt.nextN (i := 8) (by kernel_rfl) rfl (fun K hK => ?_)
                      refine step_run2 rfl (.tmp 132) (.tmp 138) rfl (by simp [Act.eval]) (by simp [Act.eval]) HR1.out ?_
                      refine hK.out _ _ (fun _ => S2) ?_
                      clear hK K
                      try simp only [Act.put, List.setIfInBounds_toArray, List.set_cons_zero, List.set_cons_succ]
                      refine Nt.nextN (i := 9) (by kernel_rfl) rfl (fun K hK => ?_)
                      go_simp
                      refine hK.out _ _ (fun _ => S2) ?_
                      clear hK K
                      try simp only [Act.put, List.setIfInBounds_toArray, List.set_cons_zero, List.set_cons_succ]
                      refine Nt.nextN (i := 10) (by kernel_rfl) rfl (fun K hK => ?_)
                      go_simp
                      refine hK.out _ _ (fun h => by simp at h) ?_
                      clear hK K
                      try simp only [Act.put, List.setIfInBounds_toArray, List.set_cons_zero, List.set_cons_succ]
                      refine Nt.doneN (by kernel_rfl) ?_ _
                      rw [HW3.out]
                      go_wp2_with fail
                      go_roundw
                      case rel => exact ⟨j + 1, L1, a9, c9, by omega, by go_num, HLN, HDN, HON, HMN⟩
                      case measure => simp [intOf] <;> omega
                    · skip
                      obtain rfl : m = j := by omega
                      have hgY : g < Y2.heap.size := HSZ.out.1
                      have hrY : w.heap.size < Y2.heap.size := lt_some HRZ.out
                      have v0w := (HS2Z.out.kept hM.out.2.2.2.1 (hM.out.2.2.2.2 g hgY (by omega))).2 0 o.verb (by rw [HPARTS.out]; rfl)
                      have HR3 := Lib.hid ((hM.out.2.2.2.2 w.heap.size hrY (by omega)).trans HRZ.out)
                      have hMS := hM.out.2.2.2.1
                      obtain ⟨w9, rfl⟩ : ∃ w9, w9 = wr := ⟨wr, rfl⟩
                      have v0 : w9.cell? ⟨g, 1, none⟩ = some (.string (mk o.verb)) := v0w
                      have d0 : w9.cell? ⟨w2.heap.size, 0, none⟩ = some (.slice oa LL.length oc) := cell_of_heap hD.out
                      have d1 : w9.cell? ⟨w2.heap.size, 1, none⟩ = some (.bool true) := cell_of_heap hD.out
                      have d2 : w9.cell? ⟨w2.heap.size, 2, none⟩ = some (.string (mk dp)) := cell_of_heap hD.out
                      have d3 : w9.cell? ⟨w2.heap.size, 3, none⟩ = some (.string ⟨#[]⟩) := cell_of_heap hD.out
                      have r0 : w9.cell? ⟨w.heap.size, 0, none⟩ = some (.slice none 0 0) := cell_of_heap HR3.out
                      have r1 : w9.cell? ⟨w.heap.size, 1, none⟩ = some (.bool false) := cell_of_heap HR3.out
                      have r2 : w9.cell? ⟨w.heap.size, 2, none⟩ = some (.string ⟨#[]⟩) := cell_of_heap HR3.out
                      have r3 : w9.cell? ⟨w.heap.size, 3, none⟩ = some (.string ⟨#[]⟩) := cell_of_heap HR3.out
                      have y0 : w9.frozen? ⟨w.heap.size, 0, none⟩ = false := by simp [World.frozen?, HR3.out, zRD]
                      have y1 : w9.frozen? ⟨w.heap.size, 1, none⟩ = false := by simp [World.frozen?, HR3.out, zRD]
                      have y2 : w9.frozen? ⟨w.heap.size, 2, none⟩ = false := by simp [World.frozen?, HR3.out, zRD]
                      have y3 : w9.frozen? ⟨w.heap.size, 3, none⟩ = false := by simp [World.frozen?, HR3.out, zRD]
                      obtain ⟨kf, hkf⟩ := Option.isSome_iff_exists.1 HF.out.known
                      have hkk : (k : Int) ≤ (k : Int) + 1 + (m : Int) := by omega
                      have hkc : (k : Int) ≤ (c0 : Int) := by omega
                      have hk0 : (0 : Int) ≤ (k : Int) := by omega
                      have hkp : (0 : Int) < (k : Int) + 1 + (m : Int) := by omega
                      obtain ⟨vb, hvb⟩ : ∃ vb, o.verb = vb := ⟨_, rfl⟩
                      rw [hvb] at v0 v0w
                      rcases verb_cases hkf with ⟨hv, -⟩ | ⟨hv, -⟩ | ⟨hv, -⟩ | ⟨hv, -⟩ | ⟨hv, -⟩ | ⟨hv, -⟩
                      · have h1 := HF.out.inc
                        rw [hv, decide_eq_true HDEP.out] at h1
                        exact absurd h1 (by decide)
                      · have h1 := HF.out.inc
                        rw [hv, decide_eq_true HDEP.out] at h1
                        exact absurd h1 (by decide)
                      · have h1 := HF.out.inc
                        rw [hv, decide_eq_true HDEP.out] at h1
                        exact absurd h1 (by decide)
                      · have h1 := HF.out.inc
                        rw [hv, decide_eq_true HDEP.out] at h1
                        exact absurd h1 (by decide)
                      · have e0 : ((mk vb).toList == ([99, 97, 116] : List UInt8)) = false := by rw [mk_toList, ← hvb, hv]; rfl
                        have e1 : ((mk vb).toList == ([114, 101, 118] : List UInt8)) = false := by rw [mk_toList, ← hvb, hv]; rfl
                        have e2 : ((mk vb).toList == ([115, 117, 109] : List UInt8)) = false := by rw [mk_toList, ← hvb, hv]; rfl
                        have e3 : ((mk vb).toList == ([112, 117, 116] : List UInt8)) = false := by rw [mk_toList, ← hvb, hv]; rfl
                        have e4 : ((mk vb).toList == ([105, 110, 99] : List UInt8)) = true := by rw [mk_toList, ← hvb, hv]; rfl
                        have HVB := Lib.hid hvb
                        clear hkf v0w hv hvb
                        go_wp2_with fail
                        go_region
                        obtain ⟨WE, hWE⟩ : ∃ WE, ((((w9.setCell ⟨w.heap.size, 0, none⟩ (.slice oa LL.length oc)).setCell ⟨w.heap.size, 1, none⟩ (.bool true)).setCell ⟨w.heap.size, 2, none⟩ (.string (mk dp))).setCell ⟨w.heap.size, 3, none⟩ (.string ⟨#[]⟩)).drew = WE := ⟨_, rfl⟩
                        have hP0 := set_block (j := 3) (u := .string ⟨#[]⟩) (set_block (j := 2) (u := .string (mk dp)) (set_block (j := 1) (u := .bool true) (set_block (j := 0) (u := .slice oa LL.length oc) HR3.out)))
                        have hP : WE.heap[w.heap.size]? = some (.cells #[.slice oa LL.length oc, .bool true, .string (mk dp), .string ⟨#[]⟩] 47 (0, 0)) := by rw [← hWE]; exact hP0
                        have hoth : ∀ q, q ≠ w.heap.size → WE.heap[q]? = w9.heap[q]? := fun q hq => by
                          rw [← hWE]
                          exact (set_other hq).trans ((set_other hq).trans ((set_other hq).trans (set_other hq)))
                        have hsz : WE.heap.size = w9.heap.size := by
                          rw [← hWE]
                          show ((((w9.setCell _ _).setCell _ _).setCell _ _).setCell _ _).heap.size = _
                          rw [World.size_setCell, World.size_setCell, World.size_setCell, World.size_setCell]
                        have hos : WE.os = w9.os ∧ WE.tape = w9.tape ∧ WE.output = w9.output := by rw [← hWE]; exact ⟨rfl, rfl, rfl⟩
                        rw [hWE]
                        have s0 : WE.cell? ⟨w.heap.size, 0, none⟩ = some (.slice oa LL.length oc) := cell_of_heap hP
                        have s1 : WE.cell? ⟨w.heap.size, 1, none⟩ = some (.bool true) := cell_of_heap hP
                        have s2 : WE.cell? ⟨w.heap.size, 2, none⟩ = some (.string (mk dp)) := cell_of_heap hP
                        have s3 : WE.cell? ⟨w.heap.size, 3, none⟩ = some (.string ⟨#[]⟩) := cell_of_heap hP
                        clear hP0 v0 d0 d1 d2 d3 r0 r1 r2 r3 y0 y1 y2 y3 hWE
                        go_wp2_with fail
                        refine bodyPost_ret (v := .tuple #[.slice (some ⟨g, 1, none⟩) k c0, .agg #[.slice oa LL.length oc, .bool true, .string (mk dp), .string ⟨#[]⟩], .bool true]) (by simp [results, Tryz.f26, go_sem, s0, s1, s2, s3]) rfl ?_
                        refine ⟨some ⟨g, 1, none⟩, c0, LL, oa, oc, ?_, by have := HNN.out; omega, ?_, ?_, ?_, ?_⟩
                        · rw [HNN.out, hon, HDP.out]
                          all_goals rfl
                        · have hS : SAt w9 g 1 ws2 := HS2Z.out.kept hMS (hM.out.2.2.2.2 g hgY (by omega))
                          have hS2 : SAt WE g 1 ws2 := hS.kept (by rw [hsz]; exact Nat.le_refl _) (hoth g (by omega))
                          rw [HPARTS.out] at hS2
                          have h1 := (hS2.take).strs (c := c0) (by rw [List.length_cons, HNN.out]; omega)
                          rw [List.length_cons] at h1
                          exact h1
                        · rw [hLL.out, List.take_of_length_le (by rw [HM.out]; exact Nat.le_refl _)]
                        · refine owns_lower (owns_kept hO.out fun q hq => hoth q ?_) (by omega)
                          have := (owns_block hO.out hq).1
                          omega
                        · have hz := HBZ.out
                          have hm := hM.out
                          exact ⟨hos.1.trans (hm.1.trans hz.os), hos.2.1.trans (hm.2.1.trans hz.tape), hos.2.2.trans (hm.2.2.1.trans hz.output), by rw [hsz]; exact Nat.le_trans hz.size hm.2.2.2.1, fun q hq => (hoth q (by omega)).trans ((hm.2.2.2.2 q (by omega) (by omega)).trans (hz.block q hq))⟩
                      · have h1 := HF.out.inc
                        rw [hv, decide_eq_true HDEP.out] at h1
                        exact absurd h1 (by decide)
end Go.Proofs.YtgledabcfonbeaaGreatDoor.Df
