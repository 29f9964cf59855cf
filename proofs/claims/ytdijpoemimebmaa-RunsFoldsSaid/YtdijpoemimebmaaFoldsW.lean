/-
  THE LAW RunsFolds, WALKED.
-/
import Derived.Test.YtdijpoemimebmaaFoldedW
import Derived.Test.YtdijpoemimebmaaRnAwake
namespace Go.Proofs.Ytdijpoemimebmaa.Rn
open Go.RowKit
open Go.Proofs.Ytdijpoemimebmaa.Cr

set_option maxRecDepth 100000 in
set_option maxHeartbeats 8000000 in
theorem folds_main {w : World} {v : Value} {L : List Run} {p q : Run} {vi vf vj vg : Value} (h : RunRow w v L) (hi : InRow w vi p.ins) (hf : FdRow w vf p.found) (hj : InRow w vj q.ins) (hg : FdRow w vg q.found) (hall : allB L = true) (hp : lightB p = true) (hq : lightB q = true) :
    Calls Try.prog 5 #[v, .agg (runC p vi vf), .agg (runC q vj vg)] w fun e w' => e = .returned (.bool true) ∧ Below w.heap.size w w' := by
  obtain ⟨W0, hW0⟩ : ∃ W, (w.alloc (.cells (runC p vi vf) 25)).alloc (.cells (runC q vj vg) 25) = W := ⟨_, rfl⟩
  have z1 : (w.alloc (.cells (runC p vi vf) 25)).heap.size = w.heap.size + 1 := Array.size_push _
  have hB0 : Below w.heap.size w W0 := by rw [← hW0]; exact ((Below.refl _ _).alloc (Nat.le_refl _) _).alloc (by simp) _
  have hx1 : W0.heap[w.heap.size]? = some (.cells (runC p vi vf) 25 (0, 0)) := by rw [← hW0, Below.heap_alloc _ _ _ (by rw [z1]; omega)]; exact heap_alloc_new _ _
  have hx2 : W0.heap[w.heap.size + 1]? = some (.cells (runC q vj vg) 25 (0, 0)) := by rw [← hW0, ← z1]; exact heap_alloc_new _ _
  obtain ⟨hl60, hlight⟩ := all_of hall
  have hR0 := h.below hB0
  have hI := hi.below hB0
  have hF := hf.below hB0
  have hJ := hj.below hB0
  have hG := hg.below hB0
  have cA := all_c hR0 (by omega)
  rw [hall] at cA
  have HLT := Lib.hid hlight
  have HB0 := Lib.hid hB0
  have X0 : Hid (XB W0 W0 (.slice Option.none 0 0) []) := Lib.hid ⟨World.ownsRow_nil _ _ _ _, by simp, Below.refl _ _⟩
  obtain ⟨a, c, rfl, hnil, hle, hrow⟩ := hR0.at
  obtain ⟨ai, ci, rfl, -, -, -⟩ := hi
  obtain ⟨af, cf, rfl, -, -, -⟩ := hf
  obtain ⟨aj, cj, rfl, -, -, -⟩ := hj
  obtain ⟨ag, cg, rfl, -, -, -⟩ := hg
  have HROW := Lib.hid hrow
  have HR0 := Lib.hid hR0
  have BOX : Hid (∀ w', Below W0.heap.size W0 w' → At w' w.heap.size 0 p (.slice ai p.ins.length ci) (.slice af p.found.length cf) ∧ At w' (w.heap.size + 1) 0 q (.slice aj q.ins.length cj) (.slice ag q.found.length cg)) := Lib.hid fun w' hb => by
    obtain ⟨⟨c0, c1, c2, c3, c4, c5⟩, -⟩ := six_cells ((hb.block _ (lt_some hx1)).trans hx1)
    obtain ⟨⟨d0, d1, d2, d3, d4, d5⟩, -⟩ := six_cells ((hb.block _ (lt_some hx2)).trans hx2)
    exact ⟨⟨c0, c1, c2, c3, c4, c5, hI.below hb, hF.below hb⟩, ⟨d0, d1, d2, d3, d4, d5, hJ.below hb, hG.below hb⟩⟩
  have HLP := Lib.hid hp
  have HLQ := Lib.hid hq
  unfold runC at hW0 ⊢
  clear h hall hlight hrow hnil hR0 hI hF hJ hG hB0 hx1 hx2 hp hq z1
  go_enter Try.func5, Try.ntmps5
  go_wp2_with fail
  refine cA.mono ?_
  rintro e w2 ⟨rfl, hb2⟩
  have B2 := Lib.hid hb2
  have hbx := BOX.out _ hb2
  have cP := light_c hbx.1.ins hbx.1.fds
  rw [HLP.out] at cP
  obtain ⟨c0, c1, c2, c3, c4, c5, -, -⟩ := hbx.1
  unfold runC at cP
  clear cA hb2 hbx hW0
  go_wp2_with fail
  refine cP.mono ?_
  rintro e w3 ⟨rfl, hb3⟩
  have B3 := Lib.hid (B2.out.trans (hb3.mono B2.out.size))
  have hbx := BOX.out _ B3.out
  have cQ := light_c hbx.2.ins hbx.2.fds
  rw [HLQ.out] at cQ
  clear c0 c1 c2 c3 c4 c5
  obtain ⟨c0, c1, c2, c3, c4, c5, -, -⟩ := hbx.2
  unfold runC at cQ
  clear cP hb3 hbx
  go_wp2_with fail
  refine cQ.mono ?_
  rintro e w4 ⟨rfl, hb4⟩
  have B4 := B3.out.trans (hb4.mono B3.out.size)
  have X2 := Lib.hid (X0.out.next B4)
  clear cQ hb4 c0 c1 c2 c3 c4 c5 B4 X0
  go_wp2_with fail
  obtain ⟨i0, hti, hz0, hz1, hz2⟩ := info_parts infoR
  go_loopw [7, 8] (fun v5 i wr => ∃ j : Nat, j ≤ L.length ∧ i = .int .i64 j ∧ ∃ (a1 : Option Addr) (c1 : Nat) (G : List Gr), v5 = .slice a1 G.length c1 ∧ Hid (XB W0 wr (.slice a1 G.length c1) G) ∧ Hid (G.map (·.1) = L.take j) ∧ Hid (G.length = j)) (fun _ i _ => L.length - (intOf i).toNat)
  case atStart => exact ⟨0, Nat.zero_le _, rfl, Option.none, 0, [], rfl, X2, Lib.hid rfl, Lib.hid rfl⟩
  case round =>
    obtain ⟨j, hj, rfl, a1, c1, G, rfl, hX, hG, hGl⟩ := hrel
    clear X2
    by_cases hlt : j < L.length
    · have hx := List.getElem?_eq_getElem hlt
      have hlx := HLT.out _ (List.getElem_mem hlt)
      rcases HROW.out with h | ⟨b, off, rfl, hb, hcell⟩
      · rw [h] at hlt; simp at hlt
      obtain ⟨ai, ni, ci, af, nf, cf, hAt0⟩ := hcell j _ hx
      have hAt := hAt0.below hb hX.out.bel
      have htk : L.take (j + 1) = L.take j ++ [L[j]] := by
        rw [List.take_add_one, hx]
        generalize L[j] = y
        rfl
      generalize L[j] = x at *
      obtain ⟨-, -, x3, x4, -⟩ := light_parts hlx
      have hof := Oq.of_own (r := x) hAt.ins hAt.fds (by omega) (by omega)
      obtain ⟨k0, k1, k2, k3, k4, k5, -, -⟩ := hAt
      have hi0 : (0 : Int) ≤ (j : Int) := by omega
      have hi1 : (j : Int) < (L.length : Int) := by omega
      have HTK := Lib.hid htk
      unfold runC at hof
      clear htk hAt0 hcell hx hlx
      go_wp2_with fail
      refine hof.mono ?_
      rintro e V5 ⟨ui, uf, rfl, ho1, ho2, hb5⟩
      obtain ⟨xa, xc, rfl⟩ := own_slice ho1
      obtain ⟨ya, yc, rfl⟩ := own_slice ho2
      have G5 := Lib.hid (hX.out.next hb5)
      have hge : GE W0.heap.size V5 (x, .slice xa x.ins.length xc, .slice ya x.found.length yc) := ⟨owns_base ho1 hX.out.bel.size, owns_base ho2 hX.out.bel.size⟩
      have HGE := Lib.hid hge
      have hglen : G.length ≤ 60 := by have := hGl.out; omega
      have hml : G.length + 1 ≤ maxLen := by unfold maxLen; omega
      have hby : (G.length + 1) * 96 ≤ 140737488355328 := by omega
      have hoa : Hid (∀ ob, (V5.alloc ob).ownsRow W0.heap.size 33 6 (.slice a1 G.length c1) G.length (runV G)) := Lib.hid fun ob => owns_below G5.out.own (Pk.below_alloc _ _)
      have hbs : Hid (∀ ob, W0.heap.size ≤ (V5.alloc ob).heap.size) := Lib.hid fun ob => Nat.le_trans G5.out.bel.size (Pk.below_alloc V5 ob).size
      have HN := Lib.hid (run_newsD V5 x (.slice xa x.ins.length xc) (.slice ya x.found.length yc) rfl rfl)
      clear hof ho1 ho2 hb5 hge k0 k1 k2 k3 k4 k5 hX
      go_wp2_with (at_builtin; refine wpList_append_own _ rfl (.tmp 28) (.tmp 34) 47 rfl W0.heap.size 33 i0 (.agg #[.string ⟨#[]⟩, .string ⟨#[]⟩, .int .i64 0, .int .i64 0, .slice Option.none 0 0, .slice Option.none 0 0]) 6 96 Try.underlying47 hti hz0 hz1 hz2 rfl (by decide) (.slice a1 G.length c1) G.length (runV G) rfl (hoa.out _) ⟨V5.heap.size, 0, Option.none⟩ 1 1 [.string x.out, .string x.cmd, .int .i64 x.time, .int .i64 x.mark, .slice xa x.ins.length xc, .slice ya x.found.length yc] rfl rfl HN.out.1 HN.out.2 hml hby (hbs.out _) ?_; intro vn W9 hown9 hg9 _; obtain ⟨va, vc, rfl⟩ := own_slice hown9; have X9 := Lib.hid (G5.out.snoc HGE.out hg9 hown9); clear hown9 hg9)
      obtain ⟨G2, hG2⟩ : ∃ G2 : List Gr, G2 = G ++ [(x, .slice xa x.ins.length xc, .slice ya x.found.length yc)] := ⟨_, rfl⟩
      have hlen2 : G.length + 1 = G2.length := by rw [hG2, List.length_append]; rfl
      have hmap : G2.map (·.1) = L.take (j + 1) := by rw [HTK.out, hG2, List.map_append, hG.out]; rfl
      have XG : Hid (XB W0 W9 (.slice va G2.length vc) G2) := Lib.hid (by rw [← hlen2, hG2]; exact X9.out)
      have LEN := Lib.hid hlen2
      have LJ : Hid (G2.length = j + 1) := Lib.hid (by rw [← hlen2, hGl.out])
      have HMAP := Lib.hid hmap
      clear hmap hoa hbs HN hml hby hlen2 hG2
      go_roundw
      case rel => exact ⟨j + 1, by omega, by go_num, va, vc, G2, by rw [LEN.out], XG, HMAP, LJ⟩
      case measure => simp [intOf]; omega
    · obtain rfl : j = L.length := by omega
      rw [List.take_length] at hG
      have DB := Lib.hid (below_drew hX.out.bel)
      obtain ⟨z, hz⟩ : ∃ z, sameB p q = z := ⟨_, rfl⟩
      have HZ := Lib.hid hz
      have hXd : XB W0 wr.drew (.slice a1 G.length c1) G := hX.out.next (below_drew (Below.refl _ _))
      have hfo := fold_c (L := L) (w := wr.drew) (by have := xb_row hXd; rw [hG.out] at this; exact this) (by omega) (fun x hx => thin_of (HLT.out x hx))
      obtain ⟨-, -, qp1, qp2, -⟩ := light_parts HLP.out
      obtain ⟨-, -, qq1, qq2, -⟩ := light_parts HLQ.out
      have SIX : Hid (∀ w', Below W0.heap.size W0 w' → sixAt w' w.heap.size 0 p (.slice ai p.ins.length ci) (.slice af p.found.length cf) ∧ sixAt w' (w.heap.size + 1) 0 q (.slice aj q.ins.length cj) (.slice ag q.found.length cg)) := Lib.hid fun w' hb => ⟨(BOX.out w' hb).1.six, (BOX.out w' hb).2.six⟩
      clear hz hXd
      go_wp2_with fail
      simp only [sixAt, Nat.zero_add] at SIX
      go_region_held3 (fun w' => (w'.cell? ⟨w.heap.size, 0, Option.none⟩ = some (.string p.out) ∧ w'.cell? ⟨w.heap.size, 1, Option.none⟩ = some (.string p.cmd) ∧ w'.cell? ⟨w.heap.size, 2, Option.none⟩ = some (.int .i64 p.time) ∧ w'.cell? ⟨w.heap.size, 3, Option.none⟩ = some (.int .i64 p.mark) ∧ w'.cell? ⟨w.heap.size, 4, Option.none⟩ = some (.slice ai p.ins.length ci) ∧ w'.cell? ⟨w.heap.size, 5, Option.none⟩ = some (.slice af p.found.length cf)) ∧ w'.cell? ⟨w.heap.size + 1, 0, Option.none⟩ = some (.string q.out) ∧ w'.cell? ⟨w.heap.size + 1, 1, Option.none⟩ = some (.string q.cmd) ∧ w'.cell? ⟨w.heap.size + 1, 2, Option.none⟩ = some (.int .i64 q.time) ∧ w'.cell? ⟨w.heap.size + 1, 3, Option.none⟩ = some (.int .i64 q.mark) ∧ w'.cell? ⟨w.heap.size + 1, 4, Option.none⟩ = some (.slice aj q.ins.length cj) ∧ w'.cell? ⟨w.heap.size + 1, 5, Option.none⟩ = some (.slice ag q.found.length cg))
        (first | with_reducible exact SIX.out _ DB.out | with_reducible exact SIX.out _ C1.out | with_reducible exact SIX.out _ C2.out | with_reducible exact SIX.out _ C3.out | with_reducible exact SIX.out _ C4.out | with_reducible exact SIX.out _ C5.out | with_reducible exact SIX.out _ C6.out | with_reducible exact SIX.out _ C7.out | with_reducible exact SIX.out _ C8.out | with_reducible exact SIX.out _ C9.out | with_reducible exact SIX.out _ C10.out | with_reducible exact SIX.out _ C11.out | fail)
        (first
          | (go_at_call 21; (with_reducible refine hfo.mono ?_); rintro e V1 ⟨v1, G1, NS1, rfl, ho1, he1, hb1, n1, n2, n3, n4⟩; have C1 := Lib.hid (DB.out.trans (hb1.mono DB.out.size)); have F1 := Lib.hid (fo_of n1 n2 n3 n4); obtain ⟨ua, uc, rfl⟩ := own_slice ho1; have R1 := Lib.hid (xb_row (w := wr.drew) ⟨ho1, he1, hb1⟩); have hdo := refFold_c (HR0.out.below C1.out) (by omega); clear ho1 he1 n1 n2 n3 n4; clear hb1)
          | (go_at_call 22; (with_reducible refine hdo.mono ?_); rintro e V2 ⟨v2, G2, rfl, hd2, f2⟩; obtain ⟨ta, tc, htt, -, -⟩ := hd2.at; cases htt; have hEQ := fo_eq F1.out f2 (fun _ => rfl); have hd2r := df_row hd2; rw [← hEQ] at hd2r; have hfd := folded_c (R1.out.below hd2.bel) hd2r (by (have := fo_le F1.out; omega)) (fun x hx => thin_of (HLT.out x (fo_sub F1.out x hx))); have hb2 := hd2.bel; have C2 := Lib.hid (C1.out.trans (hb2.mono C1.out.size)); clear hb2 hd2 f2 hEQ hd2r)
          | (go_at_call 20; (with_reducible refine hfd.mono ?_); rintro e V3 ⟨rfl, hb3⟩; have C3 := Lib.hid (C2.out.trans (hb3.mono C2.out.size)); have hoa := Oq.of_c (w := V3) (BOX.out _ C3.out).1.ins (BOX.out _ C3.out).1.fds (by omega) (by omega); unfold runC at hoa; clear hb3)
          | (go_at_call 12; (with_reducible refine hoa.mono ?_); rintro e V4 ⟨u4, g4, rfl, i4, k4, hb4⟩; have C4 := Lib.hid (C3.out.trans (hb4.mono C3.out.size)); have hob := Oq.of_c (w := V4) (BOX.out _ C4.out).2.ins (BOX.out _ C4.out).2.fds (by omega) (by omega); unfold runC at hob; clear hb4)
          | (go_at_call 12; (with_reducible refine hob.mono ?_); rintro e V5 ⟨u5, g5, rfl, i5, k5, hb5⟩; have C5 := Lib.hid (C4.out.trans (hb5.mono C4.out.size)); have hsa := psame_c (w := V5) (r := p) (q := q) (by omega) (by omega) (i4.below hb5) (k4.below hb5) i5 k5; rw [HZ.out] at hsa; unfold runC at hsa; clear i4 k4 i5 k5; clear hb5)
          | (go_at_call 23; (with_reducible refine hsa.mono ?_); rintro e V6 ⟨rfl, hb6⟩; have C6 := Lib.hid (C5.out.trans (hb6.mono C5.out.size)); have hds := same_c (w := V6) (r := p) (q := q) (by omega) (by omega) (BOX.out _ C6.out).1.ins (BOX.out _ C6.out).1.fds (BOX.out _ C6.out).2.ins (BOX.out _ C6.out).2.fds; rw [HZ.out] at hds; unfold runC at hds; clear hb6)
          | (go_at_call 17; (with_reducible refine hds.mono ?_); rintro e V7 ⟨rfl, hb7⟩; have C7 := Lib.hid (C6.out.trans (hb7.mono C6.out.size)); have hoc := Oq.of_c (w := V7) (BOX.out _ C7.out).1.ins (BOX.out _ C7.out).1.fds (by omega) (by omega); unfold runC at hoc; clear hb7)
          | (go_at_call 12; (with_reducible refine hoc.mono ?_); rintro e V8 ⟨u8, g8, rfl, i8, k8, hb8⟩; have C8 := Lib.hid (C7.out.trans (hb8.mono C7.out.size)); have hod := Oq.of_c (w := V8) (BOX.out _ C8.out).1.ins (BOX.out _ C8.out).1.fds (by omega) (by omega); unfold runC at hod; clear hb8)
          | (go_at_call 12; (with_reducible refine hod.mono ?_); rintro e V9 ⟨u9, g9, rfl, i9, k9, hb9⟩; have C9 := Lib.hid (C8.out.trans (hb9.mono C8.out.size)); have hse := psame_c (w := V9) (r := p) (q := p) (by omega) (by omega) (i8.below hb9) (k8.below hb9) i9 k9; rw [sameB_yes rfl] at hse; unfold runC at hse; clear i8 k8 i9 k9; clear hb9)
          | (go_at_call 23; (with_reducible refine hse.mono ?_); rintro e V10 ⟨rfl, hb10⟩; have C10 := Lib.hid (C9.out.trans (hb10.mono C9.out.size)); have haw := awake_c V10; clear hb10)
          | (go_at_call 14; (with_reducible refine haw.mono ?_); rintro e V11 ⟨rfl, hb11⟩; have C11 := Lib.hid (C10.out.trans (hb11.mono C10.out.size)); skip; clear hb11))
      go_wp2_with fail
      go_ret
      exact ⟨rfl, HB0.out.trans (C11.out.mono HB0.out.size)⟩
end Go.Proofs.Ytdijpoemimebmaa.Rn
