/-
  THE LAW RunsLast, WALKED.
-/
import Derived.Test.YtmhmoaokmfplpaaLastA
import Derived.Test.YtmhmoaokmfplpaaRnAwake
import Derived.Test.YtmhmoaokmfplpaaRefWr
namespace Go.Proofs.Ytmhmoaokmfplpaa.Rn
open Go.RowKit
open Go.Proofs.Ytmhmoaokmfplpaa.Cr

set_option maxRecDepth 100000 in
set_option maxHeartbeats 8000000 in
theorem last_main {w : World} {v : Value} {L : List Run} {r : Run} {vi vf : Value} (h : RunRow w v L) (hi : InRow w vi r.ins) (hf : FdRow w vf r.found) (hall : allB L = true) (hsm : lightB r = true) :
    Calls Try.prog 9 #[v, .agg (runC r vi vf)] w fun e w' => e = .returned (.bool true) ∧ Below w.heap.size w w' := by
  obtain ⟨hl60, hlight⟩ := all_of hall
  obtain ⟨W0, hW0⟩ : ∃ W, w.alloc (.cells (runC r vi vf) 25) = W := ⟨_, rfl⟩
  have hB0 : Below w.heap.size w W0 := by rw [← hW0]; exact Pk.below_alloc _ _
  have x0 : XA w W0 r vi vf (.slice Option.none 0 0) [] := ⟨World.ownsRow_nil _ _ _ _, by simp, by rw [← hW0]; exact heap_alloc_new _ _, hB0⟩
  have cA := all_c (h.below hB0) (by omega)
  rw [hall] at cA
  have HH := Lib.hid h
  have HI := Lib.hid hi
  have HF := Lib.hid hf
  have HLT := Lib.hid hlight
  have HSM := Lib.hid hsm
  obtain ⟨-, -, l3, l4, -⟩ := light_parts hsm
  obtain ⟨a, c, rfl, hnil, hle, hrow⟩ := h.at
  have HROW := Lib.hid hrow
  have hvi : ∃ a n c, vi = .slice a n c := by obtain ⟨a, c, e, _⟩ := hi; exact ⟨a, _, c, e⟩
  have hvf : ∃ a n c, vf = .slice a n c := by obtain ⟨a, c, e, _⟩ := hf; exact ⟨a, _, c, e⟩
  obtain ⟨ra, rn, rc, rfl⟩ := hvi
  obtain ⟨fa, fn, fc, rfl⟩ := hvf
  have X0 := Lib.hid x0
  obtain ⟨⟨d0, d1, d2, d3, d4, d5⟩, -⟩ := six_cells x0.bx
  unfold runC at hW0 ⊢
  clear h hi hf hall hlight hsm hrow hnil x0 hB0
  go_enter Try.func9, Try.ntmps9
  go_wp2_with fail
  refine cA.mono ?_
  rintro e w1 ⟨rfl, hb1⟩
  have X1 := Lib.hid (X0.out.next hb1)
  have cL := light_c (HI.out.below X1.out.bel) (HF.out.below X1.out.bel)
  rw [HSM.out] at cL
  unfold runC at cL
  clear cA hb1 hW0 d0 d1 d2 d3 d4 d5 X0
  obtain ⟨⟨d0, d1, d2, d3, d4, d5⟩, -⟩ := six_cells X1.out.bx
  go_wp2_with fail
  refine cL.mono ?_
  rintro e w2 ⟨rfl, hb2⟩
  have X2 := Lib.hid (X1.out.next hb2)
  clear cL hb2 d0 d1 d2 d3 d4 d5 X1
  go_wp2_with fail
  obtain ⟨i0, hti, hz0, hz1, hz2⟩ := info_parts infoR
  go_loopw [5, 6, 7] (fun v5 v6 i wr => ∃ j : Nat, j ≤ L.length ∧ i = .int .i64 j ∧ (∃ b : Bool, v6 = .bool b ∧ Hid (b = (L.take j).any (fun x => decide (nmOf x = nmOf r)))) ∧ ∃ (a1 : Option Addr) (c1 : Nat) (G : List Gr), v5 = .slice a1 G.length c1 ∧ Hid (XA w wr r (.slice ra rn rc) (.slice fa fn fc) (.slice a1 G.length c1) G) ∧ Hid (G.map (·.1) = L.take j) ∧ Hid (G.length = j)) (fun _ _ i _ => L.length - (intOf i).toNat)
  case atStart => exact ⟨0, Nat.zero_le _, rfl, ⟨false, rfl, Lib.hid (by simp)⟩, Option.none, 0, [], rfl, X2, Lib.hid rfl, Lib.hid rfl⟩
  case round =>
    obtain ⟨j, hj, rfl, ⟨bm, rfl, hbm⟩, a1, c1, G, rfl, hX, hG, hGl⟩ := hrel
    clear X2
    by_cases hlt : j < L.length
    · have hx := List.getElem?_eq_getElem hlt
      have hlx := HLT.out _ (List.getElem_mem hlt)
      rcases HROW.out with h | ⟨b, off, rfl, hb, hcell⟩
      · rw [h] at hlt; simp at hlt
      obtain ⟨ai, ni, ci, af, nf, cf, hAt0⟩ := hcell j _ hx
      have hAt := hAt0.below hb hX.out.bel
      have hany : (L.take (j + 1)).any (fun x => decide (nmOf x = nmOf r)) = ((L.take j).any (fun x => decide (nmOf x = nmOf r)) || decide (nmOf L[j] = nmOf r)) := by
        rw [List.take_add_one, hx]
        generalize L[j] = y
        simp
      have htk : L.take (j + 1) = L.take j ++ [L[j]] := by
        rw [List.take_add_one, hx]
        generalize L[j] = y
        rfl
      generalize L[j] = x at *
      obtain ⟨-, -, x3, x4, -⟩ := light_parts hlx
      have hof := Oq.of_own (r := x) hAt.ins hAt.fds (by omega) (by omega)
      obtain ⟨k0, k1, k2, k3, k4, k5, -, -⟩ := hAt
      have hi0 : (0 : Int) ≤ (j : Int) := by omega
      have hi1 : (j : Int) < (L.length : Int) := by omega
      have HANY := Lib.hid hany
      have HTK := Lib.hid htk
      have HA0 := Lib.hid hAt0
      unfold runC at hof
      clear hany htk hAt0 hcell hx hlx
      go_wp2_with fail
      refine hof.mono ?_
      rintro e V5 ⟨ui, uf, rfl, ho1, ho2, hb5⟩
      obtain ⟨xa, xc, rfl⟩ := own_slice ho1
      obtain ⟨ya, yc, rfl⟩ := own_slice ho2
      have G5 := Lib.hid (hX.out.next hb5)
      have hge : GE w.heap.size V5 (x, .slice xa x.ins.length xc, .slice ya x.found.length yc) := ⟨owns_base ho1 hX.out.bel.size, owns_base ho2 hX.out.bel.size⟩
      have HGE := Lib.hid hge
      have hglen : G.length ≤ 60 := by have := hGl.out; omega
      have hml : G.length + 1 ≤ maxLen := by unfold maxLen; omega
      have hby : (G.length + 1) * 96 ≤ 140737488355328 := by omega
      have hoa : Hid (∀ ob, (V5.alloc ob).ownsRow w.heap.size 33 6 (.slice a1 G.length c1) G.length (runV G)) := Lib.hid fun ob => owns_below G5.out.own (Pk.below_alloc _ _)
      have hbs : Hid (∀ ob, w.heap.size ≤ (V5.alloc ob).heap.size) := Lib.hid fun ob => Nat.le_trans G5.out.bel.size (Pk.below_alloc V5 ob).size
      have HN := Lib.hid (run_newsD V5 x (.slice xa x.ins.length xc) (.slice ya x.found.length yc) rfl rfl)
      clear hof ho1 ho2 hb5 hge k0 k1 k2 k3 k4 k5 hX
      go_wp2_with (at_builtin; refine wpList_append_own _ rfl (.tmp 27) (.tmp 33) 47 rfl w.heap.size 33 i0 (.agg #[.string ⟨#[]⟩, .string ⟨#[]⟩, .int .i64 0, .int .i64 0, .slice Option.none 0 0, .slice Option.none 0 0]) 6 96 Try.underlying47 hti hz0 hz1 hz2 rfl (by decide) (.slice a1 G.length c1) G.length (runV G) rfl (hoa.out _) ⟨V5.heap.size, 0, Option.none⟩ 1 1 [.string x.out, .string x.cmd, .int .i64 x.time, .int .i64 x.mark, .slice xa x.ins.length xc, .slice ya x.found.length yc] rfl rfl HN.out.1 HN.out.2 hml hby (hbs.out _) ?_; intro vn W9 hown9 hg9 _; obtain ⟨va, vc, rfl⟩ := own_slice hown9; have X9 := Lib.hid (G5.out.snoc HGE.out hg9 hown9); clear hown9 hg9)
      have y0 := (HA0.out.below hb X9.out.bel).c0
      obtain ⟨⟨d0, d1, d2, d3, d4, d5⟩, -⟩ := six_cells X9.out.bx
      obtain ⟨G2, hG2⟩ : ∃ G2 : List Gr, G2 = G ++ [(x, .slice xa x.ins.length xc, .slice ya x.found.length yc)] := ⟨_, rfl⟩
      have hlen2 : G.length + 1 = G2.length := by rw [hG2, List.length_append]; rfl
      have hmap : G2.map (·.1) = L.take (j + 1) := by rw [HTK.out, hG2, List.map_append, hG.out]; rfl
      have XG : Hid (∀ q, XA w (W9.drewN q) r (.slice ra rn rc) (.slice fa fn fc) (.slice va G2.length vc) G2) := Lib.hid fun q => by
        rw [← hlen2, hG2]
        exact X9.out.next (below_drawn (Below.refl _ _) q)
      have LEN := Lib.hid hlen2
      have LJ : Hid (G2.length = j + 1) := Lib.hid (by rw [← hlen2, hGl.out])
      have HMAP := Lib.hid hmap
      clear hmap hoa hbs HN hml hby hlen2 hG2
      cases bm with
      | true =>
        go_quiet (fail)
        go_wp2_with fail
        go_roundw
        case rel => exact ⟨j + 1, by omega, by go_num, ⟨true, rfl, Lib.hid (by rw [HANY.out, ← hbm.out]; rfl)⟩, va, vc, G2, by rw [LEN.out], Lib.hid (XG.out _), HMAP, LJ⟩
        case measure => simp [intOf]; omega
      | false =>
        by_cases he : x.out = r.out
        · have t0 : (x.out.toList == r.out.toList) = true := by rw [he]; simp
          have HE := Lib.hid he
          clear he
          go_quiet (fail)
          go_wp2_with fail
          go_roundw
          case rel => exact ⟨j + 1, by omega, by go_num, ⟨true, rfl, Lib.hid (by rw [HANY.out, ← hbm.out]; simp [nmOf, HE.out])⟩, va, vc, G2, by rw [LEN.out], Lib.hid (XG.out _), HMAP, LJ⟩
          case measure => simp [intOf]; omega
        · have t0 : (x.out.toList == r.out.toList) = false := Pk.toList_ne he
          have HE := Lib.hid he
          clear he
          go_quiet (fail)
          go_wp2_with fail
          go_roundw
          case rel => exact ⟨j + 1, by omega, by go_num, ⟨false, rfl, Lib.hid (by rw [HANY.out, ← hbm.out]; simp only [nmOf, Bool.false_or]; exact (decide_eq_false fun e => HE.out (bsOf_inj e)).symm)⟩, va, vc, G2, by rw [LEN.out], Lib.hid (XG.out _), HMAP, LJ⟩
          case measure => simp [intOf]; omega
    · obtain rfl : j = L.length := by omega
      rw [List.take_length] at hG hbm
      have hfo := fold_c (L := L) (w := wr) (by have := hX.out.row; rw [hG.out] at this; exact this) (by omega) (fun x hx => thin_of (HLT.out x hx))
      go_wp2_with fail
      refine hfo.mono ?_
      rintro e V1 ⟨v1, G1, NS1, rfl, ho1, he1, hb1, n1, n2, n3, n4⟩
      have F1 := Lib.hid (fo_of n1 n2 n3 n4)
      obtain ⟨wa, wc, rfl⟩ := own_slice ho1
      have Y1 := Lib.hid (hX.out.next hb1)
      have hof := Oq.of_own (r := r) (HI.out.below Y1.out.bel) (HF.out.below Y1.out.bel) (by omega) (by omega)
      obtain ⟨⟨d0, d1, d2, d3, d4, d5⟩, -⟩ := six_cells Y1.out.bx
      unfold runC at hof
      clear hfo ho1 he1 hb1 n1 n2 n3 n4 hX
      go_wp2_with fail
      refine hof.mono ?_
      rintro e V2 ⟨ui, uf, rfl, ho1, ho2, hb2⟩
      obtain ⟨xa, xc, rfl⟩ := own_slice ho1
      obtain ⟨ya, yc, rfl⟩ := own_slice ho2
      have Y2 := Lib.hid (Y1.out.next hb2)
      have hge : GE w.heap.size V2 (r, .slice xa r.ins.length xc, .slice ya r.found.length yc) := ⟨owns_base ho1 Y1.out.bel.size, owns_base ho2 Y1.out.bel.size⟩
      have HGE := Lib.hid hge
      have hglen : G.length ≤ 60 := by have := hGl.out; omega
      have hml : G.length + 1 ≤ maxLen := by unfold maxLen; omega
      have hby : (G.length + 1) * 96 ≤ 140737488355328 := by omega
      have hoa : Hid (∀ ob, (V2.alloc ob).ownsRow w.heap.size 33 6 (.slice a1 G.length c1) G.length (runV G)) := Lib.hid fun ob => owns_below Y2.out.own (Pk.below_alloc _ _)
      have hbs : Hid (∀ ob, w.heap.size ≤ (V2.alloc ob).heap.size) := Lib.hid fun ob => Nat.le_trans Y2.out.bel.size (Pk.below_alloc V2 ob).size
      have HN := Lib.hid (run_newsD V2 r (.slice xa r.ins.length xc) (.slice ya r.found.length yc) rfl rfl)
      clear hof ho1 ho2 hb2 hge d0 d1 d2 d3 d4 d5
      go_wp2_with (at_builtin; refine wpList_append_own _ rfl (.tmp 48) (.tmp 51) 47 rfl w.heap.size 33 i0 (.agg #[.string ⟨#[]⟩, .string ⟨#[]⟩, .int .i64 0, .int .i64 0, .slice Option.none 0 0, .slice Option.none 0 0]) 6 96 Try.underlying47 hti hz0 hz1 hz2 rfl (by decide) (.slice a1 G.length c1) G.length (runV G) rfl (hoa.out _) ⟨V2.heap.size, 0, Option.none⟩ 1 1 [.string r.out, .string r.cmd, .int .i64 r.time, .int .i64 r.mark, .slice xa r.ins.length xc, .slice ya r.found.length yc] rfl rfl HN.out.1 HN.out.2 hml hby (hbs.out _) ?_; intro vn W9 hown9 hg9 _; obtain ⟨va, vc, rfl⟩ := own_slice hown9; have Y3 := Lib.hid (Y2.out.snoc HGE.out hg9 hown9); clear hown9 hg9)
      obtain ⟨Gx, hGx⟩ : ∃ G2 : List Gr, G2 = G ++ [(r, .slice xa r.ins.length xc, .slice ya r.found.length yc)] := ⟨_, rfl⟩
      have hrow2 : RunRow W9 (.slice va (G.length + 1) vc) (L ++ [r]) := by
        have h1 := Y3.out.row
        have e1 : (G ++ [(r, Value.slice xa r.ins.length xc, Value.slice ya r.found.length yc)]).map (·.1) = L ++ [r] := by rw [List.map_append, hG.out]; rfl
        rw [e1] at h1
        exact h1
      have hfo := fold_c hrow2 (by rw [List.length_append]; simp; omega) (fun x hx => by
        rcases List.mem_append.1 hx with hx | hx
        · exact thin_of (HLT.out x hx)
        · rw [List.mem_singleton.1 hx]; exact thin_of HSM.out)
      clear hrow2 hGx hoa hbs HN hml hby
      refine hfo.mono ?_
      rintro e V3 ⟨v2, G2, NS2, rfl, ho2, he2, hb3, n1, n2, n3, n4⟩
      have F2 := Lib.hid (fo_of n1 n2 n3 n4)
      obtain ⟨za, zc, rfl⟩ := own_slice ho2
      have hz : XA w V3 r (.slice ra rn rc) (.slice fa fn fc) (.slice za G2.length zc) G2 := ⟨owns_base ho2 Y3.out.bel.size, fun g hg => ⟨owns_base (he2 g hg).ins Y3.out.bel.size, owns_base (he2 g hg).fds Y3.out.bel.size⟩, (Y3.out.next hb3).bx, (Y3.out.next hb3).bel⟩
      have Z0 := Lib.hid hz
      have hle1 := fo_le F1.out
      have hle2 := fo_le F2.out
      have hfl := fo_len F1.out F2.out
      rw [List.length_map] at hle1 hle2
      rw [List.length_map, List.length_map] at hfl
      rw [List.length_append] at hle2
      simp only [List.length_cons, List.length_nil] at hle2
      have hg1 : G1.length ≤ 60 := by omega
      have hg2 : G2.length ≤ 61 := by omega
      have HFL := Lib.hid hfl
      clear hfo ho2 he2 hb3 n1 n2 n3 n4 hz hle1 hle2 hfl Y1 Y2 Y3 HGE hG hGl F1
      generalize L.any (fun x => decide (nmOf x = nmOf r)) = anyR at *
      cases bm with
      | true =>
        have hN : G2.length = G1.length := by rw [HFL.out, ← hbm.out]; rfl
        have tN : ((G2.length : Int) == (G1.length : Int)) = true := by rw [hN]; simp
        clear hN
        go_wp2_with fail
        go_loopw [11, 12] (fun v11 i wr => ∃ j : Nat, j ≤ G2.length ∧ i = .int .i64 j ∧ (∃ t : Nat, v11 = .int .i64 (t : Int) ∧ t ≤ j ∧ Hid (t = cnt r ((G2.map (·.1)).take j))) ∧ Hid (XA w wr r (.slice ra rn rc) (.slice fa fn fc) (.slice za G2.length zc) G2)) (fun _ i _ => G2.length - (intOf i).toNat)
        case atStart => exact ⟨0, Nat.zero_le _, rfl, ⟨0, rfl, Nat.le_refl _, Lib.hid (by simp [cnt])⟩, Z0⟩
        case round =>
          obtain ⟨j, hj, rfl, ⟨t, rfl, htj, ht⟩, hZ⟩ := hrel
          clear Z0
          by_cases hlt : j < G2.length
          · have hx := List.getElem?_eq_getElem hlt
            obtain ⟨a9, c9, e9, -, -, hc9⟩ := hZ.out.at
            cases e9
            rcases hc9 with h | ⟨g, rfl, hgl, hcell⟩
            · rw [h] at hlt; simp at hlt
            obtain ⟨ai, ni, ci, af, nf, cf, q1, q2, hAt⟩ := hcell j _ hx
            have hmem := List.mem_of_getElem? hx
            have hxm : (G2.map (·.1))[j]? = some (G2[j]).1 := by rw [List.getElem?_map, hx]; rfl
            generalize G2[j] = q at *
            obtain ⟨x, qi, qf⟩ := q
            have hcn := cnt_next (r := r) hxm
            have hxin : x ∈ G2.map (·.1) := List.mem_of_getElem? hxm
            have HCN := Lib.hid hcn
            have HXI := Lib.hid hxin
            have HAT := Lib.hid hAt
            obtain ⟨k0, k1, k2, k3, k4, k5, -, -⟩ := hAt
            have hi0 : (0 : Int) ≤ (j : Int) := by omega
            have hi1 : (j : Int) < (G2.length : Int) := by omega
            obtain ⟨⟨d0, d1, d2, d3, d4, d5⟩, -⟩ := six_cells hZ.out.bx
            clear hcell hx hmem hxm q1 q2 hcn hxin
            by_cases he : x.out = r.out
            · have t0 : (x.out.toList == r.out.toList) = true := by rw [he]; simp
              have HE := Lib.hid he
              clear he
              have hxr : x = r := fo_same F2.out HXI.out HE.out
              have HXR := Lib.hid hxr
              clear hxr
              go_wp2_with fail
              go_quiet (fail)
              go_wp2_with fail
              have Zq := Lib.hid (hZ.out.next (below_drawn (Below.refl wr.heap.size wr) nq))
              have Aq := Lib.hid (HAT.out.below hgl (below_drawn (Below.refl wr.heap.size wr) nq))
              have hglq : g < (wr.drewN nq).heap.size := hgl
              generalize wr.drewN nq = wq at *
              have hof := Oq.of_own (w := wq.drew) (r := r) (HI.out.below (below_drew Zq.out.bel)) (HF.out.below (below_drew Zq.out.bel)) (by omega) (by omega)
              obtain ⟨⟨d0, d1, d2, d3, d4, d5⟩, -⟩ := six_cells Zq.out.bx
              obtain ⟨k0, k1, k2, k3, k4, k5, -, -⟩ := Aq.out
              unfold runC at hof
              go_region_held3 (fun w' => (w'.cell? ⟨w.heap.size, 0, Option.none⟩ = some (.string r.out) ∧ w'.cell? ⟨w.heap.size, 1, Option.none⟩ = some (.string r.cmd) ∧ w'.cell? ⟨w.heap.size, 2, Option.none⟩ = some (.int .i64 r.time) ∧ w'.cell? ⟨w.heap.size, 3, Option.none⟩ = some (.int .i64 r.mark) ∧ w'.cell? ⟨w.heap.size, 4, Option.none⟩ = some (.slice ra rn rc) ∧ w'.cell? ⟨w.heap.size, 5, Option.none⟩ = some (.slice fa fn fc)) ∧
                  (w'.cell? ⟨g, j * 6, Option.none⟩ = some (.string x.out) ∧ w'.cell? ⟨g, j * 6 + 1, Option.none⟩ = some (.string x.cmd) ∧ w'.cell? ⟨g, j * 6 + 2, Option.none⟩ = some (.int .i64 x.time) ∧ w'.cell? ⟨g, j * 6 + 3, Option.none⟩ = some (.int .i64 x.mark) ∧ w'.cell? ⟨g, j * 6 + 4, Option.none⟩ = some (.slice ai ni ci) ∧ w'.cell? ⟨g, j * 6 + 5, Option.none⟩ = some (.slice af nf cf)))
                (first | exact ⟨⟨d0, d1, d2, d3, d4, d5⟩, ⟨k0, k1, k2, k3, k4, k5⟩⟩ | exact ⟨m8, ⟨j0, j1, j2, j3, j4, j5⟩⟩ | exact ⟨m9, ⟨i0', i1, i2, i3, i4, i5⟩⟩ | fail)
                (first
                  | (go_at_call 12; (with_reducible refine hof.mono ?_); rintro e V8 ⟨ui, uf, rfl, o1, o2, hb8⟩; obtain ⟨xa, xc, rfl⟩ := own_slice o1; obtain ⟨ya, yc, rfl⟩ := own_slice o2; have hb8' : Below wq.heap.size wq V8 := below_of_drew hb8; have Z8 := Lib.hid (Zq.out.next hb8'); have A8 := Lib.hid (Aq.out.below hglq hb8'); obtain ⟨m8, -⟩ := six_cells Z8.out.bx; obtain ⟨j0, j1, j2, j3, j4, j5, ji, jf⟩ := A8.out; have hsa := psame_c (r := x) (q := r) (by (rw [HXR.out]; omega)) (by (rw [HXR.out]; omega)) ji jf (inRow_of o1) (fdRow_of o2); rw [sameB_yes HXR.out] at hsa; have hgl8 := Nat.lt_of_lt_of_le hglq hb8'.size; unfold runC at hsa; clear hb8 hb8' o1 o2)
                  | (go_at_call 23; (with_reducible refine hsa.mono ?_); rintro e V9 ⟨rfl, hb9⟩; have Z9 := Lib.hid (Z8.out.next hb9); obtain ⟨m9, -⟩ := six_cells Z9.out.bx; obtain ⟨i0', i1, i2, i3, i4, i5, -, -⟩ := A8.out.below hgl8 hb9; clear hb9))
              go_wp2_with fail
              go_roundw
              case rel => exact ⟨j + 1, by omega, by go_num, ⟨t + 1, by go_num, by omega, Lib.hid (by rw [HCN.out, if_pos HE.out, ← ht.out])⟩, Z9⟩
              case measure => simp [intOf]; omega
            · have t0 : (x.out.toList == r.out.toList) = false := Pk.toList_ne he
              have HE := Lib.hid he
              clear he
              go_wp2_with fail
              go_quiet (fail)
              go_wp2_with fail
              go_roundw
              case rel => exact ⟨j + 1, by omega, by go_num, ⟨t, rfl, by omega, Lib.hid (by rw [HCN.out, if_neg HE.out, ← ht.out]; rfl)⟩, Lib.hid (hZ.out.next (below_drawn (Below.refl _ _) _))⟩
              case measure => simp [intOf]; omega
          · obtain rfl : j = G2.length := by omega
            have ht1 : t = 1 := by
              rw [ht.out, List.take_of_length_le (by simp)]
              exact cnt_all F2.out
            subst ht1
            have haw := awake_c wr
            go_wp2_with fail
            refine haw.mono ?_
            rintro e w10 ⟨rfl, hb10⟩
            have HB := Lib.hid (hZ.out.next hb10).bel
            clear haw hb10
            go_wp2_with fail
            go_ret
            exact ⟨rfl, HB.out⟩
      | false =>
        have hN : G2.length = G1.length + 1 := by rw [HFL.out, ← hbm.out]; rfl
        have tN : ((G2.length : Int) == (G1.length : Int) + 1) = true := by rw [hN]; simp
        clear hN
        go_wp2_with fail
        go_loopw [11, 12] (fun v11 i wr => ∃ j : Nat, j ≤ G2.length ∧ i = .int .i64 j ∧ (∃ t : Nat, v11 = .int .i64 (t : Int) ∧ t ≤ j ∧ Hid (t = cnt r ((G2.map (·.1)).take j))) ∧ Hid (XA w wr r (.slice ra rn rc) (.slice fa fn fc) (.slice za G2.length zc) G2)) (fun _ i _ => G2.length - (intOf i).toNat)
        case atStart => exact ⟨0, Nat.zero_le _, rfl, ⟨0, rfl, Nat.le_refl _, Lib.hid (by simp [cnt])⟩, Z0⟩
        case round =>
          obtain ⟨j, hj, rfl, ⟨t, rfl, htj, ht⟩, hZ⟩ := hrel
          clear Z0
          by_cases hlt : j < G2.length
          · have hx := List.getElem?_eq_getElem hlt
            obtain ⟨a9, c9, e9, -, -, hc9⟩ := hZ.out.at
            cases e9
            rcases hc9 with h | ⟨g, rfl, hgl, hcell⟩
            · rw [h] at hlt; simp at hlt
            obtain ⟨ai, ni, ci, af, nf, cf, q1, q2, hAt⟩ := hcell j _ hx
            have hmem := List.mem_of_getElem? hx
            have hxm : (G2.map (·.1))[j]? = some (G2[j]).1 := by rw [List.getElem?_map, hx]; rfl
            generalize G2[j] = q at *
            obtain ⟨x, qi, qf⟩ := q
            have hcn := cnt_next (r := r) hxm
            have hxin : x ∈ G2.map (·.1) := List.mem_of_getElem? hxm
            have HCN := Lib.hid hcn
            have HXI := Lib.hid hxin
            have HAT := Lib.hid hAt
            obtain ⟨k0, k1, k2, k3, k4, k5, -, -⟩ := hAt
            have hi0 : (0 : Int) ≤ (j : Int) := by omega
            have hi1 : (j : Int) < (G2.length : Int) := by omega
            obtain ⟨⟨d0, d1, d2, d3, d4, d5⟩, -⟩ := six_cells hZ.out.bx
            clear hcell hx hmem hxm q1 q2 hcn hxin
            by_cases he : x.out = r.out
            · have t0 : (x.out.toList == r.out.toList) = true := by rw [he]; simp
              have HE := Lib.hid he
              clear he
              have hxr : x = r := fo_same F2.out HXI.out HE.out
              have HXR := Lib.hid hxr
              clear hxr
              go_wp2_with fail
              go_quiet (fail)
              go_wp2_with fail
              have Zq := Lib.hid (hZ.out.next (below_drawn (Below.refl wr.heap.size wr) nq))
              have Aq := Lib.hid (HAT.out.below hgl (below_drawn (Below.refl wr.heap.size wr) nq))
              have hglq : g < (wr.drewN nq).heap.size := hgl
              generalize wr.drewN nq = wq at *
              have hof := Oq.of_own (w := wq.drew) (r := r) (HI.out.below (below_drew Zq.out.bel)) (HF.out.below (below_drew Zq.out.bel)) (by omega) (by omega)
              obtain ⟨⟨d0, d1, d2, d3, d4, d5⟩, -⟩ := six_cells Zq.out.bx
              obtain ⟨k0, k1, k2, k3, k4, k5, -, -⟩ := Aq.out
              unfold runC at hof
              go_region_held3 (fun w' => (w'.cell? ⟨w.heap.size, 0, Option.none⟩ = some (.string r.out) ∧ w'.cell? ⟨w.heap.size, 1, Option.none⟩ = some (.string r.cmd) ∧ w'.cell? ⟨w.heap.size, 2, Option.none⟩ = some (.int .i64 r.time) ∧ w'.cell? ⟨w.heap.size, 3, Option.none⟩ = some (.int .i64 r.mark) ∧ w'.cell? ⟨w.heap.size, 4, Option.none⟩ = some (.slice ra rn rc) ∧ w'.cell? ⟨w.heap.size, 5, Option.none⟩ = some (.slice fa fn fc)) ∧
                  (w'.cell? ⟨g, j * 6, Option.none⟩ = some (.string x.out) ∧ w'.cell? ⟨g, j * 6 + 1, Option.none⟩ = some (.string x.cmd) ∧ w'.cell? ⟨g, j * 6 + 2, Option.none⟩ = some (.int .i64 x.time) ∧ w'.cell? ⟨g, j * 6 + 3, Option.none⟩ = some (.int .i64 x.mark) ∧ w'.cell? ⟨g, j * 6 + 4, Option.none⟩ = some (.slice ai ni ci) ∧ w'.cell? ⟨g, j * 6 + 5, Option.none⟩ = some (.slice af nf cf)))
                (first | exact ⟨⟨d0, d1, d2, d3, d4, d5⟩, ⟨k0, k1, k2, k3, k4, k5⟩⟩ | exact ⟨m8, ⟨j0, j1, j2, j3, j4, j5⟩⟩ | exact ⟨m9, ⟨i0', i1, i2, i3, i4, i5⟩⟩ | fail)
                (first
                  | (go_at_call 12; (with_reducible refine hof.mono ?_); rintro e V8 ⟨ui, uf, rfl, o1, o2, hb8⟩; obtain ⟨xa, xc, rfl⟩ := own_slice o1; obtain ⟨ya, yc, rfl⟩ := own_slice o2; have hb8' : Below wq.heap.size wq V8 := below_of_drew hb8; have Z8 := Lib.hid (Zq.out.next hb8'); have A8 := Lib.hid (Aq.out.below hglq hb8'); obtain ⟨m8, -⟩ := six_cells Z8.out.bx; obtain ⟨j0, j1, j2, j3, j4, j5, ji, jf⟩ := A8.out; have hsa := psame_c (r := x) (q := r) (by (rw [HXR.out]; omega)) (by (rw [HXR.out]; omega)) ji jf (inRow_of o1) (fdRow_of o2); rw [sameB_yes HXR.out] at hsa; have hgl8 := Nat.lt_of_lt_of_le hglq hb8'.size; unfold runC at hsa; clear hb8 hb8' o1 o2)
                  | (go_at_call 23; (with_reducible refine hsa.mono ?_); rintro e V9 ⟨rfl, hb9⟩; have Z9 := Lib.hid (Z8.out.next hb9); obtain ⟨m9, -⟩ := six_cells Z9.out.bx; obtain ⟨i0', i1, i2, i3, i4, i5, -, -⟩ := A8.out.below hgl8 hb9; clear hb9))
              go_wp2_with fail
              go_roundw
              case rel => exact ⟨j + 1, by omega, by go_num, ⟨t + 1, by go_num, by omega, Lib.hid (by rw [HCN.out, if_pos HE.out, ← ht.out])⟩, Z9⟩
              case measure => simp [intOf]; omega
            · have t0 : (x.out.toList == r.out.toList) = false := Pk.toList_ne he
              have HE := Lib.hid he
              clear he
              go_wp2_with fail
              go_quiet (fail)
              go_wp2_with fail
              go_roundw
              case rel => exact ⟨j + 1, by omega, by go_num, ⟨t, rfl, by omega, Lib.hid (by rw [HCN.out, if_neg HE.out, ← ht.out]; rfl)⟩, Lib.hid (hZ.out.next (below_drawn (Below.refl _ _) _))⟩
              case measure => simp [intOf]; omega
          · obtain rfl : j = G2.length := by omega
            have ht1 : t = 1 := by
              rw [ht.out, List.take_of_length_le (by simp)]
              exact cnt_all F2.out
            subst ht1
            have haw := awake_c wr
            go_wp2_with fail
            refine haw.mono ?_
            rintro e w10 ⟨rfl, hb10⟩
            have HB := Lib.hid (hZ.out.next hb10).bel
            clear haw hb10
            go_wp2_with fail
            go_ret
            exact ⟨rfl, HB.out⟩
end Go.Proofs.Ytmhmoaokmfplpaa.Rn
