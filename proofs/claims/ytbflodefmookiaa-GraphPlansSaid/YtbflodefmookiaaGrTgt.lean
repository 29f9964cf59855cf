/-
  Targets: what is made, if nothing is told.
-/
import Derived.Test.YtbflodefmookiaaGrTgtR
import Derived.Test.YtbflodefmookiaaGrNeeded
import Derived.Test.YtbflodefmookiaaGrMaker
namespace Go.Proofs.Ytbflodefmookiaa.Gr
open Go.RowKit Go.Maps Go.Proofs.Ytbflodefmookiaa Go.Proofs.Ytbflodefmookiaa.Pr

set_option maxRecDepth 100000 in
set_option maxHeartbeats 32000000 in
theorem targets_c {w : World} {gp : Nat} {ve vd : Value} {m n : Nat} {L : List Ed} {D : List Bs} {mkr : Bs → Option Nat} (hG : Gph w gp ve vd m n L D mkr) (hDl : D.length ≤ 1000) :
    Calls Try.prog 25 #[.pointer (some ⟨gp, 0, none⟩)] w fun e w' => ∃ v, e = .returned v ∧ Strs w' v (tgt L D) ∧ Below w.heap.size w w' := by
  have hor := orNone_c (w := w) (ad := ⟨gp, 0, none⟩)
  obtain ⟨aD, kD, rfl, -, -⟩ := id hG.df
  have c1 : w.cell? ⟨gp, 1, none⟩ = some (.slice aD D.length kD) := by simp [World.cell?, hG.box]
  by_cases hd0 : D = []
  · have HT : Hid (tgt L D = (allOuts L).filter (free L)) := Lib.hid (by rw [tgt, if_pos hd0])
    have hdl : D.length = 0 := by rw [hd0]; rfl
    have hne := needed_c hG
    have hGL := hG.ed
    obtain ⟨aE, cE, rfl, -, -⟩ := id hG.ed
    have HG := Lib.hid hG
    rw [hdl] at c1 hG
    clear hG hd0 hGL
    go_enter Try.func25, Try.ntmps25
    go_wp2_with fail
    refine hor.mono ?_
    rintro e w1 ⟨rfl, rfl⟩
    clear hor
    go_wp2_with fail
    rw [hdl] at HG
    refine hne.mono ?_
    rintro e w1 ⟨mm, k, rfl, hN, hb⟩
    have HB1 := Lib.hid hb
    have HNS := Lib.hid hN
    have HG1 := Lib.hid (HG.out.below hb)
    have c0 : w1.cell? ⟨gp, 0, none⟩ = some (.slice aE L.length cE) := by simp [World.cell?, HG1.out.box]
    clear hne hN hb c1 HG
    go_wp2_with fail
    have HN0 : Hid (Nq w1 w1 gp #[.slice aE L.length cE, .slice aD 0 kD, .map (some m)] 70 (.slice none ([] : List Bs).length 0) []) := Lib.hid ⟨World.ownsRow_nil _ _ _ _, HG1.out.box, Below.refl _ _⟩
    clear c0
    go_loopw [4, 6, 8, 9, 10, 31] (fun v _ _ _ _ i W => ∃ (t : Nat) (va : Option Addr) (vc : Nat) (A : List Bs), t ≤ L.length ∧ i = .int .i64 t ∧ v = .slice va A.length vc ∧ Hid (A = (allOuts (L.take t)).filter (free L)) ∧ A.length ≤ 10 * t ∧ Hid (Nq w1 W gp #[.slice aE L.length cE, .slice aD 0 kD, .map (some m)] 70 (.slice va A.length vc) A)) (fun _ _ _ _ _ i _ => L.length - (intOf i).toNat)
    case atStart => exact ⟨0, _, _, [], Nat.zero_le _, rfl, rfl, Lib.hid rfl, by simp, HN0⟩
    case round =>
      clear HN0
      obtain ⟨t, va, vc, A, ht, rfl, rfl, HA, hAl, HQ⟩ := hrel
      by_cases hlt : t < L.length
      · have hx := List.getElem?_eq_getElem hlt
        have hsE := HG1.out.small _ (List.getElem_mem hlt)
        generalize L[t] = x at *
        have hol := hsE.o
        have HOX : Hid (∀ s ∈ x.outs, s.length ≤ 200) := Lib.hid hsE.xo
        obtain ⟨ge, off, ce, v0, v1, v2, v3, e1, hge, hE, r0, r1, r2, r3, r4, r5⟩ := HG1.out.ed.at hx
        cases e1
        have hbq := HQ.out.bel.block ge hge
        replace r0 := (cell_of_block hbq).trans r0
        replace r1 := (cell_of_block hbq).trans r1
        replace r2 := (cell_of_block hbq).trans r2
        replace r3 := (cell_of_block hbq).trans r3
        replace r4 := (cell_of_block hbq).trans r4
        replace r5 := (cell_of_block hbq).trans r5
        have hfw := HG1.out.few
        have hi0 : (0 : Int) ≤ (t : Int) := by omega
        have hi1 : (t : Int) < (L.length : Int) := by omega
        obtain ⟨y0, z0, y1, z1, y2, z2, y3, z3, rfl, rfl, rfl, rfl⟩ := hE.sl
        have hB6 := below_alloc wr (.cells #[.slice y0 x.outs.length z0, .slice y1 x.ins.length z1, .slice y2 x.imp.length z2, .slice y3 x.ord.length z3, .string (mk x.cmd), .string (mk x.dep)] 52)
        have hS6 := heap_alloc_new wr (.cells #[.slice y0 x.outs.length z0, .slice y1 x.ins.length z1, .slice y2 x.imp.length z2, .slice y3 x.ord.length z3, .string (mk x.cmd), .string (mk x.dep)] 52)
        obtain ⟨W6, hW6⟩ : ∃ W6, wr.alloc (.cells #[.slice y0 x.outs.length z0, .slice y1 x.ins.length z1, .slice y2 x.imp.length z2, .slice y3 x.ord.length z3, .string (mk x.cmd), .string (mk x.dep)] 52) = W6 := ⟨_, rfl⟩
        rw [hW6] at hB6 hS6
        have HW6 := Lib.hid hW6
        obtain ⟨q, hq⟩ : ∃ q, wr.heap.size = q := ⟨_, rfl⟩
        have hOS := hE.o
        have HQ6 := Lib.hid (HQ.out.below hB6)
        rw [hq] at hS6
        have d0 : W6.cell? ⟨q, 0, none⟩ = some (.slice y0 x.outs.length z0) := by rw [Lib.cell_of_heap hS6]; rfl
        have HX := Lib.hid hx
        have HOS := Lib.hid hOS
        clear hx hsE hE hB6 hS6 hW6 hOS HQ hge hbq
        go_upto_region 9 with fail
        rw [HW6.out]
        clear r0 r1 r2 r3 r4 r5 HW6
        go_wp2_with fail
        clear d0
        go_loopw [4, 8, 9, 10, 38] (fun v _ _ _ i W => ∃ (j : Nat) (va : Option Addr) (vc : Nat) (A2 : List Bs), j ≤ x.outs.length ∧ i = .int .i64 j ∧ v = .slice va A2.length vc ∧ Hid (A2 = A ++ (x.outs.take j).filter (free L)) ∧ A2.length ≤ 10 * t + j ∧ Hid (Nq w1 W gp #[.slice (some ⟨ge, off, none⟩) L.length cE, .slice aD 0 kD, .map (some m)] 70 (.slice va A2.length vc) A2)) (fun _ _ _ _ i _ => x.outs.length - (intOf i).toNat)
        case atStart => exact ⟨0, va, vc, A, Nat.zero_le _, rfl, rfl, Lib.hid (by simp), by omega, HQ6⟩
        case round =>
          clear HQ6
          obtain ⟨j, va, vc, A2, hj, rfl, rfl, HA2, hAl2, HQ⟩ := hrel
          by_cases hlj : j < x.outs.length
          · have hx2 := List.getElem?_eq_getElem hlj
            have hsl := HOX.out _ (List.getElem_mem hlj)
            have htk : x.outs.take (j + 1) = x.outs.take j ++ [x.outs[j]] := take1 hx2
            generalize x.outs[j] = s at *
            obtain ⟨_, _, eS, _, hSr⟩ := HOS.out.below HQ.out.bel
            cases eS
            rcases hSr with h | ⟨gS, oS, rfl, hgS, hcS⟩
            · rw [h] at hlj; simp at hlj
            have s0 := hcS j s hx2
            have hj0 : (0 : Int) ≤ (j : Int) := by omega
            have hj1 : (j : Int) < (x.outs.length : Int) := by omega
            have HTK := Lib.hid htk
            have hlk := (HNS.out.kept (HQ.out.bel.block _ HNS.out.lt)).look (s := s) (by unfold maxLen; omega)
            have hfr : decide (s ∈ L.flatMap needsL) = !(free L s) := by unfold free; rw [decide_not, Bool.not_not]
            rw [hfr] at hlk
            have hZ := below_alloc wr (.cells #[] 78)
            cases hf : free L s with
            | false =>
              rw [hf] at hlk
              have HA3 : Hid (A2 = A ++ (x.outs.take (j + 1)).filter (free L)) := Lib.hid (by rw [HTK.out, List.filter_append, HA2.out, List.filter_cons, hf]; simp)
              have HQ2 := Lib.hid (HQ.out.below hZ)
              clear hx2 htk hcS hgS hf hfr HQ hZ
              go_wp2_with fail
              go_roundw
              case rel => exact ⟨j + 1, va, vc, A2, by omega, by go_num, rfl, HA3, by omega, HQ2⟩
              case measure => simp [intOf] <;> omega
            | true =>
              rw [hf] at hlk
              have HA3 : Hid (A2 ++ [s] = A ++ (x.outs.take (j + 1)).filter (free L)) := Lib.hid (by rw [HTK.out, List.filter_append, HA2.out, List.filter_cons, hf]; simp)
              obtain ⟨WZ, hWZ⟩ : ∃ WZ, wr.alloc (.cells #[] 78) = WZ := ⟨_, rfl⟩
              have HWZ := Lib.hid hWZ
              rw [hWZ] at hZ
              have hA4 := below_alloc WZ (.cells #[.string (mk s)] 9)
              obtain ⟨a', c', W4, hrun, hQ4⟩ := nq_push (by decide) ((HQ.out.below hZ).below hA4) (heap_alloc_new WZ (.cells #[.string (mk s)] 9)) (by omega)
              have HQ4 := Lib.hid hQ4
              have HLN : Hid ((A2 ++ [s]).length = A2.length + 1) := Lib.hid (by simp)
              clear hx2 htk hcS hgS hf hfr hZ hA4 hQ4 HQ hWZ
              go_upto_region 14 with fail
              rw [HWZ.out]
              go_wp2_with (at_builtin; refine wpList_run rfl (.tmp 50) (.tmp 52) rfl rfl rfl hrun ?_)
              clear hrun
              go_roundw
              case rel => exact ⟨j + 1, a', c', A2 ++ [s], by omega, by go_num, by rw [HLN.out], HA3, by have := HLN.out; omega, HQ4⟩
              case measure => simp [intOf] <;> omega
          · obtain rfl : j = x.outs.length := by omega
            have HA3 : Hid (A2 = (allOuts (L.take (t + 1))).filter (free L)) := Lib.hid (by rw [HA2.out, HA.out, List.take_length, allOuts_take HX.out, List.filter_append])
            go_wp2_with fail
            go_roundw
            case rel => exact ⟨t + 1, va, vc, A2, by omega, by go_num, rfl, HA3, by omega, HQ⟩
            case measure => simp [intOf] <;> omega
      · obtain rfl : t = L.length := by omega
        have HA3 : Hid (A = (allOuts L).filter (free L)) := Lib.hid (by rw [HA.out, List.take_length])
        go_wp2_with fail
        go_ret
        exact ⟨_, rfl, by rw [HT.out, ← HA3.out]; exact (owns_strsT HQ.out.own).1, HB1.out.trans (HQ.out.bel.mono HB1.out.size)⟩
  · have HT : Hid (tgt L D = D) := Lib.hid (by rw [tgt, if_neg hd0])
    have hp : (0 : Int) < (D.length : Int) := by have := List.length_pos_iff.2 hd0; omega
    have hcl := clone_c hG.df (by omega)
    clear hd0 hG
    go_enter Try.func25, Try.ntmps25
    go_wp2_with fail
    refine hor.mono ?_
    rintro e w1 ⟨rfl, rfl⟩
    clear hor
    go_wp2_with fail
    refine hcl.mono ?_
    rintro e w1 ⟨a, c, rfl, hS, hb⟩
    go_wp2_with fail
    go_ret
    exact ⟨_, rfl, by rw [HT.out]; exact hS.1, hb⟩
end Go.Proofs.Ytbflodefmookiaa.Gr
