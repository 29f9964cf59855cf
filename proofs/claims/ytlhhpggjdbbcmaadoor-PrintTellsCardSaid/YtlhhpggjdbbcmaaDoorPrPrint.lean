/-
  THE TEXT OF A MANIFEST: Print.
-/
import Derived.Test.YtlhhpggjdbbcmaaDoorPrEds
import Derived.Test.YtlhhpggjdbbcmaaDoorPrEdge
import Derived.StillTailTactics
namespace Go.Proofs.YtlhhpggjdbbcmaaDoor.Pr
open Go.RowKit Go.Proofs.YtlhhpggjdbbcmaaDoor Go.Proofs.YtlhhpggjdbbcmaaDoor.Df

/-- what is told: the text, the error -/
def printO (L : List Ed) (D : List Bs) : Bs × Int := if rightM L D = false then ([], 1) else if 16384 < (printT L D).length then ([], 3) else (printT L D, 0)

theorem below_drew (b : Nat) (w : World) : Below b w w.drew := ⟨rfl, rfl, rfl, Nat.le_refl _, fun _ _ => rfl⟩
theorem itoa_s (n : Nat) (hn : n < 30) (w : World) : Calls Tryd.prog 12 #[.int .i64 n] w fun e w' => e = .returned (.string (mk (digT n))) ∧ w' = w :=
  (itoa_c n hn w).mono fun _ _ ⟨h1, h2⟩ => ⟨h1, h2.symm⟩

theorem sht_cases {w0 w : World} {b : Nat} {T : Bs} (h : Sht w0 b T w) : (w.cell? ⟨b, 1 + 1, none⟩ = some (.bool true) ∧ 16384 < T.length) ∨ (w.cell? ⟨b, 1 + 1, none⟩ = some (.bool false) ∧ T.length ≤ 16384 ∧ Calls Tryd.prog 15 #[.pointer (some ⟨b, 0, none⟩)] w fun e w' => e = .returned (.string (mk T)) ∧ Below w0.heap.size w w') := by
  obtain ⟨⟨p, l, g, h1, h2, h3⟩, h4⟩ := h
  rcases h3 with ⟨rfl, rfl, h⟩ | ⟨rfl, h, _⟩
  · exact .inr ⟨h2.cell2, h, shString_c h2⟩
  · exact .inl ⟨h2.cell2, h⟩

set_option maxRecDepth 100000 in
set_option maxHeartbeats 16000000 in
theorem print_c {w : World} {u0 u1 : Value} {L : List Ed} {D : List Bs} (hL : Eds w u0 L) (hD : Strs w u1 D) (hl : L.length ≤ 30) (hd : D.length ≤ 20) (hx : ∀ x ∈ L, Sm x) (hy : ∀ x ∈ D, x.length ≤ 200) :
    Calls Tryd.prog 5 #[.agg #[u0, u1]] w fun x w' => x = .returned (.tuple #[.string (mk (printO L D).1), .int .i64 (printO L D).2]) ∧ Below w.heap.size w w' := by
  have mixed : Tryd.prog.follows .mixedOrders = true := by kernel_rfl
  have hA := below_alloc w (.cells #[u0, u1] 32)
  obtain ⟨wB, hwB⟩ : ∃ wB, w.alloc (.cells #[u0, u1] 32) = wB := ⟨_, rfl⟩
  have hQ : wB.heap[w.heap.size]? = some (.cells #[u0, u1] 32 (0, 0)) := by rw [← hwB]; exact heap_alloc_new w _
  rw [hwB] at hA
  have hc := rightM_c (hL.below hA) (hD.below hA) hl hd hx hy
  have HL := Lib.hid hL
  have HD := Lib.hid hD
  have HX := Lib.hid hx
  have HY := Lib.hid hy
  have HA := Lib.hid hA
  have HQ := Lib.hid hQ
  obtain ⟨a0, k0, rfl, -, -⟩ := id hL
  obtain ⟨a1, k1, rfl, -, -⟩ := id hD
  obtain ⟨c0, c1⟩ : wB.cell? ⟨w.heap.size, 0, none⟩ = some (.slice a0 L.length k0) ∧ wB.cell? ⟨w.heap.size, 1, none⟩ = some (.slice a1 D.length k1) := by
    simp [World.cell?, hQ]
  obtain ⟨P, hP⟩ : ∃ P, printO L D = P := ⟨_, rfl⟩
  have HP := Lib.hid hP
  rw [hP]
  obtain ⟨z, hz⟩ : ∃ z, rightM L D = z := ⟨_, rfl⟩
  have HZ := Lib.hid hz
  rw [hz] at hc
  have HWB := Lib.hid hwB
  clear hL hD hx hy hA hQ hP hz hwB
  cases z with
  | false =>
    have hp : P = ([], 1) := by rw [← HP.out]; unfold printO; rw [if_pos HZ.out]
    subst hp
    go_enter Tryd.func5, Tryd.ntmps5
    go_upto_region 1 with fail
    rw [HWB.out]
    go_wp2_with fail
    refine hc.mono ?_
    rintro x w1 ⟨rfl, hb1⟩
    have HB1 := Lib.hid (HA.out.trans (hb1.mono HA.out.size))
    clear hb1 hc
    go_wp2_with fail
    go_ret2
    exact ⟨rfl, HB1.out⟩
  | true =>
  have hp : P = if 16384 < (printT L D).length then ([], 3) else (printT L D, 0) := by rw [← HP.out]; unfold printO; rw [if_neg (by rw [HZ.out]; simp)]
  have HPP := Lib.hid hp
  clear hp HP HZ
  go_enter Tryd.func5, Tryd.ntmps5
  go_upto_region 1 with fail
  rw [HWB.out]
  go_upto_region 3 with (refine hc.mono ?_; rintro x w1 ⟨rfl, hb1⟩)
  clear c0 c1
  have HB1 := Lib.hid (HA.out.trans (hb1.mono HA.out.size))
  have hQ1 : w1.heap[w.heap.size]? = some (.cells #[.slice a0 L.length k0, .slice a1 D.length k1] 32 (0, 0)) := (hb1.block _ (lt_some HQ.out)).trans HQ.out
  have HQ1 := Lib.hid hQ1
  have HL1 := Lib.hid (HL.out.below HB1.out)
  have HD1 := Lib.hid (HD.out.below HB1.out)
  have HS1 := Lib.hid (sht_new w1)
  clear hb1 hc hQ1 HA HQ HL HD
  obtain ⟨wS, hwS⟩ : ∃ wS, w1.alloc (.cells #[.pointer none, .slice none 0 0, .bool false] 44) = wS := ⟨_, rfl⟩
  rw [hwS] at HS1
  have HWS := Lib.hid hwS
  clear hwS
  have hq1 : w.heap.size < w1.heap.size := lt_some HQ1.out
  have hQS : ∀ W T, Sht w1 w1.heap.size T W → W.cell? ⟨w.heap.size, 0, none⟩ = some (.slice a0 L.length k0) ∧ W.cell? ⟨w.heap.size, 1, none⟩ = some (.slice a1 D.length k1) := fun W T h => by
    have h1 := (h.bel.block _ hq1).trans HQ1.out
    constructor <;> (rw [Lib.cell_of_heap h1]; rfl)
  have HQS := Lib.hid hQS
  obtain ⟨d0, d1⟩ := hQS _ _ HS1.out
  clear hQS
  go_upto_region 4 with fail
  rw [HWS.out]
  go_wp2_with fail
  clear d0 d1
  go_loopw [5, 6, 13] (fun _ _ i wr => ∃ j : Nat, j ≤ L.length ∧ i = .int .i64 j ∧ Hid (Sht w1 w1.heap.size (edgesT 0 (L.take j)) wr)) (fun _ _ i _ => L.length - (intOf i).toNat)
  case atStart => exact ⟨0, Nat.zero_le _, rfl, by simpa [edgesT] using HS1⟩
  case round =>
    obtain ⟨j, hj, rfl, HS⟩ := hrel
    by_cases hlt : j < L.length
    · have hxj := List.getElem?_eq_getElem hlt
      have hsm := HX.out _ (List.getElem_mem hlt)
      have het := edgesT_take hxj
      generalize L[j] = x at *
      obtain ⟨g, off, c2, v0, v1, v2, v3, e, hg, hE, c0, c1, c2', c3, c4, c5⟩ := (HL1.out.below HS.out.bel).at hxj
      cases e
      obtain ⟨g', off', cc, x0, x1, x2, x3, e', hg', hE', e0, e1, e2, e3, -, -⟩ := HL1.out.at hxj
      cases e'
      have hbk := HS.out.bel.block g hg'
      obtain rfl : x0 = v0 := Option.some.inj (e0.symm.trans ((cell_of_block hbk).symm.trans c0))
      obtain rfl : x1 = v1 := Option.some.inj (e1.symm.trans ((cell_of_block hbk).symm.trans c1))
      obtain rfl : x2 = v2 := Option.some.inj (e2.symm.trans ((cell_of_block hbk).symm.trans c2'))
      obtain rfl : x3 = v3 := Option.some.inj (e3.symm.trans ((cell_of_block hbk).symm.trans c3))
      have HE := Lib.hid hE'
      have HSM := Lib.hid hsm
      have HET := Lib.hid het
      obtain ⟨y0, z0, y1, z1, y2, z2, y3, z3, rfl, rfl, rfl, rfl⟩ := hE'.sl
      have hi0 : (0 : Int) ≤ (j : Int) := by omega
      have hi1 : (j : Int) < (L.length : Int) := by omega
      have hAE := below_alloc wr (.cells #[.slice y0 x.outs.length z0, .slice y1 x.ins.length z1, .slice y2 x.imp.length z2, .slice y3 x.ord.length z3, .string (mk x.cmd), .string (mk x.dep)] 45)
      obtain ⟨f0, f1, f2, f3, f4, f5⟩ := box6 (w := wr) (v0 := .slice y0 x.outs.length z0) (v1 := .slice y1 x.ins.length z1) (v2 := .slice y2 x.imp.length z2) (v3 := .slice y3 x.ord.length z3) (v4 := .string (mk x.cmd)) (v5 := .string (mk x.dep)) (t := 45)
      obtain ⟨wE, hwE⟩ : ∃ wE, wr.alloc (.cells #[.slice y0 x.outs.length z0, .slice y1 x.ins.length z1, .slice y2 x.imp.length z2, .slice y3 x.ord.length z3, .string (mk x.cmd), .string (mk x.dep)] 45) = wE := ⟨_, rfl⟩
      rw [hwE] at hAE f0 f1 f2 f3 f4 f5
      have HSE := Lib.hid (HS.out.keep hAE)
      have HWE := Lib.hid hwE
      have HF := Lib.hid (And.intro f0 (And.intro f1 (And.intro f2 (And.intro f3 (And.intro f4 f5)))))
      clear hwE hAE f0 f1 f2 f3 f4 f5 e0 e1 e2 e3 hbk hE hE' hg hg' hxj hsm het
      go_upto_region 7 with fail
      rw [HWE.out]
      have f0 := HF.out.1
      have f1 := HF.out.2.1
      have f2 := HF.out.2.2.1
      have f3 := HF.out.2.2.2.1
      have f4 := HF.out.2.2.2.2.1
      have f5 := HF.out.2.2.2.2.2
      have t0 : wE.drew.cell? ⟨wr.heap.size, 0, none⟩ = _ := f0
      have t1 : wE.drew.cell? ⟨wr.heap.size, 1, none⟩ = _ := f1
      have t2 : wE.drew.cell? ⟨wr.heap.size, 2, none⟩ = _ := f2
      have t3 : wE.drew.cell? ⟨wr.heap.size, 3, none⟩ = _ := f3
      have t4 : wE.drew.cell? ⟨wr.heap.size, 4, none⟩ = _ := f4
      have t5 : wE.drew.cell? ⟨wr.heap.size, 5, none⟩ = _ := f5
      have hdl := digT_len j
      have hzd := mk_size (digT j)
      have hcat : (⟨#[114]⟩ : ByteArray) ++ mk (digT j) = mk (ruleT j) := mk_append [114] (digT j)
      have hI := itoa_s j (by omega) wE.drew
      have hS2 : Sht w1 w1.heap.size (edgesT 0 (L.take j)) wE.drew := HSE.out.keep (below_drew _ _)
      have hadd := addEdge_c (r := ruleT j) hS2 (by have := ruleT_len j; omega) HSM.out HE.out.o HE.out.i HE.out.m HE.out.r
      generalize digT j = dj at *
      have hn9 : ¬ 9223372036854775807 < 1 + dj.length := by omega
      clear f0 f1 f2 f3 f4 f5 hS2
      refine wp_region_still_tail 4 mixed (by kernel_rfl) ?_
      simp only [List.take_succ_cons, List.take_zero, List.drop_succ_cons, List.drop_zero]
      still_step
      still_call hI
      still_step
      still_step
      refine wpStill_nil ?_
      change wpList _ _ _ _ _ wE.drew
      clear t0 t1 t2 t3 t4 t5 hI
      go_wp2_with fail
      refine hadd.mono ?_
      rintro e w2 ⟨⟨z, rfl⟩, h2, ho2⟩
      have H2 := Lib.hid (show Sht w1 w1.heap.size (edgesT 0 (L.take (j + 1))) w2 by rw [HET.out]; exact h2)
      clear hadd h2 ho2
      go_wp2_with fail
      go_roundw
      case rel => exact ⟨j + 1, by omega, by go_num, H2⟩
      case measure => simp [intOf] <;> omega
    · obtain rfl : j = L.length := by omega
      rw [List.take_length] at HS
      have fin : ∀ (T : Bs) (W : World), T = printT L D → Hid (Sht w1 w1.heap.size T W) → Hid (P = if 16384 < T.length then ([], 3) else (T, 0)) := fun T W h _ => Lib.hid (by rw [h]; exact HPP.out)
      obtain ⟨d0, d1⟩ := HQS.out _ _ HS.out
      by_cases hD : D = []
      · have hT : edgesT 0 L = printT L D := by unfold printT defT; rw [if_pos hD, List.append_nil]
        have HP := fin _ _ hT HS
        have hd0 : D.length = 0 := by rw [hD]; rfl
        rw [hd0] at d1
        clear hT hD fin HPP
        rcases sht_cases HS.out with ⟨m, hlen⟩ | ⟨m, hlen, hstr⟩
        · have hp : P = ([], 3) := by rw [HP.out, if_pos hlen]
          subst hp
          go_wp2_with fail
          go_ret2
          exact ⟨rfl, HB1.out.trans (HS.out.bel.mono HB1.out.size)⟩
        · have hp : P = (edgesT 0 L, 0) := by rw [HP.out, if_neg (by omega)]
          subst hp
          go_wp2_with fail
          refine hstr.mono ?_
          rintro e w2 ⟨rfl, hb2⟩
          have HB2 := Lib.hid ((HB1.out.trans (HS.out.bel.mono HB1.out.size)).trans (hb2.mono HB1.out.size))
          clear hstr hb2
          go_wp2_with fail
          go_ret2
          exact ⟨rfl, HB2.out⟩
      · have hdp : 0 < D.length := List.length_pos_iff.2 hD
        have hdefT : edgesT 0 L ++ [100, 101, 102, 97, 117, 108, 116] ++ rowT D ++ [10] = printT L D := by
          unfold printT defT
          rw [if_neg hD]
          simp only [List.append_assoc]
        have HDT := Lib.hid hdefT
        have hadd := add1_c [100, 101, 102, 97, 117, 108, 116] HS.out (by decide)
        generalize hn0 : D.length = n0 at *
        have e1 : (0 : Int) < (n0 : Int) := by omega
        have HN0 := Lib.hid hn0
        clear hD hdefT hn0
        go_wp2_with fail
        refine hadd.mono ?_
        rintro e w2 ⟨⟨z, rfl⟩, h2, ho2⟩
        have H2 := Lib.hid h2
        have hnm := addNames_c h2 HD1.out (by have := HN0.out; omega) HY.out
        obtain ⟨d2, d3⟩ := HQS.out _ _ h2
        clear hadd h2 ho2 d0 d1
        go_wp2_with fail
        refine hnm.mono ?_
        rintro e w3 ⟨⟨z, rfl⟩, h3, ho3⟩
        have hadd := add1_c [10] h3 (by decide)
        clear hnm h3 ho3 d2 d3
        go_wp2_with fail
        refine hadd.mono ?_
        rintro e w4 ⟨⟨z, rfl⟩, h4, ho4⟩
        have H4 := Lib.hid (show Sht w1 w1.heap.size (printT L D) w4 by rw [← HDT.out]; exact h4)
        clear hadd h4 ho4
        have HP := HPP.out
        clear fin HPP
        rcases sht_cases H4.out with ⟨m, hlen⟩ | ⟨m, hlen, hstr⟩
        · have hp : P = ([], 3) := by rw [HP, if_pos hlen]
          subst hp
          clear HP
          go_wp2_with fail
          go_ret2
          exact ⟨rfl, HB1.out.trans (H4.out.bel.mono HB1.out.size)⟩
        · have hp : P = (printT L D, 0) := by rw [HP, if_neg (by omega)]
          subst hp
          clear HP
          go_wp2_with fail
          refine hstr.mono ?_
          rintro e w5 ⟨rfl, hb2⟩
          have HB2 := Lib.hid ((HB1.out.trans (H4.out.bel.mono HB1.out.size)).trans (hb2.mono HB1.out.size))
          clear hstr hb2
          go_wp2_with fail
          go_ret2
          exact ⟨rfl, HB2.out⟩
end Go.Proofs.YtlhhpggjdbbcmaaDoor.Pr
