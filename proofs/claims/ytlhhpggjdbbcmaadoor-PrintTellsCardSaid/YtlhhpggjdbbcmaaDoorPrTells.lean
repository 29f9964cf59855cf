/-
  The law PrintTells, walked.
-/
import Derived.Test.YtlhhpggjdbbcmaaDoorPrRefP
namespace Go.Proofs.YtlhhpggjdbbcmaaDoor.Pr
open Go.RowKit Go.Proofs.YtlhhpggjdbbcmaaDoor Go.Proofs.YtlhhpggjdbbcmaaDoor.Df

/-- the chapter's example -/
def exE : Ed := ⟨[[97]], [[98]], [], [], [99], []⟩
def exT : Bs := [114, 117, 108, 101, 32, 114, 48, 10, 32, 32, 99, 111, 109, 109, 97, 110, 100, 32, 61, 32, 99, 10, 98, 117, 105, 108, 100, 32, 97, 58, 32, 114, 48, 32, 98, 10]
theorem ex_out : printO [exE] [] = (exT, 0) := by decide +kernel
theorem exSm : Sm exE := ⟨by decide, by decide, by decide, by decide, by decide, by decide, by decide, by decide, by decide, by decide⟩

set_option maxRecDepth 100000 in
set_option maxHeartbeats 8000000 in
theorem awake_c (w : World) : Calls Tryd.prog 9 #[] w fun e w' => e = .returned (.bool true) ∧ Below w.heap.size w w' := by
  have hA1 := below_alloc w (.cells #[.string (mk [97])] 9)
  have hb1 := heap_alloc_new w (.cells #[.string (mk [97])] 9)
  obtain ⟨w1, hw1⟩ : ∃ W, w.alloc (.cells #[.string (mk [97])] 9) = W := ⟨_, rfl⟩
  rw [hw1] at hA1 hb1
  have hA2 := below_alloc w1 (.cells #[.string (mk [98])] 9)
  have hb2 := heap_alloc_new w1 (.cells #[.string (mk [98])] 9)
  obtain ⟨w2, hw2⟩ : ∃ W, w1.alloc (.cells #[.string (mk [98])] 9) = W := ⟨_, rfl⟩
  rw [hw2] at hA2 hb2
  have hA3 := below_alloc w2 (.cells #[.slice (some ⟨w.heap.size, 0, none⟩) 1 1, .slice (some ⟨w1.heap.size, 0, none⟩) 1 1, .slice none 0 0, .slice none 0 0, .string (mk [99]), .string (mk [])] 45)
  have hb3 := heap_alloc_new w2 (.cells #[.slice (some ⟨w.heap.size, 0, none⟩) 1 1, .slice (some ⟨w1.heap.size, 0, none⟩) 1 1, .slice none 0 0, .slice none 0 0, .string (mk [99]), .string (mk [])] 45)
  obtain ⟨w3, hw3⟩ : ∃ W, w2.alloc (.cells #[.slice (some ⟨w.heap.size, 0, none⟩) 1 1, .slice (some ⟨w1.heap.size, 0, none⟩) 1 1, .slice none 0 0, .slice none 0 0, .string (mk [99]), .string (mk [])] 45) = W := ⟨_, rfl⟩
  rw [hw3] at hA3 hb3
  have hs1 : w1.heap.size = w.heap.size + 1 := by rw [← hw1]; simp
  have hs2 : w2.heap.size = w.heap.size + 1 + 1 := by rw [← hw2, World.alloc]; simp [hs1]
  have hB3 := hA1.trans ((hA2.trans (hA3.mono hA2.size)).mono hA1.size)
  have hn : ∀ (b : Nat) (x : Bs), w3.heap[b]? = some (.cells #[.string (mk x)] 9 (0, 0)) → Strs w3 (.slice (some ⟨b, 0, none⟩) 1 1) [x] := fun b x h => ⟨_, 1, rfl, Nat.le_refl _, .inr ⟨b, 0, rfl, lt_some h, fun j p hp => by
    have hj : j = 0 := by
      have := (List.getElem?_eq_some_iff.1 hp).1
      simp at this
      omega
    subst hj
    cases hp
    rw [Lib.cell_of_heap h]
    rfl⟩⟩
  have hE : Eds w3 (.slice (some ⟨w2.heap.size, 0, none⟩) 1 1) [exE] := ⟨_, 1, rfl, Nat.le_refl _, .inr ⟨w2.heap.size, 0, rfl, lt_some hb3, fun j e he => by
    have hj : j = 0 := by
      have := (List.getElem?_eq_some_iff.1 he).1
      simp at this
      omega
    subst hj
    cases he
    refine ⟨.slice (some ⟨w.heap.size, 0, none⟩) 1 1, .slice (some ⟨w1.heap.size, 0, none⟩) 1 1, .slice none 0 0, .slice none 0 0, ⟨hn _ _ ?_, hn _ _ ?_, ⟨_, _, rfl, Nat.le_refl _, .inl rfl⟩, ⟨_, _, rfl, Nat.le_refl _, .inl rfl⟩⟩, ?_, ?_, ?_, ?_, ?_, ?_⟩
    · exact (hA3.block _ (by omega)).trans ((hA2.block _ (by omega)).trans hb1)
    · exact (hA3.block _ (by omega)).trans hb2
    all_goals (rw [Lib.cell_of_heap hb3]; rfl)⟩⟩
  have hD : Strs w3 (.slice none 0 0) [] := ⟨_, _, rfl, Nat.le_refl _, .inl rfl⟩
  have hc := print_c hE hD (by decide) (by decide) (fun x hx => by simp at hx; subst hx; exact exSm) (fun x hx => by cases hx)
  rw [ex_out] at hc
  have hcmp : ((mk exT).toList == [114, 117, 108, 101, 32, 114, 48, 10, 32, 32, 99, 111, 109, 109, 97, 110, 100, 32, 61, 32, 99, 10, 98, 117, 105, 108, 100, 32, 97, 58, 32, 114, 48, 32, 98, 10]) = true := by rw [mk_toList]; rfl
  rw [hs1] at hw3
  rw [hs2] at hc
  dsimp only at hc
  rw [← hw3, ← hw2, ← hw1] at hc hB3
  have HB3 := Lib.hid hB3
  have HW1 := Lib.hid hw1
  have HW2 := Lib.hid hw2
  have HW3 := Lib.hid hw3
  generalize exT = tx at *
  clear hA1 hb1 hA2 hb2 hA3 hb3 hw1 hw2 hw3 hs1 hs2 hn hE hD hB3
  go_enter Tryd.func9, Tryd.ntmps9
  go_wp2_with fail
  refine hc.mono ?_
  rintro e w4 ⟨rfl, hb4⟩
  have HB4 := Lib.hid (HB3.out.trans (hb4.mono HB3.out.size))
  clear hc hb4
  go_wp2_with fail
  go_ret
  exact ⟨rfl, HB4.out⟩
set_option maxRecDepth 100000 in
set_option maxHeartbeats 16000000 in
theorem printTells_w {w : World} {u0 u1 : Value} {L : List Ed} {D : List Bs} (hL : Eds w u0 L) (hD : Strs w u1 D) :
    Calls Tryd.prog 3 #[.agg #[u0, u1]] w fun e w' => e = .returned (.bool true) ∧ Below w.heap.size w w' := by
  have hA := below_alloc w (.cells #[u0, u1] 25)
  obtain ⟨wB, hwB⟩ : ∃ wB, w.alloc (.cells #[u0, u1] 25) = wB := ⟨_, rfl⟩
  have hQ : wB.heap[w.heap.size]? = some (.cells #[u0, u1] 25 (0, 0)) := by rw [← hwB]; exact heap_alloc_new w _
  rw [hwB] at hA
  have hcell : ∀ W, Below wB.heap.size wB W → W.cell? ⟨w.heap.size, 0, none⟩ = some u0 ∧ W.cell? ⟨w.heap.size, 1, none⟩ = some u1 := fun W hW => by
    have h1 := (hW.block _ (lt_some hQ)).trans hQ
    constructor <;> (rw [Lib.cell_of_heap h1]; rfl)
  have HL := Lib.hid (hL.below hA)
  have HD := Lib.hid (hD.below hA)
  have HA := Lib.hid hA
  have HC := Lib.hid hcell
  obtain ⟨c0, c1⟩ := hcell _ (Below.refl _ _)
  have hfew := few_c (hL.below hA) (hD.below hA)
  obtain ⟨a0, k0, rfl, -, -⟩ := id hL
  obtain ⟨a1, k1, rfl, -, -⟩ := id hD
  have HWB := Lib.hid hwB
  obtain ⟨f, hf⟩ : ∃ f, fewM L D = f := ⟨_, rfl⟩
  rw [hf] at hfew
  have HF := Lib.hid hf
  clear hL hD hA hQ hcell hwB hf
  cases f with
  | false =>
    go_enter Tryd.func3, Tryd.ntmps3
    go_upto_region 1 with fail
    rw [HWB.out]
    go_wp2_with fail
    refine hfew.mono ?_
    rintro e w1 ⟨rfl, hb1⟩
    have HB1 := Lib.hid (HA.out.trans (hb1.mono HA.out.size))
    clear hfew hb1
    go_wp2_with fail
    go_ret
    exact ⟨rfl, HB1.out⟩
  | true =>
  obtain ⟨hl, hd, hy, hx⟩ := fewM_of HF.out
  have HX := Lib.hid hx
  have HY := Lib.hid hy
  have hlen := edgesT_len L 0 hx
  have hdl := defT_len hd hy
  have hTL : (printT L D).length ≤ 600000 := by
    unfold printT
    rw [List.length_append]
    omega
  clear hx hy hlen hdl
  obtain ⟨z, hz⟩ : ∃ z, rightM L D = z := ⟨_, rfl⟩
  obtain ⟨P, hP⟩ : ∃ P, printO L D = P := ⟨_, rfl⟩
  have hPP : P = if z = false then ([], 1) else if 16384 < (printT L D).length then ([], 3) else (printT L D, 0) := by rw [← hP, ← hz]; rfl
  have HOF : Hid (∀ W, Below wB.heap.size wB W → Calls Tryd.prog 6 #[.agg #[.slice a0 L.length k0, .slice a1 D.length k1]] W fun x w' => ∃ v d, x = .returned (.agg #[v, d]) ∧ Eds w' v L ∧ Strs w' d D ∧ Below W.heap.size W w') := Lib.hid fun W hW => of_c (HL.out.below hW) (HD.out.below hW) hl hd HX.out
  have HPR : Hid (∀ W v d, Eds W v L → Strs W d D → Calls Tryd.prog 5 #[.agg #[v, d]] W fun x w' => x = .returned (.tuple #[.string (mk P.1), .int .i64 P.2]) ∧ Below W.heap.size W w') := Lib.hid fun W v d h1 h2 => by
    have := print_c h1 h2 hl hd HX.out HY.out
    rw [hP] at this
    exact this
  have HRI : Hid (∀ W v d, Eds W v L → Strs W d D → Calls Tryd.prog 8 #[.agg #[v, d]] W fun x w' => x = .returned (.bool z) ∧ Below W.heap.size W w') := Lib.hid fun W v d h1 h2 => by
    have := rightM_c h1 h2 hl hd HX.out HY.out
    rw [hz] at this
    exact this
  have HRR : Hid (∀ W, Below wB.heap.size wB W → Calls Tryd.prog 7 #[.agg #[.slice a0 L.length k0, .slice a1 D.length k1]] W fun x w' => x = .returned (.bool z) ∧ Below W.heap.size W w') := Lib.hid fun W hW => by
    have := refRightM_c (HL.out.below hW) (HD.out.below hW) hl hd HX.out HY.out
    rw [hz] at this
    exact this
  obtain ⟨T, hT⟩ : ∃ T, printT L D = T := ⟨_, rfl⟩
  have HRP : Hid (∀ W, Below wB.heap.size wB W → Calls Tryd.prog 10 #[.agg #[.slice a0 L.length k0, .slice a1 D.length k1]] W fun x w' => x = .returned (.string (mk T)) ∧ Below W.heap.size W w') := Lib.hid fun W hW => by
    have := refPrint_c (HL.out.below hW) (HD.out.below hW) hl hd HX.out HY.out
    rw [hT] at this
    exact this
  rw [hT] at hPP hTL
  have HPP := Lib.hid hPP
  clear hP hz hT hPP
  go_enter Tryd.func3, Tryd.ntmps3
  go_upto_region 1 with fail
  rw [HWB.out]
  go_wp2_with fail
  refine hfew.mono ?_
  rintro e w1 ⟨rfl, hb1⟩
  have HB1 := Lib.hid hb1
  clear hfew hb1 c0 c1
  obtain ⟨c0, c1⟩ := HC.out _ HB1.out
  go_wp2_with fail
  refine (HOF.out _ HB1.out).mono ?_
  rintro e w2 ⟨v2, d2, rfl, hv2, hd2, hb2⟩
  have HB2 := Lib.hid (HB1.out.trans (hb2.mono HB1.out.size))
  have hpr := HPR.out w2 v2 d2 hv2 hd2
  obtain ⟨va, vc, rfl, -, -⟩ := id hv2
  obtain ⟨da, dc, rfl, -, -⟩ := id hd2
  clear hv2 hd2 hb2 c0 c1
  obtain ⟨c0, c1⟩ := HC.out _ HB2.out
  go_wp2_with fail
  refine hpr.mono ?_
  rintro e w3 ⟨rfl, hb3⟩
  have HB3 := Lib.hid (HB2.out.trans (hb3.mono HB2.out.size))
  clear hpr hb3 c0 c1
  obtain ⟨c0, c1⟩ := HC.out _ HB3.out
  have hm0 : (mk ([] : Bs)).toList.isEmpty = true := by rw [mk_toList]; rfl
  have hm1 : ((mk ([] : Bs)).toList == []) = true := by rw [mk_toList]; rfl
  cases z with
  | false =>
    have hp : P = ([], 1) := HPP.out
    subst hp
    go_wp2_with fail
    refine (HRR.out _ HB3.out).mono ?_
    rintro e w4 ⟨rfl, hb4⟩
    have HB4 := Lib.hid (HB3.out.trans (hb4.mono HB3.out.size))
    clear hb4 c0 c1
    obtain ⟨c0, c1⟩ := HC.out _ HB4.out
    go_wp2_with fail
    refine (HOF.out _ HB4.out).mono ?_
    rintro e w5 ⟨v5, d5, rfl, hv5, hd5, hb5⟩
    have HB5 := Lib.hid (HB4.out.trans (hb5.mono HB4.out.size))
    have hri := HRI.out w5 v5 d5 hv5 hd5
    obtain ⟨ea, ex, rfl, -, -⟩ := id hv5
    obtain ⟨fa, fx, rfl, -, -⟩ := id hd5
    clear hv5 hd5 hb5
    go_wp2_with fail
    refine hri.mono ?_
    rintro e w6 ⟨rfl, hb6⟩
    have HB6 := Lib.hid (HB5.out.trans (hb6.mono HB5.out.size))
    clear hri hb6
    go_wp2_with fail
    refine (awake_c _).mono ?_
    rintro e w7 ⟨rfl, hb7⟩
    have HB7 := Lib.hid (HB6.out.trans (hb7.mono HB6.out.size))
    clear hb7
    go_wp2_with fail
    go_ret
    exact ⟨rfl, HA.out.trans (HB7.out.mono HA.out.size)⟩
  | true =>
    have hp : P = if 16384 < T.length then ([], 3) else (T, 0) := HPP.out
    have HP2 := Lib.hid hp
    clear hp
    go_wp2_with fail
    refine (HRR.out _ HB3.out).mono ?_
    rintro e w4 ⟨rfl, hb4⟩
    have HB4 := Lib.hid (HB3.out.trans (hb4.mono HB3.out.size))
    clear hb4 c0 c1
    obtain ⟨c0, c1⟩ := HC.out _ HB4.out
    go_wp2_with fail
    refine (HRP.out _ HB4.out).mono ?_
    rintro e w8 ⟨rfl, hb8⟩
    have HB8 := Lib.hid (HB4.out.trans (hb8.mono HB4.out.size))
    clear hb8 c0 c1
    obtain ⟨c0, c1⟩ := HC.out _ HB8.out
    have hzT := mk_size T
    by_cases hbig : 16384 < T.length
    · have hp : P = ([], 3) := by rw [HP2.out, if_pos hbig]
      subst hp
      have e1 : (16384 : Int) < ((mk T).size : Int) := by rw [hzT]; omega
      have e2 : (16384 : Int) < (T.length : Int) := by omega
      clear hbig
      go_wp2_with fail
      refine (HOF.out _ HB8.out).mono ?_
      rintro e w5 ⟨v5, d5, rfl, hv5, hd5, hb5⟩
      have HB5 := Lib.hid (HB8.out.trans (hb5.mono HB8.out.size))
      have hri := HRI.out w5 v5 d5 hv5 hd5
      obtain ⟨ea, ex, rfl, -, -⟩ := id hv5
      obtain ⟨fa, fx, rfl, -, -⟩ := id hd5
      clear hv5 hd5 hb5
      go_wp2_with fail
      refine hri.mono ?_
      rintro e w6 ⟨rfl, hb6⟩
      have HB6 := Lib.hid (HB5.out.trans (hb6.mono HB5.out.size))
      clear hri hb6
      go_wp2_with fail
      refine (awake_c _).mono ?_
      rintro e w7 ⟨rfl, hb7⟩
      have HB7 := Lib.hid (HB6.out.trans (hb7.mono HB6.out.size))
      clear hb7
      go_wp2_with fail
      go_ret
      exact ⟨rfl, HA.out.trans (HB7.out.mono HA.out.size)⟩
    · have hp : P = (T, 0) := by rw [HP2.out, if_neg hbig]
      subst hp
      have e1 : ¬ (16384 : Int) < ((mk T).size : Int) := by rw [hzT]; omega
      have e2 : ¬ (16384 : Int) < (T.length : Int) := by omega
      have hcmp : ((mk T).toList == (mk T).toList) = true := by simp
      clear hbig
      go_wp2_with fail
      refine (HOF.out _ HB8.out).mono ?_
      rintro e w5 ⟨v5, d5, rfl, hv5, hd5, hb5⟩
      have HB5 := Lib.hid (HB8.out.trans (hb5.mono HB8.out.size))
      have hri := HRI.out w5 v5 d5 hv5 hd5
      obtain ⟨ea, ex, rfl, -, -⟩ := id hv5
      obtain ⟨fa, fx, rfl, -, -⟩ := id hd5
      clear hv5 hd5 hb5
      go_wp2_with fail
      refine hri.mono ?_
      rintro e w6 ⟨rfl, hb6⟩
      have HB6 := Lib.hid (HB5.out.trans (hb6.mono HB5.out.size))
      clear hri hb6
      go_wp2_with fail
      refine (awake_c _).mono ?_
      rintro e w7 ⟨rfl, hb7⟩
      have HB7 := Lib.hid (HB6.out.trans (hb7.mono HB6.out.size))
      clear hb7
      go_wp2_with fail
      go_ret
      exact ⟨rfl, HA.out.trans (HB7.out.mono HA.out.size)⟩
end Go.Proofs.YtlhhpggjdbbcmaaDoor.Pr
