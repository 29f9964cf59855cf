/-
  THE LAW DiskSure, WALKED.
-/
import Derived.Test.YtdgfnhgkncfmpaaActs
import Derived.Test.YtdgfnhgkncfmpaaOwn
import Derived.Test.YtdgfnhgkncfmpaaLie
namespace Go.Proofs.Ytdgfnhgkncfmpaa
open Go.RowKit Go.Maps

variable {X : Nat → Prop} {K : Nat} {w : World} {p : Nat} {q : Pl} {d : Ds}

abbrev ownN : List UInt8 := [111, 119, 110, 47, 102, 105, 108, 101]

theorem dS_own (bs : List UInt8) (i : Nat) : Own ownN bs i 1 (dS ownN bs i) := by
  refine ⟨dS_file ownN bs i, by rw [dS_now, if_pos rfl], by rw [dS_sure, if_pos rfl], fun l hl => ?_, fun l hl => ?_, fun c hc => by cases hc⟩
  · rw [dS_now] at hl
    by_cases e : l = ownN
    · exact e
    · rw [if_neg e] at hl; cases hl
  · rw [dS_sure] at hl
    by_cases e : l = ownN
    · exact e
    · rw [if_neg e] at hl; cases hl

theorem tslice_of {w : World} {v : Value} {ts : List Int} (h : TRow w v ts) : ∃ a c, v = .slice a ts.length c := by
  obtain ⟨a, c, rfl, _⟩ := h
  exact ⟨_, _, rfl⟩

theorem Acts.below {w w1 : World} {v : Value} {xs : List Act1} (hA : Acts w v xs) (hB1 : Below w.heap.size w w1) : Acts w1 v xs := by
  obtain ⟨a, cap, e, hx⟩ := hA
  refine ⟨a, cap, e, fun j x hj => ?_⟩
  obtain ⟨b, o, e1, hb, k0, k1, k2, k3, ⟨a4, n4, k4, r4⟩, ⟨a5, n5, k5, r5⟩, q0, q1⟩ := hx j x hj
  have hh : ∀ o, w1.cell? ⟨b, o, none⟩ = w.cell? ⟨b, o, none⟩ := fun o => hB1.cell (p := ⟨b, o, none⟩) hb
  exact ⟨b, o, e1, Nat.lt_of_lt_of_le hb hB1.size, (hh _).trans k0, (hh _).trans k1, (hh _).trans k2, (hh _).trans k3, ⟨a4, n4, (hh _).trans k4, r4.below hB1⟩, ⟨a5, n5, (hh _).trans k5, TRow.same r5 (Same.of_below (X := fun _ => True) hB1) (fun _ _ => trivial)⟩, q0, q1⟩
theorem TRow.below {w w1 : World} {v : Value} {ts : List Int} (h : TRow w v ts) (hB : Below w.heap.size w w1) : TRow w1 v ts := TRow.same h (Same.of_below (X := fun _ => True) hB) (fun _ _ => trivial)

theorem tm9 (z : Int) : (∃ m : Nat, (z.tmod 9 + 9).tmod 9 = (m : Int) ∧ m < 9) ∧ -9 < z.tmod 9 ∧ z.tmod 9 < 9 := by
  have h1 := Int.tmod_lt_of_pos z (b := 9) (by decide)
  have h2 := Int.lt_tmod_of_pos z (b := 9) (by decide)
  generalize z.tmod 9 = y at *
  have h3 : -9 < y := by omega
  refine ⟨⟨((y + 9) % 9).toNat, ?_, by omega⟩, h3, h1⟩
  rw [Int.tmod_eq_emod_of_nonneg (by omega)]
  omega
theorem own_led {bs : List UInt8} {i T : Nat} (h : Own ownN bs i T d) : Led ownN (fun _ => True) d := fun n => by
  obtain ⟨k1, _⟩ := turns_own (id := i) (own := ownN) (cs := d.changes.take n) (f := d.sure) fun c hc => h.chg c (List.mem_of_mem_take hc)
  exact ⟨i, k1.trans h.sure, by rw [h.file], trivial⟩

set_option maxRecDepth 100000 in
set_option maxHeartbeats 8000000 in
theorem sure_c {v u tv : Value} {xs : List Act1} {bs : List UInt8} {ts : List Int} (n : Int) (w : World) (hA : Acts w v xs) (hu : BRow w u bs) (ht : TRow w tv ts) (htX : ∀ k, Value.rowBlock tv = some k → k < w.heap.size) :
    Calls Try.prog 3 #[v, u, .agg #[.int .i64 n, tv]] w fun e w' => e = .returned (.bool true) ∧ Below w.heap.size w w' := by
  obtain ⟨ua, uc, rfl⟩ := slice_of hu
  obtain ⟨ta, tc, rfl⟩ := tslice_of ht
  obtain ⟨va, vc, hv⟩ : ∃ a c, v = .slice a xs.length c := by
    obtain ⟨a, c, e, _⟩ := hA
    exact ⟨a, c, e⟩
  subst hv
  obtain ⟨w1, hw1⟩ : ∃ W, w.alloc (.cells #[.int .i64 n, .slice ta ts.length tc] 26) = W := ⟨_, rfl⟩
  have hB1 : Below w.heap.size w w1 := by rw [← hw1]; exact below_alloc _ _
  have c0 : w1.cell? ⟨w.heap.size, 0, none⟩ = some (.int .i64 n) := by rw [← hw1]; exact cell_at_new _ _ _ _ _ rfl
  have c1 : w1.cell? ⟨w.heap.size, 1, none⟩ = some (.slice ta ts.length tc) := by rw [← hw1]; exact cell_at_new _ _ _ _ _ rfl
  have z1 : w.heap.size < w1.heap.size := by rw [← hw1]; simp
  have hli := light_c (hA.below hB1)
  have HA := Lib.hid hA
  have HU := Lib.hid hu
  have HT := Lib.hid ht
  have HTX := Lib.hid htX
  have HB1 := Lib.hid hB1
  have HZ1 := Lib.hid z1
  have C0 := Lib.hid c0
  have C1 := Lib.hid c1
  clear hA hu ht htX hB1 z1 c0
  obtain ⟨bn, hbn⟩ : ∃ k, bs.length = k := ⟨_, rfl⟩
  obtain ⟨tn, htn⟩ : ∃ k, ts.length = k := ⟨_, rfl⟩
  obtain ⟨xn, hxn⟩ : ∃ k, xs.length = k := ⟨_, rfl⟩
  have HBN := Lib.hid hbn
  have HTN := Lib.hid htn
  have HXN := Lib.hid hxn
  rw [htn] at c1 hw1
  rw [hxn] at hli
  rw [hbn, htn, hxn]
  clear hbn htn hxn
  go_enter Try.func3, Try.ntmps3
  go_wp2_with fail
  clear hw1
  refine hli.mono ?_
  rintro e w1' ⟨r, rfl, rfl, hL⟩
  clear hli
  cases r with
  | false =>
    go_wp2
    go_ret
    exact ⟨rfl, HB1.out⟩
  | true =>
    obtain ⟨h80, hL⟩ := hL rfl
    have HL := Lib.hid hL
    have h80' : xn ≤ 80 := by rw [← HXN.out]; exact h80
    clear hL h80
    by_cases h1 : bn ≤ 1000
    · by_cases h3 : tn ≤ 20
      · have hfr := fresh_c w1
        go_wp2_with fail
        refine hfr.mono ?_
        rintro e w3 ⟨p, rfl, hp, hb3, hd3⟩
        have hB3 := HB1.out.trans (hb3.mono HB1.out.size)
        have hw := write_ok (M := 1) (l := ownN) (bs := bs) hd3 (by omega) (by omega) (fun l i h => by cases h) (by simp) (HU.out.below hB3) (fun k hk => Nat.lt_of_lt_of_le (HU.out.lt hk) HB1.out.size) (by rw [HBN.out]; omega) (by show (0 + 1) * 1 + bs.length ≤ 16777216; rw [HBN.out]; omega) rfl (by show (-1 : Int) ≠ 0; decide) right_own
        rw [HBN.out] at hw
        have HS3 := Lib.hid (Same.of_below (X := fun k => k < w1.heap.size) hb3)
        clear hfr hd3 hb3 hB3 hp
        go_wp2_with fail
        refine hw.mono ?_
        rintro e w4 ⟨rfl, hs4, d4, hd4, i, hi, rfl⟩
        have hsy := sync_ok (l := ownN) (i := i) hd4 (by omega) (by simp) (by rw [written_none, if_pos rfl]) rfl (by show (-1 : Int) ≠ 0; decide) right_own
        have HS4 := Lib.hid (HS3.out.trans hs4)
        clear hw hd4 hs4 HS3
        go_wp2_with fail
        refine hsy.mono ?_
        rintro e w5 ⟨rfl, hs5, d5, hd5, rfl⟩
        have hsd := syncDir_ok hd5 (by omega) rfl (by show (-1 : Int) ≠ 0; decide)
        have HS5 := Lib.hid (HS4.out.trans hs5)
        clear hsy hd5 hs5 HS4
        go_wp2_with fail
        refine hsd.mono ?_
        rintro e w6 ⟨rfl, hs6, d6, hd6, rfl⟩
        have hd6' : Dk (fun k => k < w1.heap.size) 5 w6 p (dS ownN bs i) := hd6
        have hs6' := HS5.out.trans hs6
        have hO := dS_own bs i
        have hup : (dS ownN bs i).up = true := rfl
        obtain ⟨D, hD⟩ : ∃ D, dS ownN bs i = D := ⟨_, rfl⟩
        rw [hD] at hd6' hO hup
        have hst := stat_some (l := ownN) hd6' (by unfold maxLen; simp) hup hO.now
        rw [hO.file] at hst
        have hst' : Calls Try.prog 15 #[.pointer (some ⟨p, 0, none⟩), .string (mk ownN)] w6 fun e w' => e = .returned (.tuple #[.agg #[.int .i64 bn, .int .i64 (1 : Nat)], .int .i64 0]) ∧ Below w6.heap.size w6 w' := by rw [← HBN.out]; exact hst
        have HS6 := Lib.hid hs6'
        have HD6 := Lib.hid hd6'
        have HO := Lib.hid hO
        clear hsd hd6 hs6 HS5 hs6' hst hd6' hup hO hD
        go_wp2_with fail
        refine hst'.mono ?_
        rintro e w7 ⟨rfl, hb7⟩
        clear hst' hL
        obtain ⟨w8, hw8⟩ : ∃ W, w7.alloc (.cells #[.int .i64 bn, .int .i64 (1 : Nat)] 36) = W := ⟨_, rfl⟩
        have hb68 : Below w6.heap.size w6 w8 := by rw [← hw8]; exact hb7.trans ((below_alloc w7 _).mono hb7.size)
        have cw0 : w8.cell? ⟨w7.heap.size, 0, none⟩ = some (.int .i64 bn) := by rw [← hw8]; exact cell_at_new _ _ _ _ _ rfl
        have cw1 : w8.cell? ⟨w7.heap.size, 1, none⟩ = some (.int .i64 (1 : Nat)) := by rw [← hw8]; exact cell_at_new _ _ _ _ _ rfl
        have hlt8 : w7.heap.size < w8.heap.size := by rw [← hw8]; simp
        have hd8 := HD6.out.since hb68
        have hX8 : Since (fun k => k < w1.heap.size) w6 w8 w7.heap.size := .inr ⟨hb7.size, hlt8⟩
        have hX1 : ∀ k, k < w1.heap.size → Since (fun k => k < w1.heap.size) w6 w8 k := fun k hk => .inl hk
        have hS8 : Same (fun k => k < w1.heap.size) w1 w8 := HS6.out.trans (Same.of_below hb68)
        obtain ⟨X, hX⟩ : ∃ Y, Since (fun k => k < w1.heap.size) w6 w8 = Y := ⟨_, rfl⟩
        rw [hX] at hd8 hX8 hX1
        have HD8 := Lib.hid hd8
        have HX8 := Lib.hid hX8
        have HX1 := Lib.hid hX1
        have HS8 := Lib.hid hS8
        have CW0 := Lib.hid cw0
        have CW1 := Lib.hid cw1
        have HLT8 := Lib.hid hlt8
        have HW8 := Lib.hid hw8
        clear hb68 cw0 cw1 hlt8 hd8 hX8 hX1 hS8 hX hw8 hb7 HS6 HD6
        go_wp2_with fail
        rw [show w7.alloc (.cells #[.int .i64 bn, .int .i64 1] 36) = w8 from HW8.out]
        go_loopw [11] (fun v wr => ∃ k : Nat, k ≤ xn ∧ v = .int .i64 k ∧ ∃ d, Hid (Dk X (5 + 4 * k) wr p d) ∧ Hid (Own ownN bs i 1 d) ∧ Hid (Same X w8 wr)) (fun v _ => xn - (intOf v).toNat)
        case atStart => exact ⟨0, Nat.zero_le _, rfl, D, HD8, HO, Lib.hid (Same.refl _ _)⟩
        case round =>
          obtain ⟨k, hk, rfl, d, HD, HOw, HS⟩ := hrel
          clear HD8 HO
          by_cases hlt : k < xn
          · obtain ⟨x, hxi⟩ : ∃ x, xs[k]? = some x := ⟨xs[k]'(by rw [HXN.out]; exact hlt), List.getElem?_eq_getElem _⟩
            obtain ⟨a1, c1', e1, hx⟩ := HA.out
            obtain ⟨b, o, ha, hb, hAt⟩ := hx k x hxi
            rw [ha] at e1
            cases e1
            have hLx := HL.out x (List.mem_of_getElem? hxi)
            have hSw := HS8.out.trans (HS.out.mono fun k _ hk => HX1.out k hk)
            have hbr : Below w.heap.size w wr := HB1.out.trans (hSw.below HB1.out.size fun k hk => Nat.lt_of_lt_of_le hk HB1.out.size)
            obtain ⟨k0, k1, k2, k3, ⟨a4, n4, k4, r4⟩, ⟨a5, n5, k5, r5⟩, q0, q1⟩ := hAt
            have hh : ∀ o, wr.cell? ⟨b, o, none⟩ = w.cell? ⟨b, o, none⟩ := fun o => hbr.cell (p := ⟨b, o, none⟩) hb
            rw [← hh] at k0 k1 k2 k3 k4 k5
            obtain ⟨L4, e4⟩ : ∃ l, x.bs.length = l := ⟨_, rfl⟩
            obtain ⟨L5, e5⟩ : ∃ l, x.ts.length = l := ⟨_, rfl⟩
            rw [e4] at k4
            rw [e5] at k5
            have R4 := Lib.hid r4
            have R5 := Lib.hid r5
            have E4 := Lib.hid e4
            have E5 := Lib.hid e5
            have HH := Lib.hid hh
            have HBR := Lib.hid hbr
            have HLX := Lib.hid hLx
            obtain ⟨⟨m, hm, hm9⟩, hr1, hr2⟩ := tm9 x.what
            clear hx ha hLx hSw hbr r4 r5 e4 e5 hxi hh
            by_cases hs : x.s = ownN
            · have z1 : ((mk x.s).toList == [111, 119, 110, 47, 102, 105, 108, 101]) = true := by rw [mk_toList, hs]; rfl
              clear hs
              go_wp2
              go_roundw
              case rel => exact ⟨k + 1, by omega, by go_num, d, Lib.hid (HD.out.mono (by omega)), HOw, HS⟩
              case measure => simp [intOf]; omega
            · have z1 : ((mk x.s).toList == [111, 119, 110, 47, 102, 105, 108, 101]) = false := by rw [mk_toList]; exact beq_false_of_ne hs
              have HNS := Lib.hid hs
              clear hs
              by_cases ht : x.t = ownN
              · have z2 : ((mk x.t).toList == [111, 119, 110, 47, 102, 105, 108, 101]) = true := by rw [mk_toList, ht]; rfl
                clear ht
                go_wp2
                go_roundw
                case rel => exact ⟨k + 1, by omega, by go_num, d, Lib.hid (HD.out.mono (by omega)), HOw, HS⟩
                case measure => simp [intOf]; omega
              · have z2 : ((mk x.t).toList == [111, 119, 110, 47, 102, 105, 108, 101]) = false := by rw [mk_toList]; exact beq_false_of_ne ht
                have HNT := Lib.hid ht
                clear ht
                by_cases hm7 : m = 7
                · subst hm7
                  have har := arm_ok HD.out x.num q1
                  clear HD
                  go_wp2_with fail
                  refine har.mono ?_
                  rintro e wA ⟨⟨xA, rfl⟩, hsA, hdA⟩
                  clear har
                  go_wp2
                  go_roundw
                  case rel => exact ⟨k + 1, by omega, by go_num, _, Lib.hid (hdA.mono (by omega)), Lib.hid (HOw.out.like rfl rfl rfl rfl), Lib.hid (HS.out.trans hsA)⟩
                  case measure => simp [intOf]; omega
                · by_cases hm8 : m = 8
                  · subst hm8
                    obtain ⟨w2, hw2⟩ : ∃ W, wr.drew = W := ⟨_, rfl⟩
                    have hs2 : Same X wr w2 := by rw [← hw2]; exact (Same.refl X wr).drew
                    have hd2 : Dk X (5 + 4 * k) w2 p d := by rw [← hw2]; exact HD.out.frame (Nat.le_refl _) (fun _ _ _ => rfl) (fun _ _ h => h) (by obtain ⟨q, hq⟩ := HD.out; exact hq.inX)
                    have hb2 : Below w.heap.size w w2 := by rw [← hw2]; exact HBR.out.drew
                    have hre := restart_ok hd2 (by omega) x.num (R5.out.below hb2) (fun k hk => HX1.out _ (Nat.lt_of_lt_of_le (R5.out.lt hk) HB1.out.size)) (by have := HLX.out.2.2.2; omega)
                    rw [E5.out] at hre
                    have k1' : w2.cell? ⟨b, o + k * 6 + 1, none⟩ = some (.int .i64 x.num) := by rw [← hw2]; exact k1
                    have k5' : w2.cell? ⟨b, o + k * 6 + 5, none⟩ = some (.slice a5 L5 n5) := by rw [← hw2]; exact k5
                    have HS2 := Lib.hid hs2
                    have HW2 := Lib.hid hw2
                    clear hw2 hs2 hd2 hb2
                    go_wp2_with fail
                    refine wp_region_still_tail 12 (by kernel_rfl) (by kernel_rfl) ?_
                    rw [show ({ wr with drawn := wr.drawn + 1 } : World) = w2 from HW2.out]
                    simp only [List.take_succ_cons, List.take_zero, List.drop_succ_cons, List.drop_zero]
                    repeat still_step
                    refine wpStill_nil ?_
                    go_wp2_with fail
                    refine hre.mono ?_
                    rintro e wA ⟨⟨xA, rfl⟩, hsA, ns, _, hdA⟩
                    clear hre
                    go_wp2
                    go_roundw
                    case rel => exact ⟨k + 1, by omega, by go_num, _, Lib.hid (hdA.mono (by omega)), Lib.hid ((HOw.out.back _).lostAll _ _ _), Lib.hid ((HS.out.trans HS2.out).trans hsA)⟩
                    case measure => simp [intOf]; omega
                  · have hm6 : m < 7 := by omega
                    have hde := lawDeed_c m hm6 HD.out (by omega) x.what x.num (s := x.s) (t := x.t) (by have := HLX.out.1; omega) (by have := HLX.out.2.1; omega) (by have := HLX.out.2.2.1; omega) (R4.out.below HBR.out) (fun k hk => HX1.out _ (Nat.lt_of_lt_of_le (R4.out.lt hk) HB1.out.size)) a5 L5 n5
                    rw [E4.out] at hde
                    have b7 : ((m : Int) == 7) = false := by simp; omega
                    have b8 : ((m : Int) == 8) = false := by simp; omega
                    clear HD
                    go_wp2_with fail
                    refine hde.mono ?_
                    rintro e wA ⟨nA, dA, rfl, hsA, hdA, hqA⟩
                    have hO' := own_deed HOw.out (by decide) (fun e => HNS.out e.symm) (fun e => HNT.out e.symm) hqA
                    clear hde
                    go_wp2
                    go_roundw
                    case rel => exact ⟨k + 1, by omega, by go_num, _, Lib.hid (hdA.mono (by omega)), Lib.hid hO', Lib.hid (HS.out.trans hsA)⟩
                    case measure => simp [intOf]; omega
          · obtain rfl : k = xn := by omega
            have hSw := HS8.out.trans (HS.out.mono fun k _ hk => HX1.out k hk)
            have hbr : Below w.heap.size w wr := HB1.out.trans (hSw.below HB1.out.size fun k hk => Nat.lt_of_lt_of_le hk HB1.out.size)
            have r0 : wr.cell? ⟨w.heap.size, 0, none⟩ = some (.int .i64 n) := (hSw.cell (p := ⟨w.heap.size, 0, none⟩) HZ1.out HZ1.out).trans C0.out
            have r1 : wr.cell? ⟨w.heap.size, 1, none⟩ = some (.slice ta tn tc) := (hSw.cell (p := ⟨w.heap.size, 1, none⟩) HZ1.out HZ1.out).trans c1
            have hre := restart_ok HD.out (by omega) n (HT.out.below hbr) (fun k hk => HX1.out _ (Nat.lt_of_lt_of_le (HTX.out k hk) HB1.out.size)) (by rw [HTN.out]; omega)
            rw [HTN.out] at hre
            have HBR := Lib.hid hbr
            clear hSw hbr HD
            go_wp2_with fail
            refine hre.mono ?_
            rintro e wA ⟨⟨xA, rfl⟩, hsA, ns, _, hdA⟩
            have hOA := (HOw.out.back n.toNat).lostAll ts 0 ns
            have hupA : (lostAll ts 0 ns (back d n.toNat)).up = true := (led_back (l := ownN) (V := fun _ => True) (own_led HOw.out) n.toNat ts ns).1
            have hsA' := HS.out.trans hsA
            have hSwA := HS8.out.trans (hsA'.mono fun k _ hk => HX1.out k hk)
            have hbA : Below w.heap.size w wA := HB1.out.trans (hSwA.below HB1.out.size fun k hk => Nat.lt_of_lt_of_le hk HB1.out.size)
            have ca0 : wA.cell? ⟨w7.heap.size, 0, none⟩ = some (.int .i64 bn) := (hsA'.cell (p := ⟨w7.heap.size, 0, none⟩) HLT8.out HX8.out).trans CW0.out
            have ca1 : wA.cell? ⟨w7.heap.size, 1, none⟩ = some (.int .i64 1) := (hsA'.cell (p := ⟨w7.heap.size, 1, none⟩) HLT8.out HX8.out).trans CW1.out
            have hltA : w7.heap.size < wA.heap.size := Nat.lt_of_lt_of_le HLT8.out hsA'.size
            obtain ⟨D2, hD2⟩ : ∃ D, lostAll ts 0 ns (back d n.toNat) = D := ⟨_, rfl⟩
            rw [hD2] at hdA hOA hupA
            have hrd := read_some (l := ownN) hdA (by unfold maxLen; simp) hupA hOA.now
            rw [hOA.file] at hrd
            have hst := fun W (hb : Below wA.heap.size wA W) => stat_some (l := ownN) (hdA.since hb) (by unfold maxLen; simp) hupA hOA.now
            have HST := Lib.hid hst
            have HOA := Lib.hid hOA
            have HBA := Lib.hid hbA
            have CA0 := Lib.hid ca0
            have CA1 := Lib.hid ca1
            have HLTA := Lib.hid hltA
            clear hre HOw hsA' hSwA hbA ca0 ca1 hltA hD2 hdA hOA hupA hst r0 r1 hsA
            go_wp2_with fail
            refine hrd.mono ?_
            rintro e wB ⟨y, rfl, hrow, hbB⟩
            have hst := HST.out wB hbB
            rw [HOA.out.file] at hst
            have hst' : Calls Try.prog 15 #[.pointer (some ⟨p, 0, none⟩), .string (mk ownN)] wB fun e w' => e = .returned (.tuple #[.agg #[.int .i64 bn, .int .i64 (1 : Nat)], .int .i64 0]) ∧ Below wB.heap.size wB w' := by rw [← HBN.out]; exact hst
            have hrow' : wB.ownsRow wA.heap.size 5 1 y bs.length (bytesV bs) := hrow
            obtain ⟨ya, yc, rfl⟩ := row_len hrow'
            have HROW := Lib.hid hrow'
            have HBB := Lib.hid hbB
            clear hrd hst hrow hrow' hbB HST
            rw [HBN.out]
            go_wp2_with fail
            refine hst'.mono ?_
            rintro e wC ⟨rfl, hbC⟩
            clear hst'
            obtain ⟨wD, hwD⟩ : ∃ W, wC.alloc (.cells #[.int .i64 bn, .int .i64 (1 : Nat)] 36) = W := ⟨_, rfl⟩
            have hbD : Below wB.heap.size wB wD := by rw [← hwD]; exact hbC.trans ((below_alloc wC _).mono hbC.size)
            have cs0 : wD.cell? ⟨wC.heap.size, 0, none⟩ = some (.int .i64 bn) := by rw [← hwD]; exact cell_at_new _ _ _ _ _ rfl
            have cs1 : wD.cell? ⟨wC.heap.size, 1, none⟩ = some (.int .i64 1) := by rw [← hwD]; exact cell_at_new _ _ _ _ _ rfl
            have cd0 : wD.cell? ⟨w7.heap.size, 0, none⟩ = some (.int .i64 bn) := (hbD.cell (p := ⟨w7.heap.size, 0, none⟩) (Nat.lt_of_lt_of_le HLTA.out HBB.out.size)).trans ((HBB.out.cell (p := ⟨w7.heap.size, 0, none⟩) HLTA.out).trans CA0.out)
            have cd1 : wD.cell? ⟨w7.heap.size, 1, none⟩ = some (.int .i64 1) := (hbD.cell (p := ⟨w7.heap.size, 1, none⟩) (Nat.lt_of_lt_of_le HLTA.out HBB.out.size)).trans ((HBB.out.cell (p := ⟨w7.heap.size, 1, none⟩) HLTA.out).trans CA1.out)
            have hBD : Below w.heap.size w wD := HBA.out.trans ((HBB.out.trans (hbD.mono HBB.out.size)).mono HBA.out.size)
            have hcy := conv_b ((row_bytes HROW.out).below hbD)
            have hcu := conv_b (HU.out.below hBD)
            have haw := awake_c wD
            rw [HBN.out] at hcy hcu
            have HBD := Lib.hid hBD
            clear hbD hBD hbC
            have hwD' : wC.alloc (.cells #[.int .i64 bn, .int .i64 1] 36) = wD := hwD
            clear hwD
            go_wp2_with fail
            refine haw.mono ?_
            rintro e wE ⟨rfl, hbE⟩
            go_wp2
            go_ret
            exact ⟨rfl, HBD.out.trans (hbE.mono HBD.out.size)⟩
      · go_wp2
        go_ret
        exact ⟨rfl, HB1.out⟩
    · go_wp2
      go_ret
      exact ⟨rfl, HB1.out⟩
end Go.Proofs.Ytdgfnhgkncfmpaa
