/-
  THE LAW DiskRenames, WALKED.
-/
import Derived.Test.YtkgipabcgbneoaaArmedW
import Derived.Test.YtkgipabcgbneoaaLed
namespace Go.Proofs.Ytkgipabcgbneoaa
open Go.RowKit Go.Maps

set_option maxRecDepth 100000 in
set_option maxHeartbeats 8000000 in
theorem renames_main {u v tv : Value} {was thn : List UInt8} {ts : List Int} (a n : Int) (ha : 0 ≤ a ∧ a ≤ 255) (w : World) (hu : BRow w u was) (hv : BRow w v thn) (ht : TRow w tv ts) (htX : ∀ k, Value.rowBlock tv = some k → k < w.heap.size)
    (h1 : was.length ≤ 1000) (h2 : thn.length ≤ 1000) (h3 : ts.length ≤ 20) :
    Calls Try.prog 8 #[.agg #[u, v, .int .u8 a, .int .i64 n, tv]] w fun e w' => e = .returned (.bool true) ∧ Below w.heap.size w w' := by
  obtain ⟨ua, uc, rfl⟩ : ∃ a c, u = .slice a was.length c := by
    rcases hu with ⟨rfl, rfl⟩ | ⟨a, c, rfl, _⟩
    · exact ⟨_, _, rfl⟩
    · exact ⟨_, _, rfl⟩
  obtain ⟨va, vc, rfl⟩ : ∃ a c, v = .slice a thn.length c := by
    rcases hv with ⟨rfl, rfl⟩ | ⟨a, c, rfl, _⟩
    · exact ⟨_, _, rfl⟩
    · exact ⟨_, _, rfl⟩
  obtain ⟨ta, tc, rfl⟩ : ∃ a c, tv = .slice a ts.length c := by
    obtain ⟨a, c, rfl, _⟩ := ht
    exact ⟨_, _, rfl⟩
  have HU := Lib.hid hu
  have HV := Lib.hid hv
  have HT := Lib.hid ht
  have HTX := Lib.hid htX
  clear hu hv ht htX
  have hm0 : ∃ m : Nat, a = (m : Int) := ⟨a.toNat, by omega⟩
  obtain ⟨m, rfl⟩ := hm0
  obtain ⟨r, hr, hr6⟩ : ∃ r : Nat, (m : Int) % 6 = (r : Int) ∧ r < 6 := ⟨m % 6, by omega, by omega⟩
  go_enter Try.func8, Try.ntmps8
  go_wp2
  go_region
  obtain ⟨w2, hw2⟩ : ∃ W, ((w.alloc (.cells #[.slice ua was.length uc, .slice va thn.length vc, .int .u8 m, .int .i64 n, .slice ta ts.length tc] 57)).alloc (.cells #[.int .i64 n, .slice ta ts.length tc] 30)).drew = W := ⟨_, rfl⟩
  have hB2 : Below w.heap.size w w2 := by
    rw [← hw2]
    exact (((Below.refl _ w).alloc (Nat.le_refl _) _).alloc (by simp) _).drew
  have c0 : w2.cell? ⟨w.heap.size + 1, 0, none⟩ = some (.int .i64 n) := by
    rw [← hw2]
    have := cell_at_new (w.alloc (.cells #[.slice ua was.length uc, .slice va thn.length vc, .int .u8 m, .int .i64 n, .slice ta ts.length tc] 57)) #[.int .i64 n, .slice ta ts.length tc] 30 0 (.int .i64 n) rfl
    rw [show (w.alloc (.cells #[.slice ua was.length uc, .slice va thn.length vc, .int .u8 m, .int .i64 n, .slice ta ts.length tc] 57)).heap.size = w.heap.size + 1 by simp] at this
    exact this
  have c1 : w2.cell? ⟨w.heap.size + 1, 1, none⟩ = some (.slice ta ts.length tc) := by
    rw [← hw2]
    have := cell_at_new (w.alloc (.cells #[.slice ua was.length uc, .slice va thn.length vc, .int .u8 m, .int .i64 n, .slice ta ts.length tc] 57)) #[.int .i64 n, .slice ta ts.length tc] 30 1 (.slice ta ts.length tc) rfl
    rw [show (w.alloc (.cells #[.slice ua was.length uc, .slice va thn.length vc, .int .u8 m, .int .i64 n, .slice ta ts.length tc] 57)).heap.size = w.heap.size + 1 by simp] at this
    exact this
  have hlt : w.heap.size + 1 < w2.heap.size := by rw [← hw2]; show w.heap.size + 1 < ((w.alloc _).alloc _).heap.size; simp
  rw [hw2]
  have HB2 := Lib.hid hB2
  have HLT := Lib.hid hlt
  have C0 := Lib.hid c0
  have hfr := fresh_c w2
  have C1 := Lib.hid c1
  clear hw2 hB2 hlt c0
  go_wp2_with fail
  refine hfr.mono ?_
  rintro e w3 ⟨p, rfl, hp, hb3, hd3⟩
  have hB3 := HB2.out.trans (hb3.mono HB2.out.size)
  have hw := write_ok (M := 1) (l := [102]) (bs := was) hd3 (by omega) (by omega) (fun l i h => by cases h) (by simp) (HU.out.below hB3) (fun k hk => Nat.lt_of_lt_of_le (HU.out.lt hk) HB2.out.size) (by omega) (by show (0 + 1) * 1 + was.length ≤ 16777216; omega) rfl (by show (-1 : Int) ≠ 0; decide) right_f
  have HS3 := Lib.hid (Same.of_below (X := fun k => k < w2.heap.size) hb3)
  have HB3 := Lib.hid hB3
  clear hfr hd3 hb3 hB3 hp c1
  go_wp2_with fail
  refine hw.mono ?_
  rintro e w4 ⟨rfl, hs4, d4, hd4, i, hi, rfl⟩
  have hsy := sync_ok (l := [102]) (i := i) hd4 (by omega) (by simp) (by rw [written_none, if_pos rfl]) rfl (by show (-1 : Int) ≠ 0; decide) right_f
  have HS4 := Lib.hid (HS3.out.trans hs4)
  clear hw hd4 hs4 HS3
  go_wp2_with fail
  refine hsy.mono ?_
  rintro e w5 ⟨rfl, hs5, d5, hd5, rfl⟩
  have hsd := syncDir_ok hd5 (by omega) rfl (by show (-1 : Int) ≠ 0; decide)
  have HS5 := Lib.hid (HS4.out.trans hs5)
  clear hsy hd5 hs5 HS4
  go_wp2_with fail
  refine hsd.mono ?_
  rintro e w6 ⟨rfl, hs6, d6, hd6, rfl⟩
  have hd6' : Dk (fun k => k < w2.heap.size) 5 w6 p (dS [102] was i) := hd6
  have har := arm_ok hd6' (r : Int) (by omega)
  have HS6 := Lib.hid (HS5.out.trans hs6)
  clear hsd hd6 hs6 hd6' HS5
  go_wp2_with fail
  refine har.mono ?_
  rintro e w7 ⟨⟨x7, rfl⟩, hs7, hd7⟩
  have hs7' := HS6.out.trans hs7
  have hL7 : Led [102] (fun x => x = was ∨ x = thn) ({ dS [102] was i with left := r } : Ds) := Led.weak (dS_led [102] was i) fun x hx => .inl hx
  have hX2 : ∀ k, k < w.heap.size → k < w2.heap.size := fun k hk => Nat.lt_of_lt_of_le hk HB2.out.size
  have hB7 : Below w.heap.size w w7 := HB2.out.trans (hs7'.below HB2.out.size hX2)
  have hwg := write_g hd7 (by omega) hL7 (HV.out.below hB7) (fun k hk => Nat.lt_of_lt_of_le (HV.out.lt hk) HB2.out.size) (by omega)
  have HS7 := Lib.hid hs7'
  have HX2 := Lib.hid hX2
  clear har hs7 hs7' hd7 hL7 hX2 hB7 HS6
  go_wp2_with fail
  refine hwg.mono ?_
  rintro e w8 ⟨n8, d8, rfl, hs8, hd8, hL8, hg8⟩
  have HS8 := Lib.hid (HS7.out.trans hs8)
  clear hwg hs8 HS7
  by_cases e8 : n8 = 0
  · subst e8
    have hsg := sync_g hd8 (by omega) hL8 (.inr rfl) (hg8 rfl)
    clear hd8 hL8 hg8
    go_wp2_with fail
    refine hsg.mono ?_
    rintro e w9 ⟨n9, d9, rfl, hs9, hd9, hL9, hg9⟩
    have HS9 := Lib.hid (HS8.out.trans hs9)
    clear hsg hs9 HS8
    by_cases e9 : n9 = 0
    · subst e9
      have hrg := rename_g hd9 (by omega) hL9 (.inr rfl) (hg9 rfl)
      clear hd9 hL9 hg9
      go_wp2_with fail
      refine hrg.mono ?_
      rintro e wA ⟨nA, dA, rfl, hsA, hdA, hLA, hgA⟩
      have HSA := Lib.hid (HS9.out.trans hsA)
      clear hrg hsA HS9
      by_cases eA : nA = 0
      · subst eA
        have hdg := syncDir_g hdA (by omega) hLA (.inr rfl) (hgA rfl)
        clear hdA hLA hgA
        go_wp2_with fail
        refine hdg.mono ?_
        rintro e wB ⟨nB, dB, rfl, hsB, hdB, hLB, hgB⟩
        have HSB := Lib.hid (HSA.out.trans hsB)
        clear hdg hsB HSA
        by_cases eB : nB = 0
        · subst eB
          have hLC := hgB rfl
          have hT := hdB.mono (show _ ≤ 12 by omega)
          clear hLB hgB hdB
          have hBT : Below w.heap.size w wB := HB2.out.trans (HSB.out.below HB2.out.size HX2.out)
          have k0 : wB.cell? ⟨w.heap.size + 1, 0, none⟩ = some (.int .i64 n) := (HSB.out.cell (p := ⟨w.heap.size + 1, 0, none⟩) HLT.out HLT.out).trans C0.out
          have k1 : wB.cell? ⟨w.heap.size + 1, 1, none⟩ = some (.slice ta ts.length tc) := (HSB.out.cell (p := ⟨w.heap.size + 1, 1, none⟩) HLT.out HLT.out).trans C1.out
          have hre := restart_ok hT (by omega) n (TRow.same HT.out (Same.of_below (X := fun _ => True) hBT) (fun _ _ => trivial)) (fun k hk => HX2.out k (HTX.out k hk)) (by omega)
          have HLB := Lib.hid (led_back hLC n.toNat ts)
          have HBT := Lib.hid hBT
          clear hT hLC hBT
          go_wp2_with fail
          refine hre.mono ?_
          rintro e wR ⟨⟨xR, rfl⟩, hsR, ns, _, hdR⟩
          obtain ⟨hup, j, hj, hV⟩ := HLB.out ns
          have hrd := read_some (l := [102]) hdR (by unfold maxLen; simp) hup hj
          have hBR := HBT.out.trans (hsR.below HBT.out.size HX2.out)
          clear hre hdR hup hj hsR k0 k1
          go_wp2_with fail
          refine hrd.mono ?_
          rintro e wS ⟨y, rfl, hrow, hbS⟩
          have hBS := hBR.trans (hbS.mono hBR.size)
          have hcu := conv_b (HU.out.below hBS)
          have hcv := conv_b (HV.out.below hBS)
          have haw := awake_c wS
          clear hrd hBR hbS
          rw [show ((lostAll ts 0 ns (back dB n.toNat)).files j).bytes = thn from hV] at hrow
          have hcb := conv_b (row_bytes hrow)
          obtain ⟨ya, yc, rfl⟩ := row_len hrow
          clear hrow hV
          go_wp2_with fail
          refine haw.mono ?_
          rintro e wU ⟨rfl, hbU⟩
          go_wp2
          go_ret
          exact ⟨rfl, hBS.trans (hbU.mono hBS.size)⟩
        · have hne : decide (nB = 0) = false := decide_eq_false eB
          have hT := hdB.mono (show _ ≤ 12 by omega)
          clear hgB hdB
          have hBT : Below w.heap.size w wB := HB2.out.trans (HSB.out.below HB2.out.size HX2.out)
          have k0 : wB.cell? ⟨w.heap.size + 1, 0, none⟩ = some (.int .i64 n) := (HSB.out.cell (p := ⟨w.heap.size + 1, 0, none⟩) HLT.out HLT.out).trans C0.out
          have k1 : wB.cell? ⟨w.heap.size + 1, 1, none⟩ = some (.slice ta ts.length tc) := (HSB.out.cell (p := ⟨w.heap.size + 1, 1, none⟩) HLT.out HLT.out).trans C1.out
          have hre := restart_ok hT (by omega) n (TRow.same HT.out (Same.of_below (X := fun _ => True) hBT) (fun _ _ => trivial)) (fun k hk => HX2.out k (HTX.out k hk)) (by omega)
          have HLB := Lib.hid (led_back hLB n.toNat ts)
          have HBT := Lib.hid hBT
          clear hT hLB hBT
          go_wp2_with fail
          refine hre.mono ?_
          rintro e wR ⟨⟨xR, rfl⟩, hsR, ns, _, hdR⟩
          obtain ⟨hup, j, hj, hV⟩ := HLB.out ns
          have hrd := read_some (l := [102]) hdR (by unfold maxLen; simp) hup hj
          have hBR := HBT.out.trans (hsR.below HBT.out.size HX2.out)
          clear hre hdR hup hj hsR k0 k1
          go_wp2_with fail
          refine hrd.mono ?_
          rintro e wS ⟨y, rfl, hrow, hbS⟩
          have hBS := hBR.trans (hbS.mono hBR.size)
          have hcu := conv_b (HU.out.below hBS)
          have hcv := conv_b (HV.out.below hBS)
          have haw := awake_c wS
          clear hrd hBR hbS
          by_cases hwas : ((lostAll ts 0 ns (back dB n.toNat)).files j).bytes = was
          · rw [hwas] at hrow
            have hcb := conv_b (row_bytes hrow)
            obtain ⟨ya, yc, rfl⟩ := row_len hrow
            clear hrow hV hwas
            go_wp2_with fail
            refine haw.mono ?_
            rintro e wU ⟨rfl, hbU⟩
            go_wp2
            go_ret
            exact ⟨rfl, hBS.trans (hbU.mono hBS.size)⟩
          · have hthn : ((lostAll ts 0 ns (back dB n.toNat)).files j).bytes = thn := by
              rcases hV with h | h
              · exact absurd h hwas
              · exact h
            rw [hthn] at hrow hwas
            have hcb := conv_b (row_bytes hrow)
            obtain ⟨ya, yc, rfl⟩ := row_len hrow
            have hz : ((mk thn).toList == (mk was).toList) = false := by rw [mk_toList, mk_toList]; exact beq_false_of_ne hwas
            clear hrow hV hthn hwas
            go_wp2_with fail
            refine haw.mono ?_
            rintro e wU ⟨rfl, hbU⟩
            go_wp2
            go_ret
            exact ⟨rfl, hBS.trans (hbU.mono hBS.size)⟩
      · have hne : decide (nA = 0) = false := decide_eq_false eA
        have hT := hdA.mono (show _ ≤ 12 by omega)
        clear hgA hdA
        have hBT : Below w.heap.size w wA := HB2.out.trans (HSA.out.below HB2.out.size HX2.out)
        have k0 : wA.cell? ⟨w.heap.size + 1, 0, none⟩ = some (.int .i64 n) := (HSA.out.cell (p := ⟨w.heap.size + 1, 0, none⟩) HLT.out HLT.out).trans C0.out
        have k1 : wA.cell? ⟨w.heap.size + 1, 1, none⟩ = some (.slice ta ts.length tc) := (HSA.out.cell (p := ⟨w.heap.size + 1, 1, none⟩) HLT.out HLT.out).trans C1.out
        have hre := restart_ok hT (by omega) n (TRow.same HT.out (Same.of_below (X := fun _ => True) hBT) (fun _ _ => trivial)) (fun k hk => HX2.out k (HTX.out k hk)) (by omega)
        have HLB := Lib.hid (led_back hLA n.toNat ts)
        have HBT := Lib.hid hBT
        clear hT hLA hBT
        go_wp2_with fail
        refine hre.mono ?_
        rintro e wR ⟨⟨xR, rfl⟩, hsR, ns, _, hdR⟩
        obtain ⟨hup, j, hj, hV⟩ := HLB.out ns
        have hrd := read_some (l := [102]) hdR (by unfold maxLen; simp) hup hj
        have hBR := HBT.out.trans (hsR.below HBT.out.size HX2.out)
        clear hre hdR hup hj hsR k0 k1
        go_wp2_with fail
        refine hrd.mono ?_
        rintro e wS ⟨y, rfl, hrow, hbS⟩
        have hBS := hBR.trans (hbS.mono hBR.size)
        have hcu := conv_b (HU.out.below hBS)
        have hcv := conv_b (HV.out.below hBS)
        have haw := awake_c wS
        clear hrd hBR hbS
        by_cases hwas : ((lostAll ts 0 ns (back dA n.toNat)).files j).bytes = was
        · rw [hwas] at hrow
          have hcb := conv_b (row_bytes hrow)
          obtain ⟨ya, yc, rfl⟩ := row_len hrow
          clear hrow hV hwas
          go_wp2_with fail
          refine haw.mono ?_
          rintro e wU ⟨rfl, hbU⟩
          go_wp2
          go_ret
          exact ⟨rfl, hBS.trans (hbU.mono hBS.size)⟩
        · have hthn : ((lostAll ts 0 ns (back dA n.toNat)).files j).bytes = thn := by
            rcases hV with h | h
            · exact absurd h hwas
            · exact h
          rw [hthn] at hrow hwas
          have hcb := conv_b (row_bytes hrow)
          obtain ⟨ya, yc, rfl⟩ := row_len hrow
          have hz : ((mk thn).toList == (mk was).toList) = false := by rw [mk_toList, mk_toList]; exact beq_false_of_ne hwas
          clear hrow hV hthn hwas
          go_wp2_with fail
          refine haw.mono ?_
          rintro e wU ⟨rfl, hbU⟩
          go_wp2
          go_ret
          exact ⟨rfl, hBS.trans (hbU.mono hBS.size)⟩
    · have hne : decide (n9 = 0) = false := decide_eq_false e9
      have hT := hd9.mono (show _ ≤ 12 by omega)
      clear hg9 hd9
      have hBT : Below w.heap.size w w9 := HB2.out.trans (HS9.out.below HB2.out.size HX2.out)
      have k0 : w9.cell? ⟨w.heap.size + 1, 0, none⟩ = some (.int .i64 n) := (HS9.out.cell (p := ⟨w.heap.size + 1, 0, none⟩) HLT.out HLT.out).trans C0.out
      have k1 : w9.cell? ⟨w.heap.size + 1, 1, none⟩ = some (.slice ta ts.length tc) := (HS9.out.cell (p := ⟨w.heap.size + 1, 1, none⟩) HLT.out HLT.out).trans C1.out
      have hre := restart_ok hT (by omega) n (TRow.same HT.out (Same.of_below (X := fun _ => True) hBT) (fun _ _ => trivial)) (fun k hk => HX2.out k (HTX.out k hk)) (by omega)
      have HLB := Lib.hid (led_back hL9 n.toNat ts)
      have HBT := Lib.hid hBT
      clear hT hL9 hBT
      go_wp2_with fail
      refine hre.mono ?_
      rintro e wR ⟨⟨xR, rfl⟩, hsR, ns, _, hdR⟩
      obtain ⟨hup, j, hj, hV⟩ := HLB.out ns
      have hrd := read_some (l := [102]) hdR (by unfold maxLen; simp) hup hj
      have hBR := HBT.out.trans (hsR.below HBT.out.size HX2.out)
      clear hre hdR hup hj hsR k0 k1
      go_wp2_with fail
      refine hrd.mono ?_
      rintro e wS ⟨y, rfl, hrow, hbS⟩
      have hBS := hBR.trans (hbS.mono hBR.size)
      have hcu := conv_b (HU.out.below hBS)
      have hcv := conv_b (HV.out.below hBS)
      have haw := awake_c wS
      clear hrd hBR hbS
      by_cases hwas : ((lostAll ts 0 ns (back d9 n.toNat)).files j).bytes = was
      · rw [hwas] at hrow
        have hcb := conv_b (row_bytes hrow)
        obtain ⟨ya, yc, rfl⟩ := row_len hrow
        clear hrow hV hwas
        go_wp2_with fail
        refine haw.mono ?_
        rintro e wU ⟨rfl, hbU⟩
        go_wp2
        go_ret
        exact ⟨rfl, hBS.trans (hbU.mono hBS.size)⟩
      · have hthn : ((lostAll ts 0 ns (back d9 n.toNat)).files j).bytes = thn := by
          rcases hV with h | h
          · exact absurd h hwas
          · exact h
        rw [hthn] at hrow hwas
        have hcb := conv_b (row_bytes hrow)
        obtain ⟨ya, yc, rfl⟩ := row_len hrow
        have hz : ((mk thn).toList == (mk was).toList) = false := by rw [mk_toList, mk_toList]; exact beq_false_of_ne hwas
        clear hrow hV hthn hwas
        go_wp2_with fail
        refine haw.mono ?_
        rintro e wU ⟨rfl, hbU⟩
        go_wp2
        go_ret
        exact ⟨rfl, hBS.trans (hbU.mono hBS.size)⟩
  · have hne : decide (n8 = 0) = false := decide_eq_false e8
    have hT := hd8.mono (show _ ≤ 12 by omega)
    clear hg8 hd8
    have hBT : Below w.heap.size w w8 := HB2.out.trans (HS8.out.below HB2.out.size HX2.out)
    have k0 : w8.cell? ⟨w.heap.size + 1, 0, none⟩ = some (.int .i64 n) := (HS8.out.cell (p := ⟨w.heap.size + 1, 0, none⟩) HLT.out HLT.out).trans C0.out
    have k1 : w8.cell? ⟨w.heap.size + 1, 1, none⟩ = some (.slice ta ts.length tc) := (HS8.out.cell (p := ⟨w.heap.size + 1, 1, none⟩) HLT.out HLT.out).trans C1.out
    have hre := restart_ok hT (by omega) n (TRow.same HT.out (Same.of_below (X := fun _ => True) hBT) (fun _ _ => trivial)) (fun k hk => HX2.out k (HTX.out k hk)) (by omega)
    have HLB := Lib.hid (led_back hL8 n.toNat ts)
    have HBT := Lib.hid hBT
    clear hT hL8 hBT
    go_wp2_with fail
    refine hre.mono ?_
    rintro e wR ⟨⟨xR, rfl⟩, hsR, ns, _, hdR⟩
    obtain ⟨hup, j, hj, hV⟩ := HLB.out ns
    have hrd := read_some (l := [102]) hdR (by unfold maxLen; simp) hup hj
    have hBR := HBT.out.trans (hsR.below HBT.out.size HX2.out)
    clear hre hdR hup hj hsR k0 k1
    go_wp2_with fail
    refine hrd.mono ?_
    rintro e wS ⟨y, rfl, hrow, hbS⟩
    have hBS := hBR.trans (hbS.mono hBR.size)
    have hcu := conv_b (HU.out.below hBS)
    have hcv := conv_b (HV.out.below hBS)
    have haw := awake_c wS
    clear hrd hBR hbS
    by_cases hwas : ((lostAll ts 0 ns (back d8 n.toNat)).files j).bytes = was
    · rw [hwas] at hrow
      have hcb := conv_b (row_bytes hrow)
      obtain ⟨ya, yc, rfl⟩ := row_len hrow
      clear hrow hV hwas
      go_wp2_with fail
      refine haw.mono ?_
      rintro e wU ⟨rfl, hbU⟩
      go_wp2
      go_ret
      exact ⟨rfl, hBS.trans (hbU.mono hBS.size)⟩
    · have hthn : ((lostAll ts 0 ns (back d8 n.toNat)).files j).bytes = thn := by
        rcases hV with h | h
        · exact absurd h hwas
        · exact h
      rw [hthn] at hrow hwas
      have hcb := conv_b (row_bytes hrow)
      obtain ⟨ya, yc, rfl⟩ := row_len hrow
      have hz : ((mk thn).toList == (mk was).toList) = false := by rw [mk_toList, mk_toList]; exact beq_false_of_ne hwas
      clear hrow hV hthn hwas
      go_wp2_with fail
      refine haw.mono ?_
      rintro e wU ⟨rfl, hbU⟩
      go_wp2
      go_ret
      exact ⟨rfl, hBS.trans (hbU.mono hBS.size)⟩

theorem slice_len {w : World} {v : Value} {bs : List UInt8} (h : BRow w v bs) : ∃ a c, v = .slice a bs.length c := by
  rcases h with ⟨rfl, rfl⟩ | ⟨a, c, rfl, _⟩
  · exact ⟨_, _, rfl⟩
  · exact ⟨_, _, rfl⟩

set_option maxRecDepth 100000 in
set_option maxHeartbeats 2000000 in
theorem renames_c {u v tv : Value} {was thn : List UInt8} {ts : List Int} (a n : Int) (ha : 0 ≤ a ∧ a ≤ 255) (w : World) (hu : BRow w u was) (hv : BRow w v thn) (ht : TRow w tv ts) (htX : ∀ k, Value.rowBlock tv = some k → k < w.heap.size) :
    Calls Try.prog 8 #[.agg #[u, v, .int .u8 a, .int .i64 n, tv]] w fun e w' => e = .returned (.bool true) ∧ Below w.heap.size w w' := by
  by_cases hs : was.length ≤ 1000 ∧ thn.length ≤ 1000 ∧ ts.length ≤ 20
  · exact renames_main a n ha w hu hv ht htX hs.1 hs.2.1 hs.2.2
  · obtain ⟨ua, uc, rfl⟩ := slice_len hu
    obtain ⟨va, vc, rfl⟩ := slice_len hv
    obtain ⟨ta, tc, rfl⟩ : ∃ a c, tv = .slice a ts.length c := by
      obtain ⟨a, c, rfl, _⟩ := ht
      exact ⟨_, _, rfl⟩
    clear hu hv ht htX
    have hB2 := (((Below.refl _ w).alloc (Nat.le_refl _) (.cells #[.slice ua was.length uc, .slice va thn.length vc, .int .u8 a, .int .i64 n, .slice ta ts.length tc] 57)).alloc (by simp) (.cells #[.int .i64 n, .slice ta ts.length tc] 30)).drew
    by_cases h1 : was.length ≤ 1000
    · by_cases h2 : thn.length ≤ 1000
      · have h3 : ¬ ts.length ≤ 20 := fun h3 => hs ⟨h1, h2, h3⟩
        clear hs
        go_enter Try.func8, Try.ntmps8
        go_wp2
        go_region
        go_wp2
        go_ret
        exact ⟨rfl, hB2⟩
      · clear hs
        go_enter Try.func8, Try.ntmps8
        go_wp2
        go_region
        go_wp2
        go_ret
        exact ⟨rfl, hB2⟩
    · clear hs
      go_enter Try.func8, Try.ntmps8
      go_wp2
      go_region
      go_wp2
      go_ret
      exact ⟨rfl, hB2⟩
end Go.Proofs.Ytkgipabcgbneoaa
