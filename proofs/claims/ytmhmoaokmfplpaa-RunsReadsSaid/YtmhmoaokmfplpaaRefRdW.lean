/-
  THE DOCUMENT's Read, WALKED.
-/
import Derived.Test.YtmhmoaokmfplpaaRefRdA
namespace Go.Proofs.Ytmhmoaokmfplpaa.Rn
open Go.RowKit
open Go.Proofs.Ytmhmoaokmfplpaa.Cr

set_option maxRecDepth 100000 in
set_option maxHeartbeats 8000000 in
theorem refRead_c {w : World} {a : Option Addr} {n c : Nat} {l : List Nat} (hn : Hid (n = l.length)) (hrow : Pk.Row w a l) (hl : ∀ x ∈ l, x < 256) (hlen : n ≤ 1000000) (hnc : n ≤ c) :
    Calls Try.prog 16 #[.slice a n c] w (RrQ w l) := by
  obtain ⟨W1, hW1⟩ : ∃ W, w.alloc (.cells #[.string ⟨#[]⟩, .string ⟨#[]⟩, .int .i64 0, .int .i64 0, .slice Option.none 0 0, .slice Option.none 0 0] 25) = W := ⟨_, rfl⟩
  have z1 : W1.heap.size = w.heap.size + 1 := by rw [← hW1]; exact Array.size_push _
  obtain ⟨W2, hW2⟩ : ∃ W, W1.alloc (.cells #[.slice a n c, .int .i64 0, .bool false] 85) = W := ⟨_, rfl⟩
  have z2 : W2.heap.size = W1.heap.size + 1 := by rw [← hW2]; exact Array.size_push _
  have hB1 : Below w.heap.size w W1 := by rw [← hW1]; exact Pk.below_alloc _ _
  have hB2 : Below w.heap.size w W2 := by rw [← hW2]; exact hB1.alloc hB1.size _
  obtain ⟨g, hg, hgB⟩ : ∃ g, g ≤ w.heap.size ∧ (l = [] ∨ ∃ off, a = some ⟨g, off, Option.none⟩ ∧ ∀ i, i < l.length → W2.cell? ⟨g, off + i, Option.none⟩ = some (.int .u8 ((l.getD i 0 : Nat) : Int))) := by
    rcases hrow with h | ⟨b, off, rfl, hb, hc⟩
    · exact ⟨w.heap.size, Nat.le_refl _, .inl h⟩
    · exact ⟨b, by omega, .inr ⟨off, rfl, fun i hi => (cell_of_block (j := off + i) (hB2.block b hb)).trans (hc i hi)⟩⟩
  have x0 : RP w W2 W1.heap.size g w.heap.size (s0 l) := by
    refine ⟨⟨by omega, by omega, a, n, c, 0, l, ?_, hn.out, by omega, hlen, hnc, (fun h => nomatch h), fun _ => rfl, hgB⟩, hl, ?_, by omega, ⟨Nat.le_refl _, by omega⟩, hB2⟩
    · rw [← hW2]; exact heap_alloc_new _ _
    · rw [← hW2, Below.heap_alloc _ _ _ (by omega), ← hW1]; exact heap_alloc_new _ _
  have hn1 := Pk.number_any W1.heap.size g l false 8 W2 x0.rd (fun h => nomatch h) (by omega) (by omega) hl
  have X0 := Lib.hid x0
  have hg2 : g < W1.heap.size := by omega
  have hlo := x0.lo
  have HLO := Lib.hid hlo
  clear x0 hgB hB1 hB2 z1 z2 hrow hlo hg
  go_enter Try.func16, Try.ntmps16
  go_wp2_with fail
  refine hn1.mono ?_
  rintro e W3 ⟨rfl, hr3, ho3⟩
  have x1 : RP w W3 W1.heap.size g w.heap.size (s1 l) := X0.out.step (s' := s1 l) hr3 ho3 (fun n hn => Pk.rdL_lt 8 hl n hn)
  have t1 := x1.text
  have X1 := Lib.hid x1
  obtain ⟨h, hh⟩ : ∃ h, Pk.rdN 8 l = h := ⟨_, rfl⟩
  have HH := Lib.hid hh
  rw [hh]
  obtain ⟨o, ho⟩ : ∃ o, (s1 l).tx = o := ⟨_, rfl⟩
  have HO := Lib.hid ho
  rw [ho] at t1
  clear hn1 x1 hr3 ho3 hh ho X0 hW1 hW2
  go_wp2_with fail
  refine t1.mono ?_
  rintro e W4 ⟨rfl, x2, -⟩
  have e2 : (s1 l).text = s2 l := by unfold s2; rfl
  rw [e2] at x2
  have t2 := x2.text
  obtain ⟨cc, hc⟩ : ∃ o, (s2 l).tx = o := ⟨_, rfl⟩
  have HC := Lib.hid hc
  rw [hc] at t2
  clear t1 X1 e2 x2 hc
  go_wp2_with fail
  refine t2.mono ?_
  rintro e W5 ⟨rfl, x3, -⟩
  have e3 : (s2 l).text = s3 l := by unfold s3; rfl
  rw [e3] at x3
  have hgW : g < W5.heap.size := by have := (rf_q x3.rd).1; omega
  have y3 := x3.made (o := o) (c := cc) (t := 0) (m := 0) hgW
  clear t2 e3 x3 hgW
  obtain ⟨b7, hb7⟩ : ∃ b, W5.heap.size = b := ⟨_, rfl⟩
  rw [hb7] at y3
  have HB7 := Lib.hid hb7
  have t3 := y3.time
  obtain ⟨tm, htm⟩ : ∃ o, (s3 l).tm = o := ⟨_, rfl⟩
  have HTM := Lib.hid htm
  have htl : tm < 18446744073709551616 := by rw [← htm]; exact rdN_lt8 y3.p.lt
  rw [htm] at t3
  clear y3 htm
  go_wp2_with fail
  try rw [hb7]
  clear hb7
  refine t3.mono ?_
  rintro e W6 ⟨rfl, y4⟩
  have e4 : (s3 l).time = s4 l := by unfold s4; rfl
  rw [e4] at y4
  have t4 := y4.time
  obtain ⟨mk, hmk⟩ : ∃ o, (s4 l).tm = o := ⟨_, rfl⟩
  have HMK := Lib.hid hmk
  have hml : mk < 18446744073709551616 := by rw [← hmk]; exact rdN_lt8 y4.p.lt
  rw [hmk] at t4
  clear t3 e4 y4 hmk
  go_wp2_with fail
  refine t4.mono ?_
  rintro e W7 ⟨rfl, y5⟩
  have e5 : (s4 l).time = s5 l := by unfold s5; rfl
  rw [e5] at y5
  have Y5 := Lib.hid y5
  clear t4 e5 y5
  go_upto_region 7 with fail
  go_cut [5] (fun s5 wx => Hid (s5 = .bool (lateB tm || lateB mk)) ∧ wx = W7)
  case first =>
    by_cases hT : (4611686018427387904 : Int) ≤ (tm : Int)
    · have HT := Lib.hid hT
      go_wp2_with fail
      go_meet
      exact ⟨Lib.hid (by unfold lateB; rw [decide_eq_true (by have := HT.out; omega)]; rfl), rfl⟩
    · have HT := Lib.hid hT
      by_cases hM : (4611686018427387904 : Int) ≤ (mk : Int)
      · have HM := Lib.hid hM
        go_wp2_with fail
        go_meet
        exact ⟨Lib.hid (by unfold lateB; rw [decide_eq_true (p := 4611686018427387904 ≤ mk) (by have := HM.out; omega)]; simp), rfl⟩
      · have HM := Lib.hid hM
        go_wp2_with fail
        go_meet
        exact ⟨Lib.hid (by unfold lateB; rw [decide_eq_false (p := 4611686018427387904 ≤ mk) (by have := HM.out; omega), decide_eq_false (p := 4611686018427387904 ≤ tm) (by have := HT.out; omega)]; rfl), rfl⟩
  case rest =>
    obtain ⟨h5, rfl⟩ := hcut
    obtain rfl := h5.out
    have eB : Hid (∃ B, B = (lateB tm || lateB mk)) := Lib.hid ⟨_, rfl⟩
    obtain ⟨B, hB⟩ := eB.out
    rw [← hB] at h5 ⊢
    have HB := Lib.hid hB
    clear hB eB h5
    obtain ⟨⟨c0, c1, c2, c3, c4, c5⟩, r0, r1, r2, r3, r4, r5⟩ := six_cells Y5.out.bx
    go_wp2_with fail
    have y6 := Y5.out.times ((tm : Int) % 4611686018427387904) ((mk : Int) % 4611686018427387904)
    have t5 := y6.count
    clear y6 c0 c1 c2 c3 c4 c5 r0 r1 r2 r3 r4 r5 Y5
    have late := Lib.hid (late5 l)
    obtain ⟨K, hK⟩ : ∃ K, (s5 l).ct = K := ⟨_, rfl⟩
    have HK := Lib.hid hK
    obtain ⟨S, hS⟩ : ∃ S, (s5 l).count = S := ⟨_, rfl⟩
    have HS := Lib.hid hS
    rw [hK, hS] at t5
    clear hK hS
    refine t5.mono ?_
    rintro e W8 ⟨rfl, y7⟩
    have hSl : S.late = B := by rw [← HS.out, late.out, HTM.out, HMK.out]; exact HB.out.symm
    have Y7 := Lib.hid y7
    have HSL := Lib.hid hSl
    have hKl : K < 4294967296 := by rw [← HK.out]; exact ct_lt hl
    clear t5 y7 hSl late
    generalize htd : (tm : Int) % 4611686018427387904 = td at *
    generalize hmd : (mk : Int) % 4611686018427387904 = md at *
    have HTD := Lib.hid htd
    have HMD := Lib.hid hmd
    clear htd hmd
    go_wp2_with fail
    go_loopw [5, 11] (fun s5 i wr => ∃ j : Nat, j ≤ K ∧ i = .int .u64 j ∧ ∃ I T vi, s5 = .bool (St.late T) ∧ Hid (insK j S = (I, T)) ∧ Hid (RX w wr W1.heap.size g w.heap.size b7 T o cc td md vi (.slice Option.none 0 0) (I.map dI) [])) (fun _ i _ => K - (intOf i).toNat)
    case atStart => exact ⟨0, Nat.zero_le _, rfl, [], S, .slice Option.none 0 0, by rw [HSL.out], Lib.hid rfl, Y7⟩
    case round =>
      obtain ⟨j, hj, rfl, I, T, vi, rfl, hT, hX⟩ := hrel
      clear Y7
      obtain ⟨d, hd⟩ : ∃ d, T.bad = d := ⟨_, rfl⟩
      have cb := (rf_q hX.out.p.rd).2
      rw [hd] at cb
      have HD := Lib.hid hd
      clear hd
      go_upto_region 11 with fail
      go_cut [55] (fun s55 wx => s55 = .bool (decide (j < K) && !d) ∧ wx = wr)
      case first =>
        by_cases hlt : j < K
        · have hli : (j : Int) < (K : Int) := by omega
          go_wp2_with fail
          go_meet
          exact ⟨by simp [hlt], rfl⟩
        · have hli : ¬ (j : Int) < (K : Int) := by omega
          go_wp2_with fail
          go_meet
          exact ⟨by simp [hlt], rfl⟩
      case rest =>
        obtain ⟨rfl, hwc⟩ := hcut
        subst hwc
        by_cases hgo : (decide (j < K) && !d) = true
        · obtain ⟨hlt, rfl⟩ : j < K ∧ d = false := by simpa using hgo
          have t1 := hX.out.text
          obtain ⟨nm, hnm⟩ : ∃ o, T.tx = o := ⟨_, rfl⟩
          rw [hnm] at t1
          have HNM := Lib.hid hnm
          rw [hgo]
          clear hnm hgo cb
          go_wp2_with fail
          refine t1.mono ?_
          rintro e V1 ⟨rfl, x1⟩
          have t2 := x1.time
          obtain ⟨nt, hnt⟩ : ∃ o, T.text.tm = o := ⟨_, rfl⟩
          have HNT := Lib.hid hnt
          have hnl : nt < 18446744073709551616 := by rw [← hnt]; exact rdN_lt8 x1.p.lt
          rw [hnt] at t2
          clear hnt t1 x1
          go_wp2_with fail
          refine t2.mono ?_
          rintro e V2 ⟨rfl, x2⟩
          have hTl : T.text.time.late = (T.late || lateB nt) := by rw [time_late, text_late, HNT.out]
          have X2 := Lib.hid x2
          have HTL := Lib.hid hTl
          clear t2 x2 hTl
          obtain ⟨b, hb⟩ : ∃ b, T.late = b := ⟨_, rfl⟩
          rw [hb]
          have HBL := Lib.hid hb
          clear hb
          go_upto_region 15 with fail
          go_cut [5] (fun s5 wx => s5 = .bool (b || lateB nt) ∧ wx = V2)
          case first =>
            cases b with
            | true =>
              go_wp2_with fail
              go_meet
              exact ⟨rfl, rfl⟩
            | false =>
              by_cases hT5 : (4611686018427387904 : Int) ≤ (nt : Int)
              · have HT5 := Lib.hid hT5
                go_wp2_with fail
                go_meet
                exact ⟨by unfold lateB; rw [decide_eq_true (by have := HT5.out; omega)]; rfl, rfl⟩
              · have HT5 := Lib.hid hT5
                go_wp2_with fail
                go_meet
                exact ⟨by unfold lateB; rw [decide_eq_false (by have := HT5.out; omega)]; rfl, rfl⟩
          case rest =>
            obtain ⟨rfl, hwc⟩ := hcut
            subst hwc
            obtain ⟨V2, rfl⟩ : ∃ V, V = wc := ⟨_, rfl⟩
            obtain ⟨⟨c0, c1, c2, c3, c4, c5⟩, -⟩ := six_cells X2.out.bx
            obtain ⟨i0, hi', hz0, hz1, hz2⟩ := info_parts Tq.infoD
            have hlI := isK_len hT.out
            have hml : (I.map dI).length + 1 ≤ maxLen := by rw [List.length_map]; unfold maxLen; omega
            have hby : ((I.map dI).length + 1) * 24 ≤ 140737488355328 := by rw [List.length_map]; omega
            have hoa : Hid (∀ ob, (V2.alloc ob).ownsRow (b7 + 1) 54 2 vi (I.map dI).length (inV (I.map dI))) := Lib.hid fun ob => owns_below X2.out.ins (Pk.below_alloc _ _)
            have hbs : Hid (∀ ob, b7 + 1 ≤ (V2.alloc ob).heap.size) := Lib.hid fun ob => by have := lt_some X2.out.bx; have := (Pk.below_alloc V2 ob).size; omega
            have HN := Lib.hid (Tq.in_newsD V2 nm ((nt : Int) % 4611686018427387904))
            clear hlI
            go_wp2_with (at_builtin; refine wpList_append_own _ rfl (.tmp 68) (.tmp 74) 22 rfl (b7 + 1) 54 i0 (.agg #[.string ⟨#[]⟩, .int .i64 0]) 2 24 Try.underlying22 hi' hz0 hz1 hz2 rfl (by decide) vi (I.map dI).length (inV (I.map dI)) rfl (hoa.out _) ⟨V2.heap.size, 0, Option.none⟩ 1 1 [.string nm, .int .i64 ((nt : Int) % 4611686018427387904)] rfl rfl HN.out.1 HN.out.2 hml hby (hbs.out _) ?_; intro vn W9 hown9 hg9 _; obtain ⟨va, vc, rfl⟩ := own_slice hown9; obtain ⟨⟨p0, p1, p2, p3, p4, p5⟩, f0, f1, f2, f3, f4, f5⟩ := six_cells (X2.out.box5 hg9); have HE := Lib.hid (X2.out.putIn (x := dI (nm, nt)) hg9 hown9); clear hown9 hg9)
            go_roundw
            case rel => exact ⟨j + 1, by omega, by go_num, I ++ [(nm, nt)], T.text.time, .slice va (I.length + 1) vc, by rw [HTL.out, HBL.out], Lib.hid (by have := isK_next hT.out HD.out; rw [HNM.out, HNT.out] at this; exact this), Lib.hid (by have := HE.out; simp only [List.length_map] at this; rw [List.map_append]; exact this)⟩
            case measure => simp [intOf]; omega
        · have hend := isK_end hj hT.out (by rw [HD.out]; exact hgo)
          have hgo' : (decide (j < K) && !d) = false := by simpa using hgo
          rw [hgo']
          obtain ⟨hI7, hT7⟩ := Prod.mk.inj (show (I, T) = (rdIns l, s7 l) by rw [← hend, ← HS.out, ← HK.out]; exact E7' l)
          have HI7 := Lib.hid hI7
          have HT7 := Lib.hid hT7
          have hTlt := hX.out.p.lt
          have t1 := hX.out.count
          obtain ⟨K2, hK2⟩ : ∃ K2, T.ct = K2 := ⟨_, rfl⟩
          have HK2 := Lib.hid hK2
          have hK2l : K2 < 4294967296 := by rw [← hK2]; exact Nat.lt_of_lt_of_le (Pk.rdN_lt 4 hTlt) (by decide)
          obtain ⟨S2, hS2⟩ : ∃ S2, T.count = S2 := ⟨_, rfl⟩
          have HS2 := Lib.hid hS2
          rw [hK2, hS2] at t1
          clear hend hgo' hgo hI7 hT7 hTlt hK2 hS2 cb
          go_wp2_with fail
          refine t1.mono ?_
          rintro e W9 ⟨rfl, x9⟩
          have X9 := Lib.hid x9
          have hSl2 : S2.late = T.late := by rw [← HS2.out, count_late]
          have HSL2 := Lib.hid hSl2
          clear t1 x9 hSl2
          go_wp2_with fail
          go_loopw [5, 14] (fun s5 i wr => ∃ j : Nat, j ≤ K2 ∧ i = .int .u64 j ∧ ∃ F T2 vf, s5 = .bool (St.late T2) ∧ Hid (fdsK j S2 = (F, T2)) ∧ Hid (RX w wr W1.heap.size g w.heap.size b7 T2 o cc td md vi vf (I.map dI) (F.map dT))) (fun _ i _ => K2 - (intOf i).toNat)
          case atStart => exact ⟨0, Nat.zero_le _, rfl, [], S2, .slice Option.none 0 0, by rw [HSL2.out], Lib.hid rfl, X9⟩
          case round =>
            clear hX hT
            obtain ⟨j, hj, rfl, F, T2, vf, rfl, hT, hX⟩ := hrel
            clear X9
            obtain ⟨d, hd⟩ : ∃ d, T2.bad = d := ⟨_, rfl⟩
            have cb := (rf_q hX.out.p.rd).2
            rw [hd] at cb
            have HD := Lib.hid hd
            clear hd
            go_upto_region 19 with fail
            go_cut [88] (fun s88 wx => s88 = .bool (decide (j < K2) && !d) ∧ wx = wr)
            case first =>
              by_cases hlt : j < K2
              · have hli : (j : Int) < (K2 : Int) := by omega
                go_wp2_with fail
                go_meet
                exact ⟨by simp [hlt], rfl⟩
              · have hli : ¬ (j : Int) < (K2 : Int) := by omega
                go_wp2_with fail
                go_meet
                exact ⟨by simp [hlt], rfl⟩
            case rest =>
              obtain ⟨rfl, hwc⟩ := hcut
              subst hwc
              by_cases hgo : (decide (j < K2) && !d) = true
              · obtain ⟨hlt, rfl⟩ : j < K2 ∧ d = false := by simpa using hgo
                have t2 := hX.out.time
                obtain ⟨nt, hnt⟩ : ∃ o, T2.tm = o := ⟨_, rfl⟩
                have HNT := Lib.hid hnt
                have hnl : nt < 18446744073709551616 := by rw [← hnt]; exact rdN_lt8 hX.out.p.lt
                rw [hnt] at t2
                rw [hgo]
                clear hnt hgo cb
                go_wp2_with fail
                refine t2.mono ?_
                rintro e V2 ⟨rfl, x2⟩
                have hTl : T2.time.late = (T2.late || lateB nt) := by rw [time_late, HNT.out]
                have X2 := Lib.hid x2
                have HTL := Lib.hid hTl
                clear t2 x2 hTl
                obtain ⟨b, hb⟩ : ∃ b, T2.late = b := ⟨_, rfl⟩
                rw [hb]
                have HBL := Lib.hid hb
                clear hb
                go_upto_region 22 with fail
                go_cut [5] (fun s5 wx => s5 = .bool (b || lateB nt) ∧ wx = V2)
                case first =>
                  cases b with
                  | true =>
                    go_wp2_with fail
                    go_meet
                    exact ⟨rfl, rfl⟩
                  | false =>
                    by_cases hT5 : (4611686018427387904 : Int) ≤ (nt : Int)
                    · have HT5 := Lib.hid hT5
                      go_wp2_with fail
                      go_meet
                      exact ⟨by unfold lateB; rw [decide_eq_true (by have := HT5.out; omega)]; rfl, rfl⟩
                    · have HT5 := Lib.hid hT5
                      go_wp2_with fail
                      go_meet
                      exact ⟨by unfold lateB; rw [decide_eq_false (by have := HT5.out; omega)]; rfl, rfl⟩
                case rest =>
                  obtain ⟨rfl, hwc⟩ := hcut
                  subst hwc
                  obtain ⟨V2, rfl⟩ : ∃ V, V = wc := ⟨_, rfl⟩
                  obtain ⟨⟨c0, c1, c2, c3, c4, c5⟩, -⟩ := six_cells X2.out.bx
                  obtain ⟨i0, hi', hz0, hz1, hz2⟩ := info_parts info3
                  have hlI := fsK_len hT.out
                  have hml : (F.map dT).length + 1 ≤ maxLen := by rw [List.length_map]; unfold maxLen; omega
                  have hby : ((F.map dT).length + 1) * 8 ≤ 140737488355328 := by rw [List.length_map]; omega
                  have hoa : Hid (∀ ob, (V2.alloc ob).ownsRow (b7 + 1) 3 1 vf (F.map dT).length (tV (F.map dT))) := Lib.hid fun ob => owns_below X2.out.fds (Pk.below_alloc _ _)
                  have hbs : Hid (∀ ob, b7 + 1 ≤ (V2.alloc ob).heap.size) := Lib.hid fun ob => by have := lt_some X2.out.bx; have := (Pk.below_alloc V2 ob).size; omega
                  have HN := Lib.hid (fd_newsD V2 ((nt : Int) % 4611686018427387904))
                  clear hlI
                  go_wp2_with (at_builtin; refine wpList_append_own _ rfl (.tmp 99) (.tmp 103) 23 rfl (b7 + 1) 3 i0 (.int .i64 0) 1 8 Try.underlying23 hi' hz0 hz1 hz2 rfl (by decide) vf (F.map dT).length (tV (F.map dT)) rfl (hoa.out _) ⟨V2.heap.size, 0, Option.none⟩ 1 1 [.int .i64 ((nt : Int) % 4611686018427387904)] rfl rfl HN.out.1 HN.out.2 hml hby (hbs.out _) ?_; intro vn W9 hown9 hg9 _; obtain ⟨va, vc, rfl⟩ := own_slice hown9; obtain ⟨⟨p0, p1, p2, p3, p4, p5⟩, f0, f1, f2, f3, f4, f5⟩ := six_cells (X2.out.box6 hg9); have HE := Lib.hid (X2.out.putFd (x := dT nt) hg9 hown9); clear hown9 hg9)
                  go_roundw
                  case rel => exact ⟨j + 1, by omega, by go_num, F ++ [nt], T2.time, .slice va (F.length + 1) vc, by rw [HTL.out, HBL.out], Lib.hid (by have := fsK_next hT.out HD.out; rw [HNT.out] at this; exact this), Lib.hid (by have := HE.out; simp only [List.length_map] at this; rw [List.map_append]; exact this)⟩
                  case measure => simp [intOf]; omega
              · have hend := fsK_end hj hT.out (by rw [HD.out]; exact hgo)
                have hgo' : (decide (j < K2) && !d) = false := by simpa using hgo
                rw [hgo']
                obtain ⟨hF9, hT9⟩ := Prod.mk.inj (show (F, T2) = (rdFds l, s9 l) by rw [← hend, ← HS2.out, ← HK2.out, HT7.out]; exact E9' l)
                have HF9 := Lib.hid hF9
                have HFIT := Lib.hid (fits_of hl hT9.symm)
                clear hend hgo' hgo hF9 hT9
                obtain ⟨lt, hlt9⟩ : ∃ b, T2.late = b := ⟨_, rfl⟩
                rw [hlt9]
                have HLT := Lib.hid hlt9
                obtain ⟨ia, ic, rfl⟩ := own_slice hX.out.ins
                obtain ⟨fa, fc, rfl⟩ := own_slice hX.out.fds
                obtain ⟨⟨c0, c1, c2, c3, c4, c5⟩, -⟩ := six_cells hX.out.bx
                obtain ⟨⟨k0, k1, k2, k3, k4, k5⟩, r0, r1, r2, r3, r4, r5⟩ := six_cells hX.out.p.b2c
                have B2 := Lib.hid hX.out.p.b2c
                have BEL := Lib.hid (Below.refl wc.heap.size wc)
                have hcs : cc.size ≤ 140737488351232 := by rw [← HC.out]; exact cc_size (by have := hn.out; omega)
                have hleft := Pk.refleft_any W1.heap.size g T2.l T2.bad wc hX.out.p.rd
                clear hlt9
                cases lt with
                | true =>
                  have NOFIT : Hid (fits l = false) := Lib.hid (by rw [HFIT.out, HLT.out]; simp)
                  clear hleft
                  go_wp2_with fail
                  obtain ⟨⟨s0', s1', s2', s3', s4', s5'⟩, -⟩ := six_cells (six_same (v0 := .string ⟨#[]⟩) (v1 := .string ⟨#[]⟩) (v2 := .int .i64 0) (v3 := .int .i64 0) (v4 := .slice Option.none 0 0) (v5 := .slice Option.none 0 0) B2.out)
                  unfold six at s0' s1' s2' s3' s4' s5'
                  refine bodyPost_ret (v := .tuple #[.agg #[.string ⟨#[]⟩, .string ⟨#[]⟩, .int .i64 0, .int .i64 0, .slice Option.none 0 0, .slice Option.none 0 0], .bool false]) (by simp [results, Try.f16, go_sem, s0', s1', s2', s3', s4', s5']) rfl ?_
                  exact rr_no NOFIT.out hX.out BEL.out
                | false =>
                  cases d with
                  | true =>
                    have NOFIT : Hid (fits l = false) := Lib.hid (by rw [HFIT.out, HD.out]; simp)
                    clear hleft
                    go_wp2_with fail
                    obtain ⟨⟨s0', s1', s2', s3', s4', s5'⟩, -⟩ := six_cells (six_same (v0 := .string ⟨#[]⟩) (v1 := .string ⟨#[]⟩) (v2 := .int .i64 0) (v3 := .int .i64 0) (v4 := .slice Option.none 0 0) (v5 := .slice Option.none 0 0) B2.out)
                    unfold six at s0' s1' s2' s3' s4' s5'
                    refine bodyPost_ret (v := .tuple #[.agg #[.string ⟨#[]⟩, .string ⟨#[]⟩, .int .i64 0, .int .i64 0, .slice Option.none 0 0, .slice Option.none 0 0], .bool false]) (by simp [results, Try.f16, go_sem, s0', s1', s2', s3', s4', s5']) rfl ?_
                    exact rr_no NOFIT.out hX.out BEL.out
                  | false =>
                    obtain ⟨mm, hmm⟩ : ∃ m, T2.l.length = m := ⟨_, rfl⟩
                    have HMM := Lib.hid hmm
                    rw [hmm] at hleft
                    clear hmm
                    by_cases hpos : 0 < mm
                    · have hposi : (0 : Int) < (mm : Int) := by omega
                      have hie : T2.l.isEmpty = false := by
                        have := HMM.out
                        cases h : T2.l with
                        | nil => rw [h] at this; simp at this; omega
                        | cons _ _ => rfl
                      have NOFIT : Hid (fits l = false) := Lib.hid (by rw [HFIT.out, hie]; simp)
                      clear hie
                      go_wp2_with fail
                      refine hleft.mono ?_
                      rintro e w' ⟨rfl, kk, rfl⟩
                      clear hleft
                      have BEL := Lib.hid (below_drawn (Below.refl wc.heap.size wc) kk)
                      have B2 := Lib.hid (show (wc.drewN kk).heap[w.heap.size]? = _ from B2.out)
                      obtain ⟨⟨k0, k1, k2, k3, k4, k5⟩, r0, r1, r2, r3, r4, r5⟩ := six_cells B2.out
                      go_wp2_with fail
                      obtain ⟨⟨s0', s1', s2', s3', s4', s5'⟩, -⟩ := six_cells (six_same (v0 := .string ⟨#[]⟩) (v1 := .string ⟨#[]⟩) (v2 := .int .i64 0) (v3 := .int .i64 0) (v4 := .slice Option.none 0 0) (v5 := .slice Option.none 0 0) B2.out)
                      unfold six at s0' s1' s2' s3' s4' s5'
                      refine bodyPost_ret (v := .tuple #[.agg #[.string ⟨#[]⟩, .string ⟨#[]⟩, .int .i64 0, .int .i64 0, .slice Option.none 0 0, .slice Option.none 0 0], .bool false]) (by simp [results, Try.f16, go_sem, s0', s1', s2', s3', s4', s5']) rfl ?_
                      exact rr_no NOFIT.out hX.out BEL.out
                    · have hposi : ¬ (0 : Int) < (mm : Int) := by omega
                      have hie : T2.l.isEmpty = true := by
                        have := HMM.out
                        cases h : T2.l with
                        | nil => rfl
                        | cons _ _ => rw [h] at this; simp at this; omega
                      have HIE := Lib.hid hie
                      clear hie
                      go_wp2_with fail
                      refine hleft.mono ?_
                      rintro e w' ⟨rfl, kk, rfl⟩
                      clear hleft
                      have c1' : (wc.drewN kk).cell? ⟨b7, 1, Option.none⟩ = some (.string cc) := c1
                      obtain ⟨cap, V1, hrun, hrow1, hB1⟩ := conv_str (wc.drewN kk) cc
                      have hh := Ch.refhash_any (some ⟨(wc.drewN kk).heap.size, 0, Option.none⟩) cc.size cap (Pk.sb cc) V1 (Pk.sb_lt _) (by rw [Pk.sb_length]; omega) (by rw [Pk.sb_length]) hrow1
                      have hbel : Below wc.heap.size wc V1 := (below_drawn (Below.refl wc.heap.size wc) kk).trans hB1
                      have BEL := Lib.hid hbel
                      have B2 := Lib.hid ((hbel.block _ (lt_some B2.out)).trans B2.out)
                      have BX := Lib.hid ((hbel.block _ (lt_some hX.out.bx)).trans hX.out.bx)
                      clear hbel hB1 hrow1 k0 k1 k2 k3 k4 k5 r0 r1 r2 r3 r4 r5 c0 c1 c2 c3 c4 c5
                      obtain ⟨⟨k0, k1, k2, k3, k4, k5⟩, r0, r1, r2, r3, r4, r5⟩ := six_cells B2.out
                      obtain ⟨⟨c0, c1, c2, c3, c4, c5⟩, -⟩ := six_cells BX.out
                      obtain ⟨y, hy⟩ : ∃ y, Crc.hash (Pk.sb cc) = y := ⟨_, rfl⟩
                      have HY := Lib.hid hy
                      rw [hy] at hh
                      clear hy
                      go_wp2_with fail
                      refine hh.mono ?_
                      rintro e w' ⟨rfl, rfl⟩
                      by_cases hxy : h = y
                      · have t1 : ((h : Int) != (y : Int)) = false := by rw [hxy]; simp
                        have HXY := Lib.hid hxy
                        clear hxy hh
                        have FITS : Hid (fits l = true) := Lib.hid (by rw [HFIT.out, HD.out, HIE.out, HLT.out, HH.out, HC.out, HY.out, HXY.out]; simp)
                        go_wp2_with fail
                        have hlI : (I.map dI).length = I.length := List.length_map _
                        have hlF : (F.map dT).length = F.length := List.length_map _
                        have key := rr_yes (v0 := .string o) (v1 := .string cc) (v2 := .int .i64 td) (v3 := .int .i64 md) (v4 := .slice ia (I.map dI).length ic) (v5 := .slice fa (F.map dT).length fc) hl FITS.out hX.out BEL.out HO.out.symm HC.out.symm (by rw [HTM.out]; exact HTD.out.symm) (by rw [HMK.out]; exact HMD.out.symm) (by rw [HI7.out]) (by rw [HF9.out])
                        obtain ⟨⟨s0', s1', s2', s3', s4', s5'⟩, -⟩ := six_cells (six_same (v0 := .string o) (v1 := .string cc) (v2 := .int .i64 td) (v3 := .int .i64 md) (v4 := .slice ia (I.map dI).length ic) (v5 := .slice fa (F.map dT).length fc) B2.out)
                        unfold six at s0' s1' s2' s3' s4' s5'
                        rw [hlI, hlF] at key s0' s1' s2' s3' s4' s5'
                        refine bodyPost_ret (v := .tuple #[.agg #[.string o, .string cc, .int .i64 td, .int .i64 md, .slice ia I.length ic, .slice fa F.length fc], .bool true]) (by simp [results, Try.f16, go_sem, s0', s1', s2', s3', s4', s5']) rfl ?_
                        exact key
                      · have t1 : ((h : Int) != (y : Int)) = true := by simp; omega
                        have t2 : (h == y) = false := by simpa using hxy
                        have T2' := Lib.hid t2
                        have NOFIT : Hid (fits l = false) := Lib.hid (by rw [HFIT.out, HH.out, HC.out, HY.out, T2'.out]; simp)
                        clear hxy hh t2
                        go_wp2_with fail
                        obtain ⟨⟨s0', s1', s2', s3', s4', s5'⟩, -⟩ := six_cells (six_same (v0 := .string ⟨#[]⟩) (v1 := .string ⟨#[]⟩) (v2 := .int .i64 0) (v3 := .int .i64 0) (v4 := .slice Option.none 0 0) (v5 := .slice Option.none 0 0) B2.out)
                        unfold six at s0' s1' s2' s3' s4' s5'
                        refine bodyPost_ret (v := .tuple #[.agg #[.string ⟨#[]⟩, .string ⟨#[]⟩, .int .i64 0, .int .i64 0, .slice Option.none 0 0, .slice Option.none 0 0], .bool false]) (by simp [results, Try.f16, go_sem, s0', s1', s2', s3', s4', s5']) rfl ?_
                        exact rr_no NOFIT.out hX.out BEL.out
end Go.Proofs.Ytmhmoaokmfplpaa.Rn
