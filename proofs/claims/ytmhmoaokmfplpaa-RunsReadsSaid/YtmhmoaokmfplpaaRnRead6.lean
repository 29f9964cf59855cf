/-
  runs.Read, WALKED WHOLE.
-/
import Derived.Test.YtmhmoaokmfplpaaRnRead5
namespace Go.Proofs.Ytmhmoaokmfplpaa.Rn
open Go.RowKit
open Go.Proofs.Ytmhmoaokmfplpaa.Cr

set_option maxRecDepth 100000 in
set_option maxHeartbeats 8000000 in
theorem read_c {w : World} {a : Option Addr} {n c : Nat} {l : List Nat} (hn : Hid (n = l.length)) (hrow : Pk.Row w a l) (hl : ∀ x ∈ l, x < 256) (hlen : n ≤ 1000000) :
    Calls Try.prog 15 #[.slice a n c] w (RdQ w l) := by
  obtain ⟨w1, hw1⟩ : ∃ W, w.alloc (.cells #[.string ⟨#[]⟩, .string ⟨#[]⟩, .int .i64 0, .int .i64 0, .slice Option.none 0 0, .slice Option.none 0 0] 33) = W := ⟨_, rfl⟩
  have z1 : w1.heap.size = w.heap.size + 1 := by rw [← hw1]; exact Array.size_push _
  have hB1 : Below w.heap.size w w1 := by rw [← hw1]; exact Pk.below_alloc _ _
  have h2 : w1.heap[w.heap.size]? = some (.cells #[.string ⟨#[]⟩, .string ⟨#[]⟩, .int .i64 0, .int .i64 0, .slice Option.none 0 0, .slice Option.none 0 0] 33 (0, 0)) := by rw [← hw1]; exact heap_alloc_new _ _
  have hnew := Pk.new_any a n c l w1 hn (hrow.below hB1) hlen
  have H2 := Lib.hid h2
  have HB1 := Lib.hid hB1
  have Z1 := Lib.hid z1
  clear h2 hB1 hrow z1
  go_enter Try.func15, Try.ntmps15
  go_wp2_with fail
  refine hnew.mono ?_
  rintro e w2 ⟨p, hp, rfl, hrd, hB2⟩
  clear hnew
  have hpl : p < w2.heap.size := by
    obtain ⟨_, _, v, hv, _⟩ := hrd
    exact lt_some hv
  obtain ⟨b4, hb4⟩ : ∃ x, x = w2.heap.size := ⟨_, rfl⟩
  obtain ⟨w3, hw3⟩ : ∃ W, ((w2.alloc (.cells #[.pointer (some ⟨p, 0, Option.none⟩)] 76)).alloc (.cells #[.bool false] 4)).alloc (.cells #[.func (.func 40) #[] #[.pointer (some ⟨w2.heap.size, 0, Option.none⟩), .pointer (some ⟨w2.heap.size + 1, 0, Option.none⟩)]] 79) = W := ⟨_, rfl⟩
  have y1 : (w2.alloc (.cells #[.pointer (some ⟨p, 0, Option.none⟩)] 76)).heap.size = w2.heap.size + 1 := Array.size_push _
  have y2 : ((w2.alloc (.cells #[.pointer (some ⟨p, 0, Option.none⟩)] 76)).alloc (.cells #[.bool false] 4)).heap.size = w2.heap.size + 1 + 1 := (Array.size_push _).trans (by rw [y1])
  have y3 : w3.heap.size = w2.heap.size + 1 + 1 + 1 := by rw [← hw3]; exact (Array.size_push _).trans (by rw [y2])
  have hB23 : Below w2.heap.size w2 w3 := by
    rw [← hw3]
    exact (((Below.refl _ _).alloc (Nat.le_refl _) _).alloc (by rw [y1]; omega) _).alloc (by rw [y2]; omega) _
  have k4 : w3.heap[w2.heap.size]? = some (.cells #[.pointer (some ⟨p, 0, Option.none⟩)] 76 (0, 0)) := by
    rw [← hw3, Below.heap_alloc _ _ _ (by rw [y2]; omega), Below.heap_alloc _ _ _ (by rw [y1]; omega)]
    exact heap_alloc_new _ _
  have k5 : w3.heap[w2.heap.size + 1]? = some (.cells #[.bool false] 4 (0, 0)) := by
    rw [← hw3, Below.heap_alloc _ _ _ (by rw [y2]; omega), ← y1]
    exact heap_alloc_new _ _
  have k6 : w3.heap[w2.heap.size + 1 + 1]? = some (.cells #[timeF w2.heap.size (w2.heap.size + 1)] 79 (0, 0)) := by
    rw [← hw3, ← y2]
    exact heap_alloc_new _ _
  have hr3 : RdS w3 p w1.heap.size w2.heap.size (w2.heap.size + 1) (w2.heap.size + 1 + 1) (s0 l) := by
    refine ⟨?_, k4, k5, k6, hl, by show l.length ≤ _; have := hn.out; omega, by have := hB2.size; omega⟩
    obtain ⟨hne, hlt, v, hv, hg⟩ := hrd
    refine ⟨hne, Nat.lt_of_lt_of_le hlt hB23.size, v, (hB23.block _ hpl).trans hv, ?_⟩
    rcases hg with h | ⟨off, c, e, hc, hcell⟩
    · exact .inl h
    · exact .inr ⟨off, c, e, hc, fun i hi => (cell_of_block (hB23.block _ hlt)).trans (hcell i hi)⟩
  obtain ⟨c4, _⟩ := one_cell hr3.h4
  obtain ⟨c6, _⟩ := one_cell hr3.h6
  have HR3 := Lib.hid hr3
  have HB3 := Lib.hid (HB1.out.trans ((hB2.mono HB1.out.size).trans (hB23.mono (Nat.le_trans HB1.out.size hB2.size))))
  have H23 := Lib.hid ((hB23.block _ (Nat.lt_of_lt_of_le (lt_some H2.out) hB2.size)).trans ((hB2.block _ (lt_some H2.out)).trans H2.out))
  clear hr3 k4 k5 k6 hB23 hB2 hrd y1 y2 H2
  have ht := told_c HR3.out
  go_wp2_with fail
  refine ht.mono ?_
  rintro e w4 ⟨rfl, hr4, ho4⟩
  clear ht c4 c6
  have x4 : Go1 w3 w4 p w1.heap.size w2.heap.size (w2.heap.size + 1) (w2.heap.size + 1 + 1) Option.none (s1 l) := ⟨hr4, only_off ho4 (.inl rfl), (fun k hk => nomatch hk), by omega, by omega, by omega, by omega, by omega⟩
  clear hr4 ho4
  go_upto_region 5 with fail
  go_cut [9] (fun s9 wx => RegQ w3 p w1.heap.size w2.heap.size (w2.heap.size + 1) (w2.heap.size + 1 + 1) (s1 l).text.text.time.time (s1 l).tx (s1 l).text.tx (tmI (s1 l).text.text.tm) (tmI (s1 l).text.text.time.tm) s9 wx)
  case first =>
    have cS0 := conjS x4.rd
    have X4 := Lib.hid x4.drew
    have cS1 := conjS x4.drew.rd
    have cA1 := Lib.hid (conjA x4.drew.rd)
    have cA0 := Lib.hid (fun ob => conjS (x4.rd.alloc ob).drew)
    have X4b := Lib.hid x4.alloc.drew
    clear x4
    go_region_held3 (fun w' => w'.cell? ⟨w2.heap.size, 0, Option.none⟩ = some (.pointer (some ⟨p, 0, Option.none⟩)) ∧ w'.cell? ⟨w2.heap.size + 1 + 1, 0, Option.none⟩ = some (.func (.func 40) #[] #[.pointer (some ⟨w2.heap.size, 0, Option.none⟩), .pointer (some ⟨w2.heap.size + 1, 0, Option.none⟩)])) (first | with_reducible exact cS0 | with_reducible exact cA0.out _ | with_reducible exact cS1 | with_reducible exact cS2 | with_reducible exact cS3 | with_reducible exact cS4 | with_reducible exact cS5 | with_reducible exact cA1.out _ | with_reducible exact cA2.out _ | with_reducible exact cA3.out _ | with_reducible exact cA4.out _ | with_reducible exact cA5.out _ | with_reducible exact cB.out _ _ _ _ _ _)
      (first
        | (go_at_call 45; (first | (with_reducible refine (go1Text X4.out).mono ?_) | (with_reducible refine (go1Text X4b.out).mono ?_) | (with_reducible refine (go1Text X4.out.alloc).mono ?_)); rintro e w5 ⟨rfl, x5⟩; have cS2 := conjS x5.rd; have cA2 := Lib.hid (conjA x5.rd); have X5 := Lib.hid x5; clear x5 X4 X4b)
        | (go_at_call 45; (first | (with_reducible refine (go1Text X5.out).mono ?_) | (with_reducible refine (go1Text X5.out.alloc).mono ?_)); rintro e w6 ⟨rfl, x6⟩; have cS3 := conjS x6.rd; have cA3 := Lib.hid (conjA x6.rd); have X6 := Lib.hid x6; clear x6 X5)
        | (go_at_call 40; (first | (with_reducible refine (go1Time X6.out).mono ?_) | (with_reducible refine (go1Time X6.out.alloc).mono ?_)); rintro e w7 ⟨rfl, x7⟩; have cS4 := conjS x7.rd; have cA4 := Lib.hid (conjA x7.rd); have X7 := Lib.hid x7; clear x7 X6)
        | (go_at_call 40; (first | (with_reducible refine (go1Time X7.out).mono ?_) | (with_reducible refine (go1Time X7.out.alloc).mono ?_)); rintro e w8 ⟨rfl, x8⟩; (try (obtain ⟨⟨q0, q1, q2, q3, q4, q5⟩, r0, r1, r2, r3, r4, r5⟩ := zcells x8; have cB := Lib.hid (conjB x8))); have cS5 := conjS x8.rd; have cA5 := Lib.hid (conjA x8.rd); have X8 := Lib.hid x8; clear x8 X7))
    all_goals
      go_wp2_with fail
      go_meet
      first
        | with_reducible exact reg_six X8.out
        | with_reducible exact reg_new X8.out
  case rest =>
    obtain ⟨b9, rfl, hr5, hbx, hof, hle⟩ := hcut
    rw [E5] at hr5
    obtain ⟨lp, lg, l4, l5, l6⟩ := x4.lo
    have e7 := E7' l
    have e9 := E9' l
    have ho := rdR_out l
    have hc := rdR_cmd l
    have et3 : (s1 l).text.text.tm = (s3 l).tm := by simp only [s3, s2]
    have et4 : (s1 l).text.text.time.tm = (s4 l).tm := by simp only [s4, s3, s2]
    have ec2 : (s1 l).text.tx = (s2 l).tx := by simp only [s2]
    rw [et3, et4, ec2] at hbx
    clear et3 et4 ec2 x4
    generalize (s1 l).tx = o at hbx ho
    generalize (s2 l).tx = cc at hbx hc
    generalize hs5 : s5 l = S5 at hr5 e7
    generalize hs7 : s7 l = S7 at e7 e9
    generalize hI : rdIns l = I at e7
    generalize hF : rdFds l = F at e9
    generalize hs9 : s9 l = S9 at e9
    generalize ht3 : tmI (s3 l).tm = t3 at hbx
    generalize ht4 : tmI (s4 l).tm = t4 at hbx
    have HO := Lib.hid ho
    have HC := Lib.hid hc
    have HS9 := Lib.hid hs9
    have HI := Lib.hid hI
    have HF := Lib.hid hF
    have HT3 := Lib.hid ht3
    have HT4 := Lib.hid ht4
    have hi := insL_c e7 hr5 hbx hof.size hle lp lg l4 l5 l6
    have HE9 := Lib.hid e9
    obtain ⟨c4, _⟩ := one_cell hr5.h4
    have HOF := Lib.hid hof
    have HHL := Lib.hid hle
    clear hr5 hbx hof hs5 hs7 hI hF hs9 ht3 ht4 e7 e9 ho hc
    go_wp2_with fail
    refine hi.mono ?_
    rintro e w9 ⟨⟨z9, rfl⟩, hr7, ⟨vi, hbx⟩, hof⟩
    have HOF9 := Lib.hid (HOF.out.trans hof)
    have hj := fdsL_c HE9.out hr7 hbx HOF9.out.size HHL.out lp lg l4 l5 l6
    clear c4
    obtain ⟨c4, _⟩ := one_cell hr7.h4
    clear hi hr7 hbx hof HOF
    go_wp2_with fail
    refine hj.mono ?_
    rintro e w10 ⟨⟨z10, rfl⟩, hr9, ⟨vf, hbx⟩, hof⟩
    have HOF10 := Lib.hid (HOF9.out.trans hof)
    clear c4
    obtain ⟨c4, _⟩ := one_cell hr9.h4
    have hri := Pk.right_any p _ _ _ w10 hr9.rd
    have hle' := Pk.left_any p _ _ _ w10 hr9.rd
    have h2 : w10.heap[w.heap.size]? = some (.cells #[.string ⟨#[]⟩, .string ⟨#[]⟩, .int .i64 0, .int .i64 0, .slice Option.none 0 0, .slice Option.none 0 0] 33 (0, 0)) := (HOF10.out.block _ (lt_some H23.out) (by have := Z1.out; omega)).trans H23.out
    obtain ⟨ai, ci, rfl⟩ := own_slice hbx.ins
    obtain ⟨af, cf, rfl⟩ := own_slice hbx.fds
    obtain ⟨⟨k0, k1, k2, k3, k4, k5⟩, r0, r1, r2, r3, r4, r5⟩ := six_cells h2
    obtain ⟨⟨d0, d1, d2, d3, d4, d5⟩, _⟩ := six_cells hbx.box
    obtain ⟨e5, _⟩ := one_cell hr9.h5
    have HW2 := Lib.hid h2
    have HBW := Lib.hid (HB3.out.trans (HOF10.out.below (B := w.heap.size) (by have := Z1.out; rintro k (rfl | rfl | hk) <;> omega) HB3.out.size))
    have hhash := hash_c (w := w10) (r := ⟨o, cc, t3, t4, [], []⟩) (vi := .slice ai I.length ci) (vf := .slice af F.length cf) (by have h := cc_size (l := l) (by have := hn.out; omega); rw [← rdR_cmd, HC.out] at h; exact h)
    have hfit := fits_of hl HS9.out
    rw [← rdR_cmd, HC.out] at hfit
    have HFIT := Lib.hid hfit
    have HX := Lib.hid hbx
    have HR9 := Lib.hid hr9
    clear hj hof HOF9 hbx hr9 HE9 h2 hfit
    cases hbad : S9.bad with
    | true =>
      rw [hbad] at hri
      have HBAD := Lib.hid hbad
      clear hbad hle' hhash
      go_wp2_with fail
      refine hri.mono ?_
      rintro e w11 ⟨rfl, rfl⟩
      go_wp2_with fail
      obtain ⟨⟨s0', s1', s2', s3', s4', s5'⟩, -⟩ := six_cells (six_same (v0 := .string ⟨#[]⟩) (v1 := .string ⟨#[]⟩) (v2 := .int .i64 0) (v3 := .int .i64 0) (v4 := .slice Option.none 0 0) (v5 := .slice Option.none 0 0) HW2.out)
      unfold six at s0' s1' s2' s3' s4' s5'
      refine bodyPost_ret (v := .tuple #[.agg #[.string ⟨#[]⟩, .string ⟨#[]⟩, .int .i64 0, .int .i64 0, .slice Option.none 0 0, .slice Option.none 0 0], .int .i64 4]) (by simp [results, Try.f15, go_sem, s0', s1', s2', s3', s4', s5']) rfl ?_
      exact read_no (by rw [HFIT.out, HBAD.out]; rfl) HBW.out (Nat.le_refl _)
    | false =>
      rw [hbad] at hri
      have HBAD := Lib.hid hbad
      clear hbad
      by_cases hemp : S9.l = []
      · have hle0 : Calls Try.prog 48 #[.pointer (some ⟨p, 0, Option.none⟩)] w10 fun e w' => e = .returned (.int .i64 0) ∧ w10 = w' := by rw [hemp] at hle'; exact hle'
        have HEMP := Lib.hid hemp
        clear hle' hemp
        cases hlat : S9.late with
        | true =>
          rw [hlat] at e5
          have HLAT := Lib.hid hlat
          clear hlat hhash
          go_wp2_with fail
          refine hri.mono ?_
          rintro e w11 ⟨rfl, rfl⟩
          go_wp2_with fail
          refine hle0.mono ?_
          rintro e w11 ⟨rfl, rfl⟩
          go_wp2_with fail
          obtain ⟨⟨s0', s1', s2', s3', s4', s5'⟩, -⟩ := six_cells (six_same (v0 := .string ⟨#[]⟩) (v1 := .string ⟨#[]⟩) (v2 := .int .i64 0) (v3 := .int .i64 0) (v4 := .slice Option.none 0 0) (v5 := .slice Option.none 0 0) HW2.out)
          unfold six at s0' s1' s2' s3' s4' s5'
          refine bodyPost_ret (v := .tuple #[.agg #[.string ⟨#[]⟩, .string ⟨#[]⟩, .int .i64 0, .int .i64 0, .slice Option.none 0 0, .slice Option.none 0 0], .int .i64 4]) (by simp [results, Try.f15, go_sem, s0', s1', s2', s3', s4', s5']) rfl ?_
          exact read_no (by rw [HFIT.out, HBAD.out, HLAT.out]; simp) HBW.out (Nat.le_refl _)
        | false =>
          rw [hlat] at e5
          have HLAT := Lib.hid hlat
          clear hlat
          unfold runC at hhash
          simp only at hhash
          go_wp2_with fail
          refine hri.mono ?_
          rintro e w11 ⟨rfl, rfl⟩
          go_wp2_with fail
          refine hle0.mono ?_
          rintro e w11 ⟨rfl, rfl⟩
          go_wp2_with fail
          refine hhash.mono ?_
          rintro e w12 ⟨rfl, hb12⟩
          have g2 := (hb12.block _ (lt_some HW2.out)).trans HW2.out
          have g9 := (hb12.block _ (lt_some HX.out.box)).trans HX.out.box
          clear k0 k1 k2 k3 k4 k5 r0 r1 r2 r3 r4 r5 d0 d1 d2 d3 d4 d5 e5 c4 hri hle0 hhash
          obtain ⟨⟨k0, k1, k2, k3, k4, k5⟩, r0, r1, r2, r3, r4, r5⟩ := six_cells g2
          obtain ⟨⟨d0, d1, d2, d3, d4, d5⟩, -⟩ := six_cells g9
          have HG2 := Lib.hid g2
          have HB12 := Lib.hid hb12
          have HBE := Lib.hid (HBW.out.trans (hb12.mono HBW.out.size))
          have hie : S9.l.isEmpty = true := by rw [HEMP.out]; rfl
          have HIE := Lib.hid hie
          clear g2 g9 hb12 hie
          generalize hx : Pk.rdN 8 l = x at *
          generalize hy : Crc.hash (Pk.sb cc) = y at *
          by_cases hxy : x = y
          · have t1 : ((x : Int) != (y : Int)) = false := by rw [hxy]; simp
            have HXY := Lib.hid hxy
            have HX8 := Lib.hid hx
            clear hxy hx hy
            go_wp2_with fail
            obtain ⟨⟨s0', s1', s2', s3', s4', s5'⟩, -⟩ := six_cells (six_same (v0 := .string o) (v1 := .string cc) (v2 := .int .i64 t3) (v3 := .int .i64 t4) (v4 := .slice ai I.length ci) (v5 := .slice af F.length cf) HG2.out)
            unfold six at s0' s1' s2' s3' s4' s5'
            refine bodyPost_ret (v := .tuple #[.agg #[.string o, .string cc, .int .i64 t3, .int .i64 t4, .slice ai I.length ci, .slice af F.length cf], .int .i64 0]) (by simp [results, Try.f15, go_sem, s0', s1', s2', s3', s4', s5']) rfl ?_
            have hfit : fits l = true := by rw [HFIT.out, HBAD.out, HIE.out, HLAT.out, HXY.out]; simp
            have hI := HX.out.ins
            have hFd := HX.out.fds
            have key := read_yes (w := w) (k := w.heap.size) (v0 := .string o) (v1 := .string cc) (v2 := .int .i64 t3) (v3 := .int .i64 t4) (v4 := .slice ai I.length ci) (v5 := .slice af F.length cf) hl hfit HBE.out (Nat.le_refl _) HG2.out (by rw [HI.out]; exact owns_below hI HB12.out) (by rw [HF.out]; exact owns_below hFd HB12.out)
            rw [← rdR_out, ← rdR_cmd, HO.out, HC.out, HT3.out, HT4.out] at key
            exact key
          · have t1 : ((x : Int) != (y : Int)) = true := by simp; omega
            have t2 : (x == y) = false := by simpa using hxy
            have T2 := Lib.hid t2
            clear hxy hx hy t2
            go_wp2_with fail
            obtain ⟨⟨s0', s1', s2', s3', s4', s5'⟩, -⟩ := six_cells (six_same (v0 := .string ⟨#[]⟩) (v1 := .string ⟨#[]⟩) (v2 := .int .i64 0) (v3 := .int .i64 0) (v4 := .slice Option.none 0 0) (v5 := .slice Option.none 0 0) HG2.out)
            unfold six at s0' s1' s2' s3' s4' s5'
            refine bodyPost_ret (v := .tuple #[.agg #[.string ⟨#[]⟩, .string ⟨#[]⟩, .int .i64 0, .int .i64 0, .slice Option.none 0 0, .slice Option.none 0 0], .int .i64 4]) (by simp [results, Try.f15, go_sem, s0', s1', s2', s3', s4', s5']) rfl ?_
            exact read_no (by rw [HFIT.out, T2.out]; simp) HBE.out (Nat.le_refl _)
      · have hpos : (0 : Int) < (S9.l.length : Int) := by have := List.length_pos_iff.2 hemp; omega
        have hie : S9.l.isEmpty = false := by simpa using hemp
        have HIE := Lib.hid hie
        clear hemp hhash hie
        generalize S9.l.length = mm at hpos hle'
        have hpn : 0 < mm := by omega
        go_wp2_with fail
        refine hri.mono ?_
        rintro e w11 ⟨rfl, rfl⟩
        go_wp2_with fail
        refine hle'.mono ?_
        rintro e w11 ⟨rfl, rfl⟩
        go_wp2_with fail
        obtain ⟨⟨s0', s1', s2', s3', s4', s5'⟩, -⟩ := six_cells (six_same (v0 := .string ⟨#[]⟩) (v1 := .string ⟨#[]⟩) (v2 := .int .i64 0) (v3 := .int .i64 0) (v4 := .slice Option.none 0 0) (v5 := .slice Option.none 0 0) HW2.out)
        unfold six at s0' s1' s2' s3' s4' s5'
        refine bodyPost_ret (v := .tuple #[.agg #[.string ⟨#[]⟩, .string ⟨#[]⟩, .int .i64 0, .int .i64 0, .slice Option.none 0 0, .slice Option.none 0 0], .int .i64 4]) (by simp [results, Try.f15, go_sem, s0', s1', s2', s3', s4', s5']) rfl ?_
        exact read_no (by rw [HFIT.out, HBAD.out, HIE.out]; simp) HBW.out (Nat.le_refl _)
end Go.Proofs.Ytmhmoaokmfplpaa.Rn
