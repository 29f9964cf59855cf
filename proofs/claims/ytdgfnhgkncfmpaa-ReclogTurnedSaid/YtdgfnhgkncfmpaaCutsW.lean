/-
  THE LAW ReclogCuts, WALKED.
-/
import Derived.Test.YtdgfnhgkncfmpaaRlPure
namespace Go.Proofs.Ytdgfnhgkncfmpaa.Rl
open Go.RowKit Go.Maps

variable {w : World}

theorem Mat.below {v : Value} {rs : List (List UInt8)} (h : Mat w v rs) {w' : World} (hb : Below w.heap.size w w') : Mat w' v rs := by
  obtain ⟨a, c, rfl, h⟩ := h
  refine ⟨a, c, rfl, fun j r hj => ?_⟩
  obtain ⟨b, o, u, h1, h2, h3, h4⟩ := h j r hj
  exact ⟨b, o, u, h1, Nat.lt_of_lt_of_le h2 hb.size, (hb.cell (p := ⟨b, o + j, none⟩) h2).trans h3, h4.below hb⟩
theorem Mat.take {a : Option Addr} {n c : Nat} {rs : List (List UInt8)} (h : Mat w (.slice a n c) rs) {m : Nat} (hm : m ≤ n) : Mat w (.slice a m c) (rs.take m) := by
  obtain ⟨a', c', e, h⟩ := h
  cases e
  refine ⟨a, c, by rw [List.length_take, Nat.min_eq_left hm], fun j r hj => ?_⟩
  rw [List.getElem?_take] at hj
  split at hj
  · exact h j r hj
  · cases hj

set_option maxRecDepth 100000 in
set_option maxHeartbeats 8000000 in
theorem cuts_c {v : Value} {rs : List (List UInt8)} (k : UInt8) (at' : Nat) (ha : at' < 65536) (w : World) (hM : Mat w v rs) (hcap : ∀ a n c, v = .slice a n c → n ≤ c) :
    Calls Try.prog 7 #[v, .int .u8 k.toNat, .int .u16 at'] w fun e w' => e = .returned (.bool true) ∧ Below w.heap.size w w' := by
  obtain ⟨a, n, c, rfl⟩ : ∃ a n c, v = .slice a n c := by obtain ⟨a, c, e, _⟩ := hM; exact ⟨a, _, c, e⟩
  have hnc := hcap a n c rfl
  have hli := light_c hM
  obtain ⟨hn, hat⟩ := Mat.at hM
  have HM := Lib.hid hM
  have HN := Lib.hid hn
  have HAT := Lib.hid hat
  clear hM hn hat hcap
  by_cases hL : Light rs
  · rw [show decide (Light rs) = true from decide_eq_true hL] at hli
    have hfi := file_c k HM.out hL
    have HL := Lib.hid hL
    clear hL
    go_enter Try.func7, Try.ntmps7
    go_wp2_with fail
    refine hli.mono ?_
    rintro e w1 ⟨rfl, rfl⟩
    clear hli
    go_wp2_with fail
    refine hfi.mono ?_
    rintro e w1 ⟨ba, bm, bc, rfl, hown, hb1⟩
    clear hfi
    have hbm : bm = (body k rs).length := by have := hown.1; rw [bytesV_length] at this; omega
    have hn30 : n ≤ 30 := by rw [HN.out]; exact HL.out.1
    have hal : (all rs).length ≤ 508 * rs.length := light_size HL.out.2
    have hbm2 : 8 ≤ bm ∧ bm ≤ 16000 := by rw [body_length] at hbm; have := HN.out; omega
    obtain ⟨cut, hcut, hcutl⟩ : ∃ x : Nat, (at' : Int).tmod ((bm : Int) + 1) = (x : Int) ∧ x ≤ bm := by
      refine ⟨at' % (bm + 1), ?_, by have := Nat.mod_lt at' (show 0 < bm + 1 by omega); omega⟩
      rw [Int.tmod_eq_emod_of_nonneg (by omega), ← Int.natCast_one, ← Int.natCast_add, ← Int.natCast_emod]
    have hz0 : ((bm : Int) + 1 == 0) = false := by simp; omega
    have hz1 : ¬ ((bm : Int) + 1 = 0) := by omega
    have hbt := (Bt.owned hown).take hcutl
    have hsc := scan_c k hbt (by omega)
    have hbcap : bm ≤ bc := (Bt.owned hown).cap
    rw [show List.take cut (body k rs) = (body k rs).take cut from rfl] at hsc
    have HB1 := Lib.hid hb1
    have HBM := Lib.hid hbm
    clear hown hb1 hbm hal hbt
    go_wp2_with fail
    refine hsc.mono ?_
    rintro e w2 ⟨u, rfl, hrows, hb2⟩
    clear hsc
    obtain ⟨ra, rc, hu⟩ := hrows.val
    subst hu
    obtain ⟨en, hen⟩ : ∃ x, scanEnd k ((body k rs).take cut) = x := ⟨_, rfl⟩
    obtain ⟨er, her⟩ : ∃ x, scanErr k ((body k rs).take cut) = x := ⟨_, rfl⟩
    obtain ⟨rn, hrn⟩ : ∃ x, (scanRecs k ((body k rs).take cut)).length = x := ⟨_, rfl⟩
    rw [hrn] at hrows
    have HROWS := Lib.hid hrows
    have HEN := Lib.hid hen
    have HER := Lib.hid her
    have HRN := Lib.hid hrn
    have HB2 := Lib.hid (HB1.out.trans (hb2.mono HB1.out.size))
    clear hb2 hrows
    simp only [hen, her, hrn]
    clear hen her hrn hcut hz0 hz1
    go_wp2_with fail
    go_loopw [12, 13] (fun vi vs wr => ∃ i : Nat, i ≤ n ∧ vi = .int .i64 i ∧ ∃ sz : Nat, vs = .int .i64 sz ∧ Hid (sz = 8 + (all (rs.take i)).length) ∧ Hid (i = 0 ∨ 8 + (all (rs.take i)).length ≤ cut) ∧ sz ≤ 16000 ∧ w2 = wr) (fun vi _ _ => n - (intOf vi).toNat)
    case atStart => exact ⟨0, Nat.zero_le _, rfl, 8, rfl, Lib.hid rfl, Lib.hid (.inl rfl), by omega, rfl⟩
    case round =>
      obtain ⟨i, hi, rfl, sz, rfl, hsz, HA2, hsz2, rfl⟩ := hrel
      by_cases hlt : i < n
      · obtain ⟨r, hr⟩ : ∃ r, rs[i]? = some r := ⟨rs[i]'(by rw [← HN.out]; exact hlt), List.getElem?_eq_getElem _⟩
        obtain ⟨b, o, ua, uc, rfl, hb, hc, hrow⟩ := HAT.out i r hr
        have hcw := (HB2.out.cell (p := ⟨b, o + i, none⟩) hb).trans hc
        have hsucc := all_take_succ hr
        have hmono := all_take_le rs (i + 1)
        obtain ⟨rl, hrl⟩ : ∃ x, r.length = x := ⟨_, rfl⟩
        rw [hrl] at hcw hsucc
        have hszn : sz + 8 + rl = 8 + (all (rs.take (i + 1))).length := by rw [hsucc, hsz.out]; omega
        have hsz3 : sz + 8 + rl ≤ 16000 := by have := HBM.out; rw [body_length] at this; omega
        have HSZN := Lib.hid hszn
        clear hr hrl hrow hc hsucc hmono hszn
        by_cases hcond : sz + 8 + rl ≤ cut
        · go_wp2
          go_roundw
          case rel => exact ⟨i + 1, by omega, by go_num, sz + (8 + rl), by go_num, Lib.hid (by rw [← HSZN.out]; omega), Lib.hid (.inr (by rw [← HSZN.out]; exact hcond)), by omega, trivial⟩
          case measure => simp [intOf]; omega
        · have hx : i = rs.length ∨ cut < 8 + (all (rs.take (i + 1))).length := .inr (by rw [← HSZN.out]; omega)
          obtain ⟨p1, p2, p3⟩ := cuts_pure (cut := cut) (shorts_of_light HL.out) (show i ≤ rs.length by rw [← HN.out]; exact hi) HA2.out hx (by rw [← HBM.out]; exact hcutl)
          have her0 : er = 0 := by rw [← HER.out]; exact p3
          have hen0 : en = if cut < 8 then 0 else 8 + (all (rs.take i)).length := by rw [← HEN.out]; exact p2
          subst her0
          have hmx : Mat w2 (.slice ra rn rc) (scanRecs k ((body k rs).take cut)) := by have := HROWS.out.mat; exact this
          have hml := Mat.take (Mat.below HM.out HB2.out) hi
          rw [p1] at hmx
          have hsm := same_c hmx hml (by obtain ⟨e, _⟩ := Mat.at hmx; rw [e, List.length_take]; omega)
          rw [show decide (rs.take i = rs.take i) = true from decide_eq_true rfl] at hsm
          clear p1 p2 p3 hmx hml hx
          by_cases h8 : cut < 8
          · rw [if_pos h8] at hen0
            subst hen0
            go_wp2_with fail
            refine hsm.mono ?_
            rintro e w3 ⟨rfl, hb3⟩
            have haw := awake5_c w3
            clear hsm
            go_wp2_with fail
            refine haw.mono ?_
            rintro e w4 ⟨rfl, hb4⟩
            go_wp2
            go_ret
            exact ⟨rfl, HB2.out.trans ((hb3.trans (hb4.mono hb3.size)).mono HB2.out.size)⟩
          · rw [if_neg h8, ← hsz.out] at hen0
            subst hen0
            go_wp2_with fail
            refine hsm.mono ?_
            rintro e w3 ⟨rfl, hb3⟩
            have haw := awake5_c w3
            clear hsm
            go_wp2_with fail
            refine haw.mono ?_
            rintro e w4 ⟨rfl, hb4⟩
            go_wp2
            go_ret
            exact ⟨rfl, HB2.out.trans ((hb3.trans (hb4.mono hb3.size)).mono HB2.out.size)⟩
      · have hx : i = rs.length ∨ cut < 8 + (all (rs.take (i + 1))).length := .inl (by rw [← HN.out]; omega)
        obtain ⟨p1, p2, p3⟩ := cuts_pure (cut := cut) (shorts_of_light HL.out) (show i ≤ rs.length by rw [← HN.out]; exact hi) HA2.out hx (by rw [← HBM.out]; exact hcutl)
        have her0 : er = 0 := by rw [← HER.out]; exact p3
        have hen0 : en = if cut < 8 then 0 else 8 + (all (rs.take i)).length := by rw [← HEN.out]; exact p2
        subst her0
        have hmx : Mat w2 (.slice ra rn rc) (scanRecs k ((body k rs).take cut)) := by have := HROWS.out.mat; exact this
        have hml := Mat.take (Mat.below HM.out HB2.out) hi
        rw [p1] at hmx
        have hsm := same_c hmx hml (by obtain ⟨e, _⟩ := Mat.at hmx; rw [e, List.length_take]; omega)
        rw [show decide (rs.take i = rs.take i) = true from decide_eq_true rfl] at hsm
        clear p1 p2 p3 hmx hml hx
        by_cases h8 : cut < 8
        · rw [if_pos h8] at hen0
          subst hen0
          go_wp2_with fail
          refine hsm.mono ?_
          rintro e w3 ⟨rfl, hb3⟩
          have haw := awake5_c w3
          clear hsm
          go_wp2_with fail
          refine haw.mono ?_
          rintro e w4 ⟨rfl, hb4⟩
          go_wp2
          go_ret
          exact ⟨rfl, HB2.out.trans ((hb3.trans (hb4.mono hb3.size)).mono HB2.out.size)⟩
        · rw [if_neg h8, ← hsz.out] at hen0
          subst hen0
          go_wp2_with fail
          refine hsm.mono ?_
          rintro e w3 ⟨rfl, hb3⟩
          have haw := awake5_c w3
          clear hsm
          go_wp2_with fail
          refine haw.mono ?_
          rintro e w4 ⟨rfl, hb4⟩
          go_wp2
          go_ret
          exact ⟨rfl, HB2.out.trans ((hb3.trans (hb4.mono hb3.size)).mono HB2.out.size)⟩
  · rw [show decide (Light rs) = false from decide_eq_false hL] at hli
    go_enter Try.func7, Try.ntmps7
    go_wp2_with fail
    refine hli.mono ?_
    rintro e w1 ⟨rfl, rfl⟩
    go_wp2
    go_ret
    exact ⟨rfl, Below.refl _ _⟩
end Go.Proofs.Ytdgfnhgkncfmpaa.Rl
