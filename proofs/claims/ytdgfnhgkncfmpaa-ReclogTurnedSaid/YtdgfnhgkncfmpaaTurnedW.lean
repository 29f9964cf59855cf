/-
  THE LAW ReclogTurned, WALKED.
-/
import Derived.Test.YtdgfnhgkncfmpaaCutsW
namespace Go.Proofs.Ytdgfnhgkncfmpaa.Rl
open Go.RowKit Go.Maps

variable {w : World}

theorem xor_ne {x y : UInt8} (h : y ≠ 0) : x ^^^ y ≠ x := by
  intro e
  have h2 : x ^^^ (x ^^^ y) = x ^^^ x := by rw [e]
  rw [← UInt8.xor_assoc, UInt8.xor_self, UInt8.zero_xor] at h2
  exact h h2

theorem set_take1 (l : List Value) (n p : Nat) (v : Value) (_h : p < n * 1) : (l.set p v).take (n * 1) = (l.take (n * 1)).set p v := by
  apply List.ext_getElem?
  intro i
  by_cases hi : i < n * 1
  · rw [List.getElem?_take_of_lt hi, List.getElem?_set, List.getElem?_set, List.getElem?_take_of_lt hi, List.length_take]
    by_cases hp : p = i
    · subst hp
      by_cases hl : p < l.length
      · rw [if_pos rfl, if_pos hl, if_pos rfl, if_pos (by omega)]
      · rw [if_pos rfl, if_neg hl, if_pos rfl, if_neg (by omega)]
    · rw [if_neg hp, if_neg hp]
  · rw [List.getElem?_eq_none (by rw [List.length_take]; omega), List.getElem?_eq_none (by rw [List.length_set, List.length_take]; omega)]
/-- a byte of a row of the call's own is another one -/
theorem set_own {base g c : Nat} {n : Nat} {l : List UInt8} (h : w.ownsRow base 5 1 (.slice (some ⟨g, 0, none⟩) n c) n (bytesV l)) {p : Nat} (hp : p < l.length) (y : UInt8) :
    (w.setCell ⟨g, p, none⟩ (.int .u8 y.toNat)).ownsRow base 5 1 (.slice (some ⟨g, 0, none⟩) n c) n (bytesV (l.set p y)) := by
  refine ⟨by rw [bytesV_length, List.length_set]; have := h.1; rw [bytesV_length] at this; exact this, ?_⟩
  rcases h.2 with ⟨e, _⟩ | ⟨g', cap, cur, e, hb, hg, hle, hcm, hsz, htk⟩
  · cases e
  · cases e
    refine .inr ⟨g, c, cur.setIfInBounds p (.int .u8 y.toNat), rfl, hb, heap_set_same hg p _, hle, hcm, by rw [Array.size_setIfInBounds]; exact hsz, ?_⟩
    rw [Array.toList_setIfInBounds]
    have e1 : bytesV (l.set p y) = (bytesV l).set p (.int .u8 y.toNat) := by simp [bytesV, List.map_set]
    have hn : n = l.length := by have := h.1; rw [bytesV_length] at this; omega
    rw [e1, ← htk]
    exact set_take1 _ _ _ _ (by omega)

set_option maxRecDepth 100000 in
set_option maxHeartbeats 8000000 in
theorem turned_c {v : Value} {rs : List (List UInt8)} (k by' : UInt8) (at' : Nat) (ha : at' < 65536) (w : World) (hM : Mat w v rs) (hcap : ∀ a n c, v = .slice a n c → n ≤ c) :
    Calls Try.prog 8 #[.agg #[v, .int .u8 k.toNat, .int .u16 at', .int .u8 by'.toNat]] w fun e w' => e = .returned (.bool true) ∧ Below w.heap.size w w' := by
  obtain ⟨a, n, c, rfl⟩ : ∃ a n c, v = .slice a n c := by obtain ⟨a, c, e, _⟩ := hM; exact ⟨a, _, c, e⟩
  have hnc := hcap a n c rfl
  obtain ⟨w1, hw1⟩ : ∃ W, w.alloc (.cells #[.slice a n c, .int .u8 k.toNat, .int .u16 at', .int .u8 by'.toNat] 75) = W := ⟨_, rfl⟩
  have hb1 : Below w.heap.size w w1 := by rw [← hw1]; exact below_alloc _ _
  have c0 : w1.cell? ⟨w.heap.size, 0, none⟩ = some (.slice a n c) := by rw [← hw1]; exact cell_at_new _ _ _ _ _ rfl
  have c1 : w1.cell? ⟨w.heap.size, 1, none⟩ = some (.int .u8 k.toNat) := by rw [← hw1]; exact cell_at_new _ _ _ _ _ rfl
  have c2 : w1.cell? ⟨w.heap.size, 2, none⟩ = some (.int .u16 at') := by rw [← hw1]; exact cell_at_new _ _ _ _ _ rfl
  have c3 : w1.cell? ⟨w.heap.size, 3, none⟩ = some (.int .u8 by'.toNat) := by rw [← hw1]; exact cell_at_new _ _ _ _ _ rfl
  have HM0 := Lib.hid hM
  have HB1 := Lib.hid hb1
  clear hM hcap hb1
  go_enter Try.func8, Try.ntmps8
  go_wp2_with fail
  go_quiet (fail)
  obtain ⟨wq, hwq⟩ : ∃ W, w1.drewN nq = W := ⟨_, rfl⟩
  have hbq : Below w.heap.size w wq := by rw [← hwq]; exact ⟨HB1.out.os, HB1.out.tape, HB1.out.output, HB1.out.size, HB1.out.block⟩
  rw [hwq]
  have hMq := Mat.below HM0.out hbq
  have hli := light_c hMq
  obtain ⟨hn, hat⟩ := Mat.at hMq
  have HM := Lib.hid hMq
  have HN := Lib.hid hn
  have HAT := Lib.hid hat
  have HBQ := Lib.hid hbq
  clear hMq hn hat hbq hwq c0 c1 c2 c3 HM0
  by_cases hL : Light rs
  · rw [show decide (Light rs) = true from decide_eq_true hL] at hli
    have hfi := file_c k HM.out hL
    have HL := Lib.hid hL
    have hn30 : n ≤ 30 := by rw [HN.out]; exact hL.1
    clear hL
    by_cases hn0 : n = 0
    · subst hn0
      go_wp2_with fail
      refine hli.mono ?_
      rintro e w3 ⟨rfl, rfl⟩
      go_wp2
      go_ret
      exact ⟨rfl, HBQ.out⟩
    · have hn1 : ((n : Int) == 0) = false := by simp; omega
      by_cases hy : by' = 0
      · subst hy
        go_wp2_with fail
        refine hli.mono ?_
        rintro e w3 ⟨rfl, rfl⟩
        go_wp2
        go_ret
        exact ⟨rfl, HBQ.out⟩
      · have hby : ((by'.toNat : Int) == 0) = false := by
          simp
          intro e
          exact hy (UInt8.toNat_inj.1 e)
        have HY := Lib.hid hy
        clear hy hn0
        go_wp2_with fail
        refine hli.mono ?_
        rintro e w3 ⟨rfl, rfl⟩
        clear hli
        go_wp2_with fail
        refine hfi.mono ?_
        rintro e w4 ⟨ba, bm, bc, rfl, hown, hb4⟩
        clear hfi
        have hbm : bm = (body k rs).length := by have := hown.1; rw [bytesV_length] at this; omega
        have hal : (all rs).length ≤ 508 * rs.length := light_size HL.out.2
        have hal2 := rows_le rs
        have hn1' : 1 ≤ n := by
          rcases Nat.eq_zero_or_pos n with e | e
          · rw [e] at hn1; cases hn1
          · exact e
        have hr0 : 8 + 8 ≤ bm := by
          obtain ⟨r, hr⟩ : ∃ r, rs[0]? = some r := ⟨rs[0]'(by rw [← HN.out]; exact hn1'), List.getElem?_eq_getElem _⟩
          have h1 := all_take_succ hr
          have h2 := all_take_le rs (0 + 1)
          rw [body_length] at hbm
          omega
        have hbm2 : bm ≤ 16000 := by rw [body_length] at hbm; have := HN.out; omega
        obtain ⟨g, hbag⟩ : ∃ g, ba = some ⟨g, 0, none⟩ := by
          rcases hown.2 with ⟨e, h0⟩ | ⟨g, cap, cur, e, _⟩
          · omega
          · cases e; exact ⟨g, rfl⟩
        subst hbag
        obtain ⟨q, hq, hql⟩ : ∃ q : Nat, (at' : Int).tmod ((bm : Int) - 8) = (q : Int) ∧ q + 8 < bm := by
          refine ⟨at' % (bm - 8), ?_, by have := Nat.mod_lt at' (show 0 < bm - 8 by omega); omega⟩
          rw [Int.tmod_eq_emod_of_nonneg (by omega), show (bm : Int) - 8 = ((bm - 8 : Nat) : Int) by omega, ← Int.natCast_emod]
        have hz0 : ((bm : Int) - 8 == 0) = false := by simp; omega
        have hz1 : ¬ ((bm : Int) - 8 = 0) := by omega
        obtain ⟨p, hp⟩ : ∃ p, 8 + q = p := ⟨_, rfl⟩
        have hp2 : (8 : Int) + (q : Int) = (p : Int) := by omega
        have hpl : p < bm := by omega
        have hp8 : 8 ≤ p := by omega
        obtain ⟨x, hx⟩ : ∃ x, (body k rs)[p]? = some x := ⟨(body k rs)[p]'(by rw [← hbm]; exact hpl), List.getElem?_eq_getElem _⟩
        have hcx : w4.cell? ⟨g, p, none⟩ = some (.int .u8 x.toNat) := by
          have := hown.cells (g := g) rfl p (.int .u8 x.toNat) (by simp only [bytesV, List.getElem?_map, hx]; rfl)
          rwa [Go.WideShapes.add_plain, Nat.zero_add] at this
        have hfx : w4.frozen? ⟨g, p, none⟩ = false := by
          rcases hown.2 with ⟨e, h0⟩ | ⟨g', cap, cur, e, _, hg, _⟩
          · cases e
          · cases e; exact frozen_of hg p
        have hxor : bits BinOp.xor IntKind.u8 (x.toNat : Int) (by'.toNat : Int) = ((x ^^^ by').toNat : Int) := by
          rw [UInt8.toNat_xor]
          exact u8_xor_nat _ _ (UInt8.toNat_lt x) (UInt8.toNat_lt by')
        have hset := set_own hown (p := p) (by rw [← hbm]; exact hpl) (x ^^^ by')
        obtain ⟨y, hy⟩ : ∃ y, x ^^^ by' = y := ⟨_, rfl⟩
        rw [hy] at hxor hset
        have hyx : (body k rs)[p]? ≠ some y := by
          rw [hx, ← hy]
          intro e
          have e2 := Option.some.inj e
          exact xor_ne HY.out e2.symm
        have hg0 : wq.heap.size ≤ g := (hown.lt g rfl).1
        have hB4 : Below w.heap.size w w4 := HBQ.out.trans (hb4.mono HBQ.out.size)
        have hB5 : Below w.heap.size w (w4.setCell ⟨g, p, none⟩ (.int .u8 y.toNat)) := hB4.setCell (by have := HBQ.out.size; show w.heap.size ≤ g; omega) _
        have hq5 : Below wq.heap.size wq (w4.setCell ⟨g, p, none⟩ (.int .u8 y.toNat)) := hb4.setCell (show wq.heap.size ≤ g from hg0) _
        have hsc := scan_c k (Bt.owned hset) (by omega)
        obtain ⟨w5, hw5⟩ : ∃ W, w4.setCell ⟨g, p, none⟩ (.int .u8 y.toNat) = W := ⟨_, rfl⟩
        rw [hw5] at hB5 hq5 hsc
        have HB5 := Lib.hid hB5
        have HQ5 := Lib.hid hq5
        have HBM := Lib.hid hbm
        have HYX := Lib.hid hyx
        have HSC := Lib.hid hsc
        clear hown hb4 hbm hal hal2 hr0 hx hy hset hyx hg0 hB4 hB5 hq5 hsc hp
        go_wp2_with fail
        go_loopw [9, 10] (fun vi vs wr => ∃ i : Nat, i ≤ n ∧ vi = .int .i64 i ∧ ∃ sz : Nat, vs = .int .i64 sz ∧ Hid (sz = 8 + (all (rs.take i)).length) ∧ sz ≤ p ∧ w5 = wr) (fun vi _ _ => n - (intOf vi).toNat)
        case atStart => exact ⟨0, Nat.zero_le _, rfl, 8, rfl, Lib.hid rfl, hp8, rfl⟩
        case round =>
          obtain ⟨i, hi, rfl, sz, rfl, hsz, hszp, rfl⟩ := hrel
          by_cases hlt : i < n
          · obtain ⟨r, hr⟩ : ∃ r, rs[i]? = some r := ⟨rs[i]'(by rw [← HN.out]; exact hlt), List.getElem?_eq_getElem _⟩
            obtain ⟨b, o, ua, uc, rfl, hb, hc, hrow⟩ := HAT.out i r hr
            have hcw := (HQ5.out.cell (p := ⟨b, o + i, none⟩) hb).trans hc
            have hsucc := all_take_succ hr
            obtain ⟨rl, hrl⟩ : ∃ x, r.length = x := ⟨_, rfl⟩
            rw [hrl] at hcw hsucc
            have hrl5 : rl ≤ 500 := by rw [← hrl]; exact HL.out.2 r (List.mem_of_getElem? hr)
            have HSUCC := Lib.hid hsucc
            have HR := Lib.hid hr
            clear hr hrl hrow hc hsucc
            by_cases hcond : sz + 8 + rl ≤ p
            · go_wp2
              go_roundw
              case rel => exact ⟨i + 1, by omega, by go_num, sz + (8 + rl), by go_num, Lib.hid (by rw [HSUCC.out, hsz.out]; omega), by omega, trivial⟩
              case measure => simp [intOf]; omega
            · have hlo : 8 + (all (rs.take i)).length ≤ p := by rw [← hsz.out]; exact hszp
              have hhi : p < 8 + (all (rs.take (i + 1))).length := by rw [HSUCC.out]; have := hsz.out; omega
              obtain ⟨t1, t2, t3, t4⟩ := turned_pure (k := k) (shorts_of_light HL.out) HR.out hlo hhi HYX.out
              have hrw := HSC.out
              have T1 := Lib.hid t1
              have T2 := Lib.hid t2
              have T3 := Lib.hid t3
              have T4 := Lib.hid t4
              have HSZ := hsz
              clear t1 t2 t3 t4 hlo hhi
              go_wp2_with fail
              refine hrw.mono ?_
              rintro e w6 ⟨u, rfl, hrows, hb6⟩
              clear hrw
              obtain ⟨ra, rc, hu⟩ := hrows.val
              subst hu
              rw [T1.out]
              obtain ⟨en, hen⟩ : ∃ x, scanEnd k ((body k rs).set p y) = x := ⟨_, rfl⟩
              obtain ⟨rn, hrn⟩ : ∃ x, (scanRecs k ((body k rs).set p y)).length = x := ⟨_, rfl⟩
              have hmr := hrows.mat
              rw [hrn] at hmr
              have hle : i ≤ rn := by rw [← hrn]; exact T2.out
              have hmx := Mat.take hmr hle
              have hml := Mat.take (Mat.below HM.out (HQ5.out.trans (hb6.mono HQ5.out.size))) hi
              rw [T3.out] at hmx
              have hdr : Below w6.heap.size w6 w6.drew := (Below.refl _ w6).drew
              have hsm := same_c (Mat.below hmx hdr) (Mat.below hml hdr) (by omega)
              clear hdr
              rw [show decide (rs.take i = rs.take i) = true from decide_eq_true rfl] at hsm
              have hrc : rn ≤ rc := by
                obtain ⟨vs, h1, _⟩ := hrows
                rw [hrn] at h1
                rcases h1.2 with ⟨e, h0⟩ | ⟨g', cap, cur, e, _, _, hle, _⟩
                · omega
                · cases e; exact hle
              have h4 : sz + 4 ≤ p → rn = i := fun h => by rw [← hrn]; exact T4.out (by rw [← HSZ.out]; omega)
              have HRN := Lib.hid hrn
              have HB6 := Lib.hid (HB5.out.trans (hb6.mono HB5.out.size))
              clear hrows hb6 hmr hmx hml T1 T2 T3 T4 HSC
              simp only [hen, hrn]
              clear hen hrn
              have hs1 : (0 : Int) ≤ (i : Int) := by omega
              have hs2 : (i : Int) ≤ (c : Int) := by omega
              have hs3 : (i : Int) ≤ (rc : Int) := by omega
              have hs4 : (i : Int) ≤ (n : Int) := by omega
              have hs5 : (i : Int) ≤ (rn : Int) := by omega
              by_cases hp4 : sz + 4 ≤ p
              · obtain rfl : rn = i := h4 hp4
                clear h4
                go_wp2_with fail
                go_region_held3 (fun _ => True) (exact trivial)
                  (first
                    | (go_at_call 26; refine hsm.mono ?_; rintro e w7 ⟨rfl, hb7⟩))
                have haw := awake5_c w7
                have hb7 := (Below.refl w6.heap.size w6).drew.trans hb7
                clear hsm
                go_wp2_with fail
                refine haw.mono ?_
                rintro e w8 ⟨rfl, hb8⟩
                go_wp2
                go_ret
                exact ⟨rfl, HB6.out.trans ((hb7.trans (hb8.mono hb7.size)).mono HB6.out.size)⟩
              · clear h4
                have hd2 : ¬ ((rn : Int) < (i : Int)) := by omega
                have hd3 : ¬ rn < i := by omega
                have hd4 : (i : Int) ≤ (rn : Int) := by omega
                go_wp2_with fail
                go_region_held3 (fun _ => True) (exact trivial)
                  (first
                    | (go_at_call 26; refine hsm.mono ?_; rintro e w7 ⟨rfl, hb7⟩))
                have haw := awake5_c w7
                have hb7 := (Below.refl w6.heap.size w6).drew.trans hb7
                clear hsm
                go_wp2_with fail
                refine haw.mono ?_
                rintro e w8 ⟨rfl, hb8⟩
                go_wp2
                go_ret
                exact ⟨rfl, HB6.out.trans ((hb7.trans (hb8.mono hb7.size)).mono HB6.out.size)⟩
          · exfalso
            have h1 := hsz.out
            have h2 := HBM.out
            rw [body_length] at h2
            have h3 : i = rs.length := by rw [← HN.out]; omega
            rw [h3, List.take_length] at h1
            omega
  · rw [show decide (Light rs) = false from decide_eq_false hL] at hli
    go_wp2_with fail
    refine hli.mono ?_
    rintro e w3 ⟨rfl, rfl⟩
    go_wp2
    go_ret
    exact ⟨rfl, HBQ.out⟩
end Go.Proofs.Ytdgfnhgkncfmpaa.Rl
