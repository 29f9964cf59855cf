/-
  WHAT IS LIVE: the law NamesLive, walked.
-/
import Derived.Test.YtmppjlgmopfaeaaNmRecW
import Derived.Test.YtmppjlgmopfaeaaNmToldL
import Derived.Test.YtmppjlgmopfaeaaNmWith
namespace Go.Proofs.Ytmppjlgmopfaeaa.Nm
open Go.RowKit Go.Maps

theorem with_step {W3 W W1 : World} {base : Nat} {v : Value} {N : List ByteArray} {s : ByteArray} {e : Ending} (ho : W.ownsRow base 9 1 v N.length (strV N)) (hbs : base ≤ W.heap.size) (hb : Below base W3 W) (hq : WiQ W base v N s e W1) :
    ∃ a c, e = .returned (.slice a (withL N s).length c) ∧ W1.ownsRow base 9 1 (.slice a (withL N s).length c) (withL N s).length (strV (withL N s)) ∧ Below base W3 W1 ∧ base ≤ W1.heap.size := by
  obtain ⟨a, c, he, h1, hm, -⟩ := hq
  exact ⟨a, c, he, h1, hb.trans (hm.below (fun k hk => (ho.lt k hk).1) hbs), Nat.le_trans hbs hm.size⟩

theorem inB_take {L : List ByteArray} {k : Nat} {y s : ByteArray} (h : L[k]? = some y) : inB (L.take (k + 1)) s = (inB (L.take k) s || decide (y = s)) := by
  rw [List.take_add_one, h, Option.toList_some, inB_snoc]

theorem withL_le (N : List ByteArray) (s : ByteArray) : (withL N s).length ≤ N.length + 1 := by
  unfold withL
  cases ixOf N s <;> simp

theorem needD_len (N : List ByteArray) (d : Dp) : (needD N d).length ≤ N.length + 1 + d.deps.length := by
  have key : ∀ (l N : List ByteArray), (l.foldl withL N).length ≤ N.length + l.length := by
    intro l
    induction l with
    | nil => intro N; simp
    | cons s l ih =>
      intro N
      have := ih (withL N s)
      have := withL_le N s
      simp only [List.foldl_cons, List.length_cons]
      omega
  have := key (d.out :: d.deps) N
  unfold needD
  simp only [List.length_cons] at this
  omega

structure LiveG (L : List Dp) (live : List ByteArray) (A K : List Dp) : Prop where
  allOk : AllOk A
  part : PartF K
  eqA : allL (toldB L) = A
  eqK : liveF A live = K
  ok : OkB (toldB L)
  outs : ((foundL (toldB L) (toldB L).F.length).map Dp.out).Nodup
  took : takeAll ⟨[], []⟩ (recsL K) = some (toldB K)
  recs : (recsL K).length ≤ 900000 ∧ ∀ r ∈ recsL K, r.length ≤ 1000000 ∧ ∀ x ∈ r, x < 256
  outsK : ((foundL (toldB K) (toldB K).F.length).map Dp.out).Nodup
  allK : (allL (toldB K)).length = K.length
  namesK : (toldB K).N = K.foldl needD []
  yes : ∀ x ∈ A, inB live x.out = true → lookB (toldB K) x.out = some x
  no : ∀ x ∈ A, inB live x.out = false → lookB (toldB K) x.out = Option.none

theorem live_g {L : List Dp} (h : allB L = true) (live : List ByteArray) : LiveG L live (allL (toldB L)) (liveF (allL (toldB L)) live) := by
  obtain ⟨hl, hm⟩ := all_mem h
  have hd : ∀ d ∈ L, d.deps.length ≤ 50 := fun d hx => (hm d hx).2.1
  have hf := live_facts hl hd live
  have hp : PartF (liveF (allL (toldB L)) live) := live_part (live := live) hl hd
  have hlen := hp.len
  obtain ⟨r1, r2, r3⟩ := recs_take (K := liveF (allL (toldB L)) live) (by omega) hp.deps hp.ok
  have hfk := live_facts hp.len hp.deps []
  refine ⟨⟨Nat.le_trans (all_le hf) hl, fun d hx => hd d (hf.allIn d hx).1, fun d hx => (hf.allIn d hx).2.1⟩, hp, rfl, rfl, hf.ok, hf.outs, r1, ⟨by omega, r3⟩, hfk.outs, part_all hp, told_N (by omega) hp.deps hp.ok, fun x hx hi => ?_, fun x hx hi => ?_⟩
  · exact (part_look hp x.out x).2 ⟨List.mem_filter.2 ⟨hx, hi⟩, rfl⟩
  · cases e : lookB (toldB (liveF (allL (toldB L)) live)) x.out with
    | none => rfl
    | some d =>
      obtain ⟨h1, h2⟩ := (part_look hp x.out d).1 e
      have := (List.mem_filter.1 h1).2
      rw [h2, hi] at this
      cases this

set_option maxRecDepth 100000 in
set_option maxHeartbeats 8000000 in
theorem liveW_c {w : World} {v lv : Value} {L : List Dp} {live : List ByteArray} (h : DepRow w v L) (hL : L.length ≤ 9223372036854775807) (hl : StrRow w lv live) (hll : live.length ≤ 9223372036854775807) (hls : ∀ s ∈ live, s.size ≤ maxLen) :
    Calls Try.prog 6 #[v, lv] w fun e w' => e = .returned (.bool true) ∧ Below w.heap.size w w' := by
  have ca := all_c h hL
  obtain ⟨a, c, rfl, hc, hrow⟩ := h
  have HROW := Lib.hid (show DepRow w (.slice a L.length c) L from ⟨a, c, rfl, hc, hrow⟩)
  obtain ⟨la, lc, rfl, hlc, hlrow⟩ := hl
  have HL := Lib.hid (show StrRow w (.slice la live.length lc) live from ⟨la, lc, rfl, hlc, hlrow⟩)
  have HLS := Lib.hid hls
  clear hrow hlrow hls
  cases hz : allB L with
  | false =>
    rw [hz] at ca
    clear hz
    go_enter Try.func6, Try.ntmps6
    go_wp2_with fail
    refine ca.mono ?_
    rintro e w1 ⟨rfl, hb⟩
    clear ca
    go_wp2_with fail
    go_ret
    exact ⟨rfl, hb⟩
  | true =>
    rw [hz] at ca
    by_cases h30 : live.length ≤ 30
    · have h30' : decide ((30 : Int) < (live.length : Int)) = false := decide_eq_false (by omega)
      have hg := live_g hz live
      obtain ⟨A, hA⟩ : ∃ A, allL (toldB L) = A := ⟨_, rfl⟩
      rw [hA] at hg
      obtain ⟨K, hK⟩ : ∃ K, liveF A live = K := ⟨_, rfl⟩
      rw [hK] at hg
      have HG := Lib.hid hg
      have HZ := Lib.hid hz
      clear hz hA hg hK
      go_enter Try.func6, Try.ntmps6
      go_wp2_with fail
      refine ca.mono ?_
      rintro e w1 ⟨rfl, hb1⟩
      have ct := told_c (HROW.out.below hb1) HZ.out
      have HB1 := Lib.hid hb1
      clear ca hb1
      go_wp2_with fail
      refine ct.mono ?_
      rintro e w2 ⟨rfl, hO2, hb2⟩
      have HB2 := Lib.hid (HB1.out.trans (hb2.mono HB1.out.size))
      obtain ⟨p, hp⟩ : ∃ p, w1.heap.size = p := ⟨_, rfl⟩
      rw [hp] at hO2 ⊢
      have HO2 := Lib.hid hO2
      have cr := records_c (live := live) hO2 HG.out.outs (by rw [HG.out.eqA]; exact HG.out.allOk) (HL.out.below HB2.out) (by omega) HLS.out
      clear ct hO2 hb2 hp
      go_wp2_with fail
      refine cr.mono ?_
      rintro e w3 ⟨rv, rfl, hrr, hb3⟩
      rw [HG.out.eqA, HG.out.eqK] at hrr
      have HB3 := Lib.hid (HB2.out.trans (hb3.mono HB2.out.size))
      have HO3 := Lib.hid (HO2.out.below hb3)
      have cl := load_c hrr HG.out.recs.2 HG.out.recs.1 HG.out.took
      obtain ⟨ra, rc, rfl, -, -⟩ := hrr
      clear cr hb3
      go_wp2_with fail
      refine cl.mono ?_
      rintro e w4 ⟨q, rfl, hQ4, hb4⟩
      have HB4 := Lib.hid (HB3.out.trans (hb4.mono HB3.out.size))
      have HO4 := Lib.hid (HO3.out.below hb4)
      have HQ4 := Lib.hid hQ4
      have cA := allD_c HO4.out HG.out.outs
      rw [HG.out.eqA] at cA
      clear cl hb4 hQ4
      go_wp2_with fail
      refine cA.mono ?_
      rintro e w5 ⟨xa, xc, rfl, hall, hb5⟩
      have HB5 := Lib.hid (HB4.out.trans (hb5.mono HB4.out.size))
      have HQ5 := Lib.hid (HQ4.out.below hb5)
      have HX5 := Lib.hid (hall w5 (Nat.le_refl _) (fun _ _ _ => rfl))
      have hA30 := HG.out.allOk.len
      clear cA hall hb5
      go_wp2_with fail
      go_loopw [9, 11, 12] (fun vn vneed i wr => ∃ j : Nat, j ≤ A.length ∧ i = .int .i64 j ∧ vn = .int .i64 (((liveF (A.take j) live).length : Nat) : Int) ∧ Hid (wr.ownsRow w5.heap.size 9 1 vneed ((liveF (A.take j) live).foldl needD []).length (strV ((liveF (A.take j) live).foldl needD []))) ∧ Hid (Below w5.heap.size w5 wr) ∧ Hid (((liveF (A.take j) live).foldl needD []).length ≤ 51 * j)) (fun _ _ i _ => A.length - (intOf i).toNat)
      case atStart => exact ⟨0, Nat.zero_le _, rfl, rfl, Lib.hid (World.ownsRow_nil _ _ _ _), Lib.hid (Below.refl _ _), Lib.hid (Nat.zero_le _)⟩
      case round =>
        obtain ⟨j, hj, rfl, rfl, hN, hB, hNl⟩ := hrel
        obtain ⟨wo, rfl⟩ : ∃ wo, wo = wr := ⟨_, rfl⟩
        obtain ⟨na, nc, rfl⟩ := own_slice hN.out
        by_cases hlt : j < A.length
        · have hx := List.getElem?_eq_getElem hlt
          obtain ⟨_, _, e, _, hrow⟩ := HX5.out
          cases e
          rcases hrow with h | ⟨b, off, rfl, hb, hcell⟩
          · rw [h] at hlt; simp at hlt
          obtain ⟨vd, x0, x1, x2, hs, -⟩ := hcell j _ hx
          have hel : ElD w5 w5 b (off + j * 3) A[j] vd := ⟨x0, x1, x2, hs, hb⟩
          have hyes := HG.out.yes _ (List.getElem_mem hlt)
          have hnot := HG.out.no _ (List.getElem_mem hlt)
          have hym := fun h => liveF_yes (live := live) hx h
          have hnm := fun h => liveF_no (live := live) hx h
          have hxok := HG.out.allOk.ok _ (List.getElem_mem hlt)
          have hxd := HG.out.allOk.deps _ (List.getElem_mem hlt)
          have hkl := (liveF_ok HG.out.allOk live j).1
          generalize A[j] = x at *
          generalize liveF (A.take j) live = Kj at *
          obtain ⟨N, hNe⟩ : ∃ N, Kj.foldl needD [] = N := ⟨_, rfl⟩
          rw [hNe] at hN hNl
          rw [hNe]
          have HNE := Lib.hid hNe
          clear hNe
          obtain ⟨sa, sc, rfl, -, -⟩ := hs
          have EL := Lib.hid (hel.below (Nat.le_refl _) hB.out)
          have HX := Lib.hid (fun (W : World) (hb : Below w5.heap.size w5 W) => hel.below (Nat.le_refl _) hb)
          have HBo := Lib.hid (HB5.out.trans (hB.out.mono HB5.out.size))
          have HQo := Lib.hid (HQ5.out.below hB.out)
          have HYES := Lib.hid hyes
          have HNOT := Lib.hid hnot
          have HYM := Lib.hid hym
          have HNM := Lib.hid hnm
          have hxsz : x.out.size ≤ 1000000 := by
            have := (planE_zero hxok).2.2.2 x.out (by simp)
            omega
          have hj0 : (0 : Int) ≤ (j : Int) := by omega
          have hj1 : (j : Int) < (A.length : Int) := by omega
          clear hx hcell hyes hnot hym hnm hxok x0 x1 x2 hel
          go_wp2_with fail
          go_loopw [13, 14] (fun vis k wr => ∃ m : Nat, m ≤ live.length ∧ k = .int .i64 m ∧ vis = .bool (inB (live.take m) x.out) ∧ Hid (∃ n, wr = wo.drewN n)) (fun _ k _ => live.length - (intOf k).toNat)
          case atStart => exact ⟨0, Nat.zero_le _, rfl, rfl, Lib.hid ⟨0, rfl⟩⟩
          case round =>
            obtain ⟨m, hm, rfl, rfl, hW⟩ := hrel
            obtain ⟨nq, rfl⟩ := hW.out
            by_cases hlm : m < live.length
            · have hy := List.getElem?_eq_getElem hlm
              obtain ⟨_, _, e, _, hlr⟩ := HL.out.below HBo.out
              cases e
              rcases hlr with h | ⟨b2, o2, rfl, hb2, hc2⟩
              · rw [h] at hlm; simp at hlm
              have y0 := hc2 m _ hy
              have hit := inB_take (s := x.out) hy
              generalize live[m] = y at *
              obtain ⟨e0, e1, e2⟩ := EL.out.cells
              have HIT := Lib.hid hit
              have hm0 : (0 : Int) ≤ (m : Int) := by omega
              have hm1 : (m : Int) < (live.length : Int) := by omega
              obtain ⟨zi, hzi⟩ : ∃ z, inB (live.take m) x.out = z := ⟨_, rfl⟩
              rw [hzi] at HIT
              rw [hzi]
              clear hy hc2 hit hzi
              cases zi with
              | true =>
                go_wp2_with fail
                go_quiet (fail)
                go_wp2_with fail
                go_roundw
                case rel => exact ⟨m + 1, by omega, by go_num, by rw [HIT.out]; rfl, Lib.hid ⟨_, rfl⟩⟩
                case measure => simp [intOf]; omega
              | false =>
                by_cases hyx : y = x.out
                · have t0 : (y.toList == x.out.toList) = true := by rw [hyx]; simp
                  have HY := Lib.hid hyx
                  clear hyx
                  go_wp2_with fail
                  go_quiet (fail)
                  go_wp2_with fail
                  go_roundw
                  case rel => exact ⟨m + 1, by omega, by go_num, by rw [HIT.out]; simp [HY.out], Lib.hid ⟨_, rfl⟩⟩
                  case measure => simp [intOf]; omega
                · have t0 : (y.toList == x.out.toList) = false := Pk.toList_ne hyx
                  have HY := Lib.hid hyx
                  clear hyx
                  go_wp2_with fail
                  go_quiet (fail)
                  go_wp2_with fail
                  go_roundw
                  case rel => exact ⟨m + 1, by omega, by go_num, by rw [HIT.out]; simp [HY.out], Lib.hid ⟨_, rfl⟩⟩
                  case measure => simp [intOf]; omega
            · obtain rfl : m = live.length := by omega
              rw [List.take_length]
              have bq : Below wo.heap.size wo (wo.drewN nq) := below_drawn (Below.refl _ _) nq
              obtain ⟨wq, hwq⟩ : ∃ W, wo.drewN nq = W := ⟨_, rfl⟩
              rw [hwq] at bq
              rw [hwq]
              have hBq := hB.out.trans (bq.mono hB.out.size)
              have hEq := EL.out.below hB.out.size bq
              have cl := look_c (s := x.out) (HQo.out.below bq) hxsz
              obtain ⟨m0, m1, m2⟩ := hEq.cells
              have EQ := Lib.hid hEq
              have BQ := Lib.hid bq
              have HBQ := Lib.hid hBq
              have HNQ := Lib.hid (owns_below hN.out bq)
              clear hwq bq hEq hBq hW
              cases hok : inB live x.out with
              | true =>
                have hlk := HYES.out hok
                have cl2 : Calls Try.prog 15 #[.pointer (some ⟨q, 0, Option.none⟩), .string x.out] wq fun e w' => ∃ a c, e = .returned (.tuple #[.agg #[.string x.out, .int .i64 x.time, .slice a x.deps.length c], .bool true]) ∧ w'.ownsRow wq.heap.size 9 1 (.slice a x.deps.length c) x.deps.length (strV x.deps) ∧ Below wq.heap.size wq w' := cl.mono fun e w' hq => by
                  unfold LoQ at hq
                  rw [hlk] at hq
                  obtain ⟨⟨a, c, he, ho⟩, hb⟩ := hq
                  exact ⟨a, c, he, ho, hb⟩
                have HNX := Lib.hid (HYM.out hok)
                clear cl hok hlk
                go_wp2_with fail
                refine cl2.mono ?_
                rintro e w6 ⟨ga, gc, rfl, ho6, hb6⟩
                obtain ⟨W5, hW5⟩ : ∃ W, w6.alloc (.cells #[.string ⟨#[]⟩, .int .i64 0, .slice Option.none 0 0] 39) = W := ⟨_, rfl⟩
                have z5 : W5.heap[w6.heap.size]? = some (.cells #[.string ⟨#[]⟩, .int .i64 0, .slice Option.none 0 0] 39 (0, 0)) := by rw [← hW5]; exact heap_alloc_new _ _
                have b5 : Below w6.heap.size w6 W5 := by rw [← hW5]; exact Pk.below_alloc _ _
                obtain ⟨⟨y0, y1, y2⟩, f0, f1, f2⟩ := thr_cells z5
                have z6 := thr_same (v0 := .string x.out) (v1 := .int .i64 x.time) (v2 := .slice ga x.deps.length gc) z5
                have b6 := thr_below (v0 := .string x.out) (v1 := .int .i64 x.time) (v2 := .slice ga x.deps.length gc) b5 (Nat.le_refl _) (Nat.le_refl w6.heap.size)
                have bm6 := hb6.trans (b6.mono hb6.size)
                have ls := (strRow_of ho6).1.below b6
                have Em6 := EQ.out.below HBQ.out.size bm6
                have HB6 := Lib.hid (HBQ.out.trans (bm6.mono HBQ.out.size))
                have HN6 := Lib.hid (owns_below HNQ.out bm6)
                have hnb : b ≠ w6.heap.size := by have := HBQ.out.size; have := hb6.size; omega
                obtain ⟨W6, hW6⟩ : ∃ W, thr W5 w6.heap.size (.string x.out) (.int .i64 x.time) (.slice ga x.deps.length gc) = W := ⟨_, rfl⟩
                rw [hW6] at z6 ls Em6 HB6 HN6
                have LS := Lib.hid ls
                have EM6 := Lib.hid Em6
                have Z6 := Lib.hid z6
                obtain ⟨⟨s0, s1, s2⟩, -⟩ := thr_cells z6
                unfold thr at hW6
                clear cl2 ho6 hb6 z5 b5 b6 bm6 Em6 m0 m1 m2 z6 ls
                have K0 : (W6.drew.cell? ⟨w6.heap.size, 0, Option.none⟩ = some (.string x.out) ∧ W6.drew.cell? ⟨w6.heap.size, 1, Option.none⟩ = some (.int .i64 x.time) ∧ W6.drew.cell? ⟨w6.heap.size, 2, Option.none⟩ = some (.slice ga x.deps.length gc)) ∧ (W6.drew.cell? ⟨b, off + j * 3, Option.none⟩ = some (.string x.out) ∧ W6.drew.cell? ⟨b, off + j * 3 + 1, Option.none⟩ = some (.int .i64 x.time) ∧ W6.drew.cell? ⟨b, off + j * 3 + 2, Option.none⟩ = some (.slice sa x.deps.length sc)) := ⟨⟨s0, s1, s2⟩, EM6.out.drew.cells⟩
                have KB := Lib.hid (fun (W : World) (hb : Below W6.heap.size W6 W) => (⟨(thr_cells ((hb.block _ (lt_some Z6.out)).trans Z6.out)).1, (EM6.out.below HB6.out.size hb).cells⟩ : (W.cell? ⟨w6.heap.size, 0, Option.none⟩ = some (.string x.out) ∧ W.cell? ⟨w6.heap.size, 1, Option.none⟩ = some (.int .i64 x.time) ∧ W.cell? ⟨w6.heap.size, 2, Option.none⟩ = some (.slice ga x.deps.length gc)) ∧ (W.cell? ⟨b, off + j * 3, Option.none⟩ = some (.string x.out) ∧ W.cell? ⟨b, off + j * 3 + 1, Option.none⟩ = some (.int .i64 x.time) ∧ W.cell? ⟨b, off + j * 3 + 2, Option.none⟩ = some (.slice sa x.deps.length sc))))
                have cf := found_c W6.drew x.out x.time ga x.deps.length gc
                have hdl : x.deps.length ≤ 1000000 := by omega
                go_wp2_with fail
                clear hW6 hW5 y0 y1 y2 f0 f1 f2 s0 s1 s2
                go_region_held3 (fun w' => (w'.cell? ⟨w6.heap.size, 0, Option.none⟩ = some (.string x.out) ∧ w'.cell? ⟨w6.heap.size, 1, Option.none⟩ = some (.int .i64 x.time) ∧ w'.cell? ⟨w6.heap.size, 2, Option.none⟩ = some (.slice ga x.deps.length gc)) ∧ (w'.cell? ⟨b, off + j * 3, Option.none⟩ = some (.string x.out) ∧ w'.cell? ⟨b, off + j * 3 + 1, Option.none⟩ = some (.int .i64 x.time) ∧ w'.cell? ⟨b, off + j * 3 + 2, Option.none⟩ = some (.slice sa x.deps.length sc)))
                  (first | with_reducible exact K0 | with_reducible exact KB.out _ C7.out | with_reducible exact KB.out _ C8.out | with_reducible exact KB.out _ C9.out | fail)
                  (first
                    | (go_at_call 17; (with_reducible refine cf.mono ?_); rintro e V7 ⟨rfl, hb7⟩; have C7 := Lib.hid (below_of_drew hb7); have cg := found_c V7 x.out x.time sa x.deps.length sc; clear hb7 cf)
                    | (go_at_call 17; (with_reducible refine cg.mono ?_); rintro e V8 ⟨rfl, hb8⟩; have C8 := Lib.hid (C7.out.trans (hb8.mono C7.out.size)); have cs := same_c (d := x) (LS.out.below C8.out) (EM6.out.below HB6.out.size C8.out).row hdl; clear hb8 cg)
                    | (go_at_call 16; (with_reducible refine cs.mono ?_); rintro e V9 ⟨rfl, hb9⟩; have C9 := Lib.hid (C8.out.trans (hb9.mono C8.out.size)); clear hb9 cs))
                clear K0
                have E9 := Lib.hid (EM6.out.below HB6.out.size C9.out)
                have HB9 := Lib.hid (HB6.out.trans (C9.out.mono HB6.out.size))
                have hN9 := owns_below HN6.out C9.out
                obtain ⟨n0, n1, n2⟩ := E9.out.cells
                have hNl2 : N.length ≤ 51 * j := hNl.out
                have cw := with_c (s := x.out) hN9 HB9.out.size (by omega)
                have HN9 := Lib.hid hN9
                have HLX : Hid ((Kj ++ [x]).length = Kj.length + 1) := Lib.hid (by simp)
                have HFX : Hid ((Kj ++ [x]).foldl needD [] = needD N x) := Lib.hid (by rw [List.foldl_append, HNE.out]; rfl)
                clear hN9
                go_wp2_with fail
                refine cw.mono ?_
                rintro e V10 hq10
                obtain ⟨a10, c10, rfl, ho10, hB10, hs10⟩ := with_step HN9.out HB9.out.size HB9.out hq10
                have HO10 := Lib.hid ho10
                have HB10 := Lib.hid hB10
                clear cw hq10 ho10 hB10 n0 n1 n2 HN9 HN6
                go_wp2_with fail
                go_loopw [11, 17] (fun vneed k wr => ∃ m : Nat, m ≤ x.deps.length ∧ k = .int .i64 m ∧ Hid (wr.ownsRow w5.heap.size 9 1 vneed ((x.deps.take m).foldl withL (withL N x.out)).length (strV ((x.deps.take m).foldl withL (withL N x.out)))) ∧ Hid (Below w5.heap.size w5 wr) ∧ Hid (((x.deps.take m).foldl withL (withL N x.out)).length ≤ N.length + 1 + m)) (fun _ k _ => x.deps.length - (intOf k).toNat)
                case atStart => exact ⟨0, Nat.zero_le _, rfl, HO10, HB10, Lib.hid (withL_le N x.out)⟩
                case round =>
                  obtain ⟨m, hm, rfl, hNm, hBm, hlm2⟩ := hrel
                  clear HO10 HB10
                  obtain ⟨wm, rfl⟩ : ∃ wm, wm = wr := ⟨_, rfl⟩
                  have hEm := HX.out wm hBm.out
                  obtain ⟨n0, n1, n2⟩ := hEm.cells
                  obtain ⟨nb, nd, rfl⟩ := own_slice hNm.out
                  by_cases hlm : m < x.deps.length
                  · have hy := List.getElem?_eq_getElem hlm
                    obtain ⟨_, _, e, _, hdr⟩ := hEm.row
                    cases e
                    rcases hdr with h | ⟨b3, o3, rfl, hb3, hc3⟩
                    · rw [h] at hlm; simp at hlm
                    have q0 := hc3 m _ hy
                    have hfl : (x.deps.take (m + 1)).foldl withL (withL N x.out) = withL ((x.deps.take m).foldl withL (withL N x.out)) x.deps[m] := by
                      rw [List.take_add_one, hy, Option.toList_some, List.foldl_append]
                      rfl
                    generalize x.deps[m] = y at *
                    generalize (x.deps.take m).foldl withL (withL N x.out) = M at *
                    have hMl : M.length ≤ N.length + 1 + m := hlm2.out
                    have cw := with_c (s := y) hNm.out hBm.out.size (by omega)
                    have HFL := Lib.hid hfl
                    have hm0 : (0 : Int) ≤ (m : Int) := by omega
                    have hm1 : (m : Int) < (x.deps.length : Int) := by omega
                    clear hy hc3 hfl hEm
                    go_wp2_with fail
                    refine cw.mono ?_
                    rintro e V11 hq11
                    obtain ⟨a11, c11, rfl, ho11, hB11, hs11⟩ := with_step hNm.out hBm.out.size hBm.out hq11
                    have HO11 := Lib.hid ho11
                    have HB11 := Lib.hid hB11
                    clear cw hq11 ho11 hB11
                    go_wp2_with fail
                    go_roundw
                    case rel => exact ⟨m + 1, by omega, by go_num, by rw [HFL.out]; exact HO11, HB11, Lib.hid (by rw [HFL.out]; have := withL_le M y; omega)⟩
                    case measure => simp [intOf]; omega
                  · obtain rfl : m = x.deps.length := by omega
                    rw [List.take_length] at hNm hlm2 ⊢
                    have hMl : ((x.deps).foldl withL (withL N x.out)).length ≤ N.length + 1 + x.deps.length := hlm2.out
                    clear hEm
                    go_wp2_with fail
                    go_roundw
                    case rel => exact ⟨j + 1, by omega, by go_num, by rw [HNX.out, HLX.out]; go_num, by rw [HNX.out, HFX.out]; exact hNm, hBm, Lib.hid (by rw [HNX.out, HFX.out]; show ((x.deps).foldl withL (withL N x.out)).length ≤ _; omega)⟩
                    case measure => simp [intOf]; omega
              | false =>
                have hlk := HNOT.out hok
                have cl2 : Calls Try.prog 15 #[.pointer (some ⟨q, 0, Option.none⟩), .string x.out] wq fun e w' => e = .returned (.tuple #[.agg #[.string ⟨#[]⟩, .int .i64 0, .slice Option.none 0 0], .bool false]) ∧ Below wq.heap.size wq w' := cl.mono fun e w' hq => by
                  unfold LoQ at hq
                  rw [hlk] at hq
                  exact hq
                have HNX := Lib.hid (HNM.out hok)
                clear cl hok hlk
                go_wp2_with fail
                refine cl2.mono ?_
                rintro e w6 ⟨rfl, hb6⟩
                obtain ⟨W5, hW5⟩ : ∃ W, w6.alloc (.cells #[.string ⟨#[]⟩, .int .i64 0, .slice Option.none 0 0] 39) = W := ⟨_, rfl⟩
                have z5 : W5.heap[w6.heap.size]? = some (.cells #[.string ⟨#[]⟩, .int .i64 0, .slice Option.none 0 0] 39 (0, 0)) := by rw [← hW5]; exact heap_alloc_new _ _
                have b5 : Below w6.heap.size w6 W5 := by rw [← hW5]; exact Pk.below_alloc _ _
                obtain ⟨⟨y0, y1, y2⟩, f0, f1, f2⟩ := thr_cells z5
                have b6 := thr_below (v0 := .string ⟨#[]⟩) (v1 := .int .i64 0) (v2 := .slice Option.none 0 0) b5 (Nat.le_refl _) (Nat.le_refl w6.heap.size)
                have bm6 := hb6.trans (b6.mono hb6.size)
                obtain ⟨W6, hW6⟩ : ∃ W, thr W5 w6.heap.size (.string ⟨#[]⟩) (.int .i64 0) (.slice Option.none 0 0) = W := ⟨_, rfl⟩
                rw [hW6] at bm6
                have HB6 := Lib.hid (HBQ.out.trans (bm6.mono HBQ.out.size))
                have HN6 := Lib.hid (owns_below HNQ.out bm6)
                unfold thr at hW6
                clear cl2 hb6 z5 b5 b6 bm6 m0 m1 m2
                go_wp2_with fail
                clear hW6 hW5 y0 y1 y2 f0 f1 f2
                go_quiet (fail)
                go_wp2_with fail
                go_roundw
                case rel => exact ⟨j + 1, by omega, by go_num, by rw [HNX.out], by rw [HNX.out, HNE.out]; exact Lib.hid (owns_below HN6.out (below_drawn (Below.refl _ _) _)), Lib.hid (below_drawn HB6.out _), Lib.hid (by rw [HNX.out, HNE.out]; have := hNl.out; omega)⟩
                case measure => simp [intOf]; omega
        · obtain rfl : j = A.length := by omega
          rw [List.take_length, HG.out.eqK] at hN
          have hKe : liveF (A.take A.length) live = K := by rw [List.take_length, HG.out.eqK]
          rw [hKe]
          have hQo := HQ5.out.below hB.out
          have cA := allD_c hQo HG.out.outsK
          have hak := HG.out.allK
          have hnk := HG.out.namesK
          have HAK := Lib.hid hak
          have HBo := Lib.hid (HB5.out.trans (hB.out.mono HB5.out.size))
          clear hN hak
          rw [HAK.out] at cA
          go_wp2_with fail
          refine cA.mono ?_
          rintro e w8 ⟨ya, yc, rfl, -, hb8⟩
          have hQ8 := hQo.below hb8
          have cn := names_c hQ8
          rw [hnk] at cn
          have HB8 := Lib.hid (HBo.out.trans (hb8.mono HBo.out.size))
          clear cA hb8 hQo hQ8 hnk
          go_wp2_with fail
          refine cn.mono ?_
          rintro e w9 ⟨ma, mc, rfl, -, hb9⟩
          have HB9 := Lib.hid (HB8.out.trans (hb9.mono HB8.out.size))
          clear cn hb9
          go_wp2_with fail
          refine (awake_c _).mono ?_
          rintro e w10 ⟨rfl, hb10⟩
          go_wp2_with fail
          go_ret
          exact ⟨rfl, HB9.out.trans (hb10.mono HB9.out.size)⟩
    · have h30' : decide ((30 : Int) < (live.length : Int)) = true := decide_eq_true (by omega)
      clear hz
      go_enter Try.func6, Try.ntmps6
      go_wp2_with fail
      refine ca.mono ?_
      rintro e w1 ⟨rfl, hb⟩
      clear ca
      go_wp2_with fail
      go_ret
      exact ⟨rfl, hb⟩

section
open Go.ChangeShapes Go.WideShapes Go.Deep
set_option maxRecDepth 100000
variable {H : Type} {enc : TypeId × Value → H} {w : World} {base : Nat} {spare : Nat → Bool} {held : Bool}
theorem open_strz {v : Value} {d : DataW H} {p : List MemPlace} {r : Reach} {b0 : Nat} (hv : Value.okWide Try.prog w r b0 27 v) (h : DataW.Trod enc Try.prog w base spare held 27 v d p) : ∃ L, StrRow w v L ∧ L.length ≤ 9223372036854775807 ∧ ∀ s ∈ L, s.size ≤ maxLen := by
  obtain ⟨a0, len0, cap0, rfl⟩ := okWide_slice Try.underlying27 hv
  obtain ⟨m, hm⟩ := h
  obtain ⟨L, hL, hl, -⟩ := strs_row (v := .slice a0 len0 cap0) hm
  refine ⟨L, hL, hl, fun s hs => ?_⟩
  have hm : DataW.trod enc Try.prog w base spare held m 27 [.slice a0 len0 cap0] = some (d, p) := hm
  obtain ⟨i, hi⟩ := List.mem_iff_getElem?.1 hs
  have hil := (List.getElem?_eq_some_iff.1 hi).1
  obtain ⟨a', c', e, _, hrow⟩ := hL
  obtain ⟨e1, e2, e3⟩ := Value.slice.inj e
  subst e2
  rcases open_slice Try.underlying27 hm with ⟨e, _⟩ | ⟨a, len, cap, mm, n, D, Pl, e, _, hlc, hcm, hmm, _, hel⟩
  · simp only [List.cons.injEq, and_true, Value.slice.injEq] at e
    omega
  · simp only [List.cons.injEq, and_true, Value.slice.injEq] at e
    obtain ⟨f1, f2, f3⟩ := e
    have hlen : len ≤ mm := by rw [hmm]; split <;> omega
    rw [cells9] at hel
    obtain ⟨cs', hc, ht⟩ := hel i (by omega)
    obtain ⟨_, hcl, hat⟩ := World.cells?_some hc
    match cs', hcl with
    | [v0], _ =>
      obtain ⟨z, g1, _, gs⟩ := DataW.trod_string Try.underlying9 ht
      simp only [List.cons.injEq, and_true] at g1
      subst g1
      have hz := hat 0 (by simp)
      rw [Go.Deep.add_add] at hz
      rcases hrow with h0 | ⟨b, off, h1, _, h2⟩
      · rw [h0] at hil; simp at hil
      · have h3 := h2 i s hi
        rw [← e1, f1] at h1
        have h1 := Option.some.inj h1
        subst h1
        rw [Go.WideShapes.add_plain, Nat.mul_one, Nat.add_zero] at hz
        have hz' : w.cell? ⟨b, off + i, Option.none⟩ = some (.string z) := hz
        rw [h3] at hz'
        have : s = z := by injection hz' with e; injection e
        rw [this]
        exact gs
end
end Go.Proofs.Ytmppjlgmopfaeaa.Nm
