/-
  Records, WALKED.
-/
import Derived.Test.YtmppjlgmopfaeaaNmRecs
namespace Go.Proofs.Ytmppjlgmopfaeaa.Nm
open Go.RowKit Go.Maps

/-- the live ones of a row -/
def liveF (A : List Dp) (live : List ByteArray) : List Dp := A.filter fun d => inB live d.out
theorem liveF_yes {A : List Dp} {live : List ByteArray} {j : Nat} {x : Dp} (hx : A[j]? = some x) (h : inB live x.out = true) : liveF (A.take (j + 1)) live = liveF (A.take j) live ++ [x] := by
  unfold liveF
  rw [List.take_add_one, hx, Option.toList_some, List.filter_append]
  simp [h]
theorem liveF_no {A : List Dp} {live : List ByteArray} {j : Nat} {x : Dp} (hx : A[j]? = some x) (h : inB live x.out = false) : liveF (A.take (j + 1)) live = liveF (A.take j) live := by
  unfold liveF
  rw [List.take_add_one, hx, Option.toList_some, List.filter_append]
  simp [h]

structure AllOk (A : List Dp) : Prop where
  len : A.length ≤ 30
  deps : ∀ d ∈ A, d.deps.length ≤ 50
  ok : ∀ d ∈ A, dpE d = 0
theorem liveF_ok {A : List Dp} (h : AllOk A) (live : List ByteArray) (j : Nat) : (liveF (A.take j) live).length ≤ 30 ∧ (∀ d ∈ liveF (A.take j) live, d.deps.length ≤ 50) ∧ ∀ d ∈ liveF (A.take j) live, dpE d = 0 := by
  have hs : (liveF (A.take j) live).Sublist A := (List.filter_sublist).trans (List.take_sublist _ _)
  exact ⟨Nat.le_trans hs.length_le h.len, fun d hd => h.deps d (hs.subset hd), fun d hd => h.ok d (hs.subset hd)⟩

set_option maxRecDepth 100000 in
set_option maxHeartbeats 8000000 in
theorem records_c {b lo hi : Nat} {w : World} {p : Nat} {B : Bo} {lv : Value} {live : List ByteArray} (h : Own b lo hi w p B) (hnd : ((foundL B B.F.length).map Dp.out).Nodup) (hA : AllOk (allL B)) (hl : StrRow w lv live) (hll : live.length ≤ 1000) (hls : ∀ s ∈ live, s.size ≤ maxLen) :
    Calls Try.prog 25 #[.pointer (some ⟨p, 0, Option.none⟩), lv] w fun e w' => ∃ v, e = .returned v ∧ RecRow w' v (recsL (liveF (allL B) live)) ∧ Below w.heap.size w w' := by
  have HO := Lib.hid h
  have HND := Lib.hid hnd
  have HA := Lib.hid hA
  have HLS := Lib.hid hls
  obtain ⟨la, lc, rfl, hlc, hlrow⟩ := hl
  have HL := Lib.hid (show StrRow w (.slice la live.length lc) live from ⟨la, lc, rfl, hlc, hlrow⟩)
  have hmk := @run_makeMap Try.prog
  have hS0 := Lib.hid (Si.made w)
  have hB0 := Lib.hid (Pk.below_alloc w (.map #[] 0))
  clear h hnd hA hls hlrow
  go_enter Try.func25, Try.ntmps25
  go_wp2_with fail
  clear hmk
  go_loopw [19] (fun i wr => ∃ j : Nat, j ≤ live.length ∧ i = .int .i64 j ∧ Hid (Si wr j w.heap.size (inL (live.take j))) ∧ Hid (Below w.heap.size w wr)) (fun i _ => live.length - (intOf i).toNat)
  case atStart => exact ⟨0, Nat.zero_le _, rfl, hS0, hB0⟩
  case round =>
    obtain ⟨j, hj, rfl, hS, hB⟩ := hrel
    clear hS0 hB0
    by_cases hlt : j < live.length
    · have hx := List.getElem?_eq_getElem hlt
      obtain ⟨_, _, e, _, hrow⟩ := HL.out.below hB.out
      cases e
      rcases hrow with h | ⟨b1, off, rfl, hb1, hcell⟩
      · rw [h] at hlt; simp at hlt
      have x0 := hcell j _ hx
      have hsz := HLS.out _ (List.getElem_mem hlt)
      have hit := inL_take hx
      generalize live[j] = s at *
      obtain ⟨W9, hr9, hs9, hg9, hz9⟩ := hS.out.put (by unfold maxLen; omega) hsz
      rw [hit] at hs9
      have HS9 := Lib.hid hs9
      have HB9 := Lib.hid (show Below w.heap.size w W9 from hB.out.trans ⟨hg9.os, hg9.tape, hg9.output, hg9.size, fun k hk => hg9.block k (by have := hB.out.size; omega) (fun e => by have := Option.some.inj e; omega)⟩)
      have hi0 : (0 : Int) ≤ (j : Int) := by omega
      have hi1 : (j : Int) < (live.length : Int) := by omega
      clear hx hcell hit hs9 hg9 hz9
      go_wp2_with fail
      go_roundw
      case rel => exact ⟨j + 1, by omega, by go_num, HS9, HB9⟩
      case measure => simp [intOf]; omega
    · obtain rfl : j = live.length := by omega
      rw [List.take_length] at hS
      obtain ⟨wm, rfl⟩ : ∃ wm, wm = wr := ⟨_, rfl⟩
      go_wp2_with fail
      refine (newO_c wm).mono ?_
      rintro e w1 ⟨q, rfl, hq, hb1⟩
      have HB1 := Lib.hid (hB.out.trans (hb1.mono hB.out.size))
      have HQ := Lib.hid hq
      have HS1 := Lib.hid (hS.out.kept (hb1.block _ hS.out.lt))
      have hml := hS.out.lt
      have HML := Lib.hid hml
      have HB1m := Lib.hid hb1
      have ca := allD_c (HO.out.below HB1.out) HND.out
      clear hq hb1 hml
      go_wp2_with fail
      refine ca.mono ?_
      rintro e w2 ⟨aa, ac, rfl, hall, hb2⟩
      have HALL := Lib.hid hall
      have HB2 := Lib.hid (HB1.out.trans (hb2.mono HB1.out.size))
      have HB12 := Lib.hid hb2
      have HS2 := Lib.hid (HS1.out.kept (hb2.block _ HS1.out.lt))
      have HR2 : Hid (RcS w (fun k => k = w.heap.size ∨ (w1.heap.size ≤ k ∧ k < w2.heap.size)) w2 q ⟨[], []⟩ (.slice Option.none 0 0) []) := Lib.hid (by
        have h1 := (HQ.out.below hb2)
        obtain ⟨S, v1, v2, v3, Q, k1, k2⟩ := HQ.out
        refine ⟨⟨S, v1, v2, v3, Q, k1.below hb2, fun k hk => ⟨?_, Nat.lt_of_lt_of_le (k2 k hk).2.1 hb2.size, fun hx => ?_⟩, rowsAt_nil _ _ _⟩, HB2.out, fun k hk => by cases hk⟩
        · have := (k2 k hk).1; have := hB.out.size; omega
        · rcases hx with hx | hx
          · have := (k2 k hk).1; have := HML.out; omega
          · have := (k2 k hk).2.1; omega)
      have hAlen := HA.out.len
      obtain ⟨A, hAe⟩ : ∃ A, allL B = A := ⟨_, rfl⟩
      have HAE := Lib.hid hAe
      rw [hAe] at HALL HA hAlen
      rw [hAe]
      clear ca hall hb2 HQ hAe
      go_wp2_with fail
      go_loopw [9, 31] (fun vr i wr => ∃ j : Nat, j ≤ A.length ∧ i = .int .i64 j ∧ Hid (RcS w (fun k => k = w.heap.size ∨ (w1.heap.size ≤ k ∧ k < w2.heap.size)) wr q (toldB (liveF (A.take j) live)) vr (recsL (liveF (A.take j) live))) ∧ Hid (Si wr live.length w.heap.size (inL live)) ∧ Hid (∀ k, w1.heap.size ≤ k → k < w2.heap.size → wr.heap[k]? = w2.heap[k]?) ∧ Hid (w2.heap.size ≤ wr.heap.size)) (fun _ i _ => A.length - (intOf i).toNat)
      case atStart => exact ⟨0, Nat.zero_le _, rfl, HR2, HS2, Lib.hid (fun _ _ _ => rfl), Lib.hid (Nat.le_refl _)⟩
      case round =>
        obtain ⟨j, hj, rfl, hR, hSi, hK, hZ⟩ := hrel
        clear HR2 HS2
        obtain ⟨wo, rfl⟩ : ∃ wo, wo = wr := ⟨_, rfl⟩
        by_cases hlt2 : j < A.length
        · have hx := List.getElem?_eq_getElem hlt2
          obtain ⟨_, _, e, _, hrow⟩ := HALL.out wo hZ.out hK.out
          cases e
          rcases hrow with h | ⟨b1, off, rfl, hb1, hcell⟩
          · rw [h] at hlt2; simp at hlt2
          obtain ⟨vd, x0, x1, x2, hxs, -⟩ := hcell j _ hx
          have hym := fun h => liveF_yes (live := live) hx h
          have hnm := fun h => liveF_no (live := live) hx h
          have hxok := HA.out.ok _ (List.getElem_mem hlt2)
          have hxd := HA.out.deps _ (List.getElem_mem hlt2)
          obtain ⟨kl, kd, ke⟩ := liveF_ok HA.out live j
          generalize A[j] = x at *
          obtain ⟨va, vc, rfl⟩ : ∃ a c, vd = .slice a x.deps.length c := by
            obtain ⟨a, c, e, _⟩ := hxs
            exact ⟨a, c, e⟩
          have HY := Lib.hid hym
          have HN := Lib.hid hnm
          have HXS := Lib.hid hxs
          have HKL := Lib.hid kl
          have HKD := Lib.hid kd
          have HKE := Lib.hid ke
          have HXK := Lib.hid hxok
          obtain ⟨K, hKe⟩ : ∃ K, liveF (A.take j) live = K := ⟨_, rfl⟩
          rw [hKe] at hR HKL HKD HKE HY HN
          obtain ⟨W5, hW5⟩ : ∃ W, wo.alloc (.cells #[.string ⟨#[]⟩, .int .i64 0, .slice Option.none 0 0] 39) = W := ⟨_, rfl⟩
          have z5 : W5.heap[wo.heap.size]? = some (.cells #[.string ⟨#[]⟩, .int .i64 0, .slice Option.none 0 0] 39 (0, 0)) := by rw [← hW5]; exact heap_alloc_new _ _
          have b5 : Below wo.heap.size wo W5 := by rw [← hW5]; exact Pk.below_alloc _ _
          obtain ⟨⟨y0, y1, y2⟩, f0, f1, f2⟩ := thr_cells z5
          have z6 := thr_same (v0 := .string x.out) (v1 := .int .i64 x.time) (v2 := .slice va x.deps.length vc) z5
          have b6 := thr_below (v0 := .string x.out) (v1 := .int .i64 x.time) (v2 := .slice va x.deps.length vc) b5 (Nat.le_refl _) (Nat.le_refl wo.heap.size)
          obtain ⟨W6, hW6⟩ : ∃ W, thr W5 wo.heap.size (.string x.out) (.int .i64 x.time) (.slice va x.deps.length vc) = W := ⟨_, rfl⟩
          rw [hW6] at z6 b6
          obtain ⟨⟨s0, s1, s2⟩, -⟩ := thr_cells z6
          have hsi6 := hSi.out.kept (b6.block _ hSi.out.lt)
          have hxsz : x.out.size ≤ maxLen := by
            have := (planE_zero hxok).2.2.2 x.out (by simp)
            unfold maxLen
            omega
          have hlk := hsi6.look hxsz
          rw [inL_at] at hlk
          have HSI6 := Lib.hid hsi6
          have B6 := Lib.hid b6
          have Z6 := Lib.hid z6
          unfold thr at hW6
          have hi0 : (0 : Int) ≤ (j : Int) := by omega
          have hi1 : (j : Int) < (A.length : Int) := by omega
          obtain ⟨ok, hok⟩ : ∃ ok, inB live x.out = ok := ⟨_, rfl⟩
          rw [hok] at hlk
          have HOK := Lib.hid hok
          obtain ⟨W7, hW7⟩ : ∃ W, W6.alloc (.cells #[] 98) = W := ⟨_, rfl⟩
          have b7 : Below W6.heap.size W6 W7 := by rw [← hW7]; exact Pk.below_alloc _ _
          have z7 := (b7.block _ (lt_some z6)).trans z6
          obtain ⟨⟨t0, t1, t2⟩, -⟩ := thr_cells z7
          have b67 := b6.trans (b7.mono b6.size)
          have hR7 := hR.out.below b67
          have HR7 := Lib.hid hR7
          have HSI7 := Lib.hid (hSi.out.kept (b67.block _ hSi.out.lt))
          have HK7 : Hid (∀ k, w1.heap.size ≤ k → k < w2.heap.size → W7.heap[k]? = w2.heap[k]?) := Lib.hid fun k h1 h2 => (b67.block k (by have := hZ.out; omega)).trans (hK.out k h1 h2)
          have HZ7 := Lib.hid (Nat.le_trans hZ.out b67.size)
          have hxs7 := hxs.below b67
          have hKfew := (told_ok (L := K) (by have := HKL.out; omega) HKD.out).2
          have hKfew2 : (toldB K).N.length < 40000 := by have := HKL.out; omega
          have ct := telling_rc hR7 hxs7 hxok hKfew2
          obtain ⟨vrr, vrc, rfl⟩ := hR.out.val
          obtain ⟨rs, hrs0⟩ : ∃ rs, planD (toldB K).N x = rs := ⟨_, rfl⟩
          have hrsl : rs.length ≤ 52 := by rw [← hrs0]; have := planD_len (toldB K).N x; omega
          have HRSM := Lib.hid (planD_small (N := (toldB K).N) hxok)
          obtain ⟨B9, hfin, -, -, -, -⟩ := plan_fin hxok (told_ok (L := K) (by have := HKL.out; omega) HKD.out).1 (by omega)
          have HST : Hid (toldB (K ++ [x]) = B9) := Lib.hid (by rw [toldB_snoc]; unfold stepB; rw [if_pos hxok, hfin]; rfl)
          have HRL : Hid (recsL (K ++ [x]) = recsL K ++ rs) := Lib.hid (by rw [recsL_snoc, hrs0])
          have hKr := (recs_take (K := K) (by have := HKL.out; omega) HKD.out HKE.out).2.1
          have hKr2 : (recsL K).length ≤ 1560 := by have := HKL.out; omega
          rw [hrs0] at ct hfin HRSM
          have HFIN := Lib.hid hfin
          clear hx hym hnm hcell hxs kl kd ke z5 b5 z6 b6 hsi6 hxok hok hKe z7 b67 b7 hR7 hxs7 hKr hfin hrs0
          cases ok with
          | false =>
            clear ct
            go_wp2_with fail
            go_roundw
            case rel => exact ⟨j + 1, by omega, by go_num, by rw [HN.out HOK.out]; exact HR7, HSI7, HK7, HZ7⟩
            case measure => simp [intOf]; omega
          | true =>
            go_wp2_with fail
            refine ct.mono ?_
            rintro e W8 ⟨vt, rfl, hrows, hb8⟩
            obtain ⟨ta, tc, rfl⟩ := hrows.val
            have HRW := Lib.hid hrows
            have HB8 := Lib.hid hb8
            have HR8 : Hid (RcS w (fun k => (k = w.heap.size ∨ (w1.heap.size ≤ k ∧ k < w2.heap.size)) ∨ (W7.heap.size ≤ k ∧ k < W8.heap.size)) W8 q (toldB K) (.slice vrr (recsL K).length vrc) (recsL K)) := Lib.hid ((HR7.out.more (fun k hk => by rcases hk with hk | hk; exact .inl hk; exact .inr hk.1)).below hb8)
            have HX8 : Hid (∀ k, ((k = w.heap.size ∨ (w1.heap.size ≤ k ∧ k < w2.heap.size)) ∨ (W7.heap.size ≤ k ∧ k < W8.heap.size)) → k < W8.heap.size) := Lib.hid fun k hk => by
              have := hb8.size
              have := HZ7.out
              have := HSI7.out.lt
              omega
            have HSI8 := Lib.hid (HSI7.out.kept (hb8.block _ HSI7.out.lt))
            have HK8 : Hid (∀ k, w1.heap.size ≤ k → k < w2.heap.size → W8.heap[k]? = w2.heap[k]?) := Lib.hid fun k h1 h2 => (hb8.block k (by have := HZ7.out; omega)).trans (HK7.out k h1 h2)
            have hw7 : w.heap.size ≤ W7.heap.size := HR7.out.bel.size
            clear ct hrows hb8 t0 t1 t2 s0 s1 s2 y0 y1 y2 f0 f1 f2 hW5 hW6 hW7 hlk x0 x1 x2
            go_wp2_with fail
            go_loopw [9, 48] (fun vr i wr => ∃ m : Nat, m ≤ rs.length ∧ i = .int .i64 m ∧ ∃ Bk, Hid (takeAll (toldB K) (rs.take m) = some Bk) ∧ Hid (RcS w (fun k => (k = w.heap.size ∨ (w1.heap.size ≤ k ∧ k < w2.heap.size)) ∨ (W7.heap.size ≤ k ∧ k < W8.heap.size)) wr q Bk vr (recsL K ++ rs.take m)) ∧ Hid (∀ k, ((k = w.heap.size ∨ (w1.heap.size ≤ k ∧ k < w2.heap.size)) ∨ (W7.heap.size ≤ k ∧ k < W8.heap.size)) → wr.heap[k]? = W8.heap[k]?) ∧ Hid (W8.heap.size ≤ wr.heap.size)) (fun _ i _ => rs.length - (intOf i).toNat)
            case atStart => exact ⟨0, Nat.zero_le _, rfl, toldB K, Lib.hid rfl, by rw [List.take_zero, List.append_nil]; exact HR8, Lib.hid (fun _ _ => rfl), Lib.hid (Nat.le_refl _)⟩
            case round =>
              obtain ⟨m, hm, rfl, Bk, hT, hRi, hXk, hZi⟩ := hrel
              clear HR8
              by_cases hlm : m < rs.length
              · have hxr := List.getElem?_eq_getElem hlm
                have hsml := HRSM.out _ (List.getElem_mem hlm)
                have hrw : Rows W7.heap.size Option.none W8 (.slice ta rs.length tc) rs := HRW.out
                obtain ⟨g, ua, k, rfl, -, htc, hg1, hg2, hcell, hown⟩ := hrw.ato hxr
                have hXg : ∀ k, W7.heap.size ≤ k → k < W8.heap.size → wr.heap[k]? = W8.heap[k]? := fun k h1 h2 => hXk.out k (.inr ⟨h1, h2⟩)
                have c0 := (cell_of_block (j := m) (hXg g hg1 hg2)).trans hcell
                have hown2 := owns_kept (w' := wr) hown fun k hk => hXg k (hown.lt k hk).1 (hown.lt k hk).2
                obtain ⟨-, hrow, -⟩ := Pk.owned_row hown2
                obtain ⟨Bk', e1, e2⟩ := takeAll_take HFIN.out m
                rw [hT.out] at e1
                obtain rfl := Option.some.inj e1
                obtain ⟨Bn, htb, htn⟩ := e2 _ hxr
                have hNk : Bk.N.length < 1000000 := by have := takeAll_len hT.out; rw [List.length_take] at this; omega
                have hrl : (recsL K ++ rs.take m).length ≤ 1000000 := by rw [List.length_append, List.length_take]; omega
                have htk : rs.take (m + 1) = rs.take m ++ [rs[m]] := by rw [List.take_add_one, hxr]; rfl
                obtain ⟨ra, rc, rfl⟩ := hRi.out.val
                generalize rs[m] = r at *
                have ct := take_rc hRi.out (fun k hk => Nat.lt_of_lt_of_le (HX8.out k hk) hZi.out) hrow (Lib.hid rfl) (own_cap hown2) hsml.1 hsml.2 hNk
                have HTB := Lib.hid htb
                have HTN := Lib.hid htn
                have HTK := Lib.hid htk
                have HOW := Lib.hid hown
                have hm0 : (0 : Int) ≤ (m : Int) := by omega
                have hm1 : (m : Int) < (rs.length : Int) := by omega
                clear hxr hsml hrw hrow e1 e2 htb htn htk hown2 hXg hcell hown
                go_wp2_with fail
                refine ct.mono ?_
                rintro e w5 ⟨⟨z, rfl⟩, hR5, hX5, hZ5⟩
                rw [HTB.out] at hR5
                have hX8' : ∀ k, ((k = w.heap.size ∨ (w1.heap.size ≤ k ∧ k < w2.heap.size)) ∨ (W7.heap.size ≤ k ∧ k < W8.heap.size)) → w5.heap[k]? = W8.heap[k]? := fun k hk => (hX5 k hk).trans (hXk.out k hk)
                have hown5 := owns_base (owns_kept (w' := w5) HOW.out fun k hk => hX8' k (.inr ⟨(HOW.out.lt k hk).1, (HOW.out.lt k hk).2⟩)) hw7
                have hR5 : RcS w (fun k => (k = w.heap.size ∨ (w1.heap.size ≤ k ∧ k < w2.heap.size)) ∨ (W7.heap.size ≤ k ∧ k < W8.heap.size)) w5 q Bn (.slice ra (recsL K ++ rs.take m).length rc) (recsL K ++ rs.take m) := hR5
                obtain ⟨a9, c9, W9, hr9, hR9, hX9, hZ9⟩ := hR5.app (u := .slice ua r.length k) (r := r) (ty := 22) (fun k hk => Nat.lt_of_lt_of_le (HX8.out k hk) (Nat.le_trans hZi.out hZ5)) hown5 (fun k hk => .inr ⟨(HOW.out.lt k hk).1, (HOW.out.lt k hk).2⟩) hrl
                have hlen1 : (recsL K ++ rs.take m).length = (recsL K).length + m := by rw [List.length_append, List.length_take, Nat.min_eq_left hm]
                have hlen2 : (recsL K ++ rs.take m ++ [r]).length = (recsL K).length + m + 1 := by rw [List.length_append, hlen1]; rfl
                rw [hlen1] at hr9
                rw [hlen2] at hR9
                have HR9 := Lib.hid hr9
                have HRR := Lib.hid hR9
                have HX9 := Lib.hid (fun k hk => (hX9 k hk).trans (hX8' k hk))
                have HZ9 := Lib.hid (Nat.le_trans hZi.out (Nat.le_trans hZ5 hZ9))
                clear ct hR5 hX5 hZ5 hX8' hown5 hr9 hR9 hX9 hZ9 hlen1 hlen2
                go_wp2_with (at_builtin; refine wpList_run rfl (.tmp 55) (.tmp 57) rfl rfl rfl HR9.out ?_)
                go_roundw
                case rel => exact ⟨m + 1, by omega, by go_num, Bn, HTN, by rw [HTK.out, ← List.append_assoc]; exact HRR, HX9, HZ9⟩
                case measure => simp [intOf]; omega
              · obtain rfl : m = rs.length := by omega
                rw [List.take_length] at hT hRi
                obtain rfl : B9 = Bk := by have := HFIN.out; rw [hT.out] at this; exact (Option.some.inj this).symm
                go_wp2_with fail
                go_roundw
                case rel => exact ⟨j + 1, by omega, by go_num, by rw [HY.out HOK.out, HST.out, HRL.out]; exact Lib.hid (hRi.out.more fun k hk => .inl (.inl hk)), Lib.hid (HSI8.out.kept (hXk.out _ (.inl (.inl rfl)))), Lib.hid (fun k h1 h2 => (hXk.out k (.inl (.inr ⟨h1, h2⟩))).trans (HK8.out k h1 h2)), Lib.hid (by have := hZi.out; have := HB8.out.size; have := HZ7.out; omega)⟩
                case measure => simp [intOf]; omega
        · obtain rfl : j = A.length := by omega
          rw [List.take_length] at hR
          go_wp2_with fail
          go_ret
          exact ⟨_, rfl, by rw [HAE.out]; exact hR.out.read, hR.out.bel⟩
end Go.Proofs.Ytmppjlgmopfaeaa.Nm
