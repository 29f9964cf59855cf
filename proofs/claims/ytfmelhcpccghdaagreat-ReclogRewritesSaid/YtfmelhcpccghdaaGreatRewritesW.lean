/-
  THE LAW ReclogRewrites, WALKED.
-/
import Derived.Test.YtfmelhcpccghdaaGreatRlLife2
import Derived.Test.YtfmelhcpccghdaaGreatRlLong
import Derived.Deep.Slices
import Derived.Laws.AppendOwnNone
namespace Go.Proofs.YtfmelhcpccghdaaGreat.Rl
open Go.RowKit Go.Maps

variable {X : Nat → Prop} {K : Nat} {w : World} {p lp : Nat} {d : Ds} {nm sp : List UInt8} {k : UInt8}

theorem rows_values {vb : Option Addr} {m c : Nat} {ms : List (List UInt8)} (hM : Mat w (.slice vb m c) ms) : (vb = none ∧ m = 0) ∨ ∃ (ad : Addr) (news : List Value), vb = some ad ∧ news.length = m ∧ (∀ (j : Nat) (u : Value), news[j]? = some u → w.cell? (ad.add j) = some u) ∧ ∀ u ∈ news, u.oneCell' = true := by
  obtain ⟨hm, hat⟩ := Mat.at hM
  cases vb with
  | none =>
    left
    refine ⟨rfl, ?_⟩
    rcases Nat.eq_zero_or_pos m with h | h
    · exact h
    · obtain ⟨b, o, _, _, e, _⟩ := hat 0 ms[0] (List.getElem?_eq_getElem (by omega))
      cases e
  | some ad =>
    right
    have hall : ∀ j, j < m → ∃ u : Value, w.cell? (ad.add j) = some u ∧ u.oneCell' = true := fun j hj => by
      obtain ⟨b, o, ua, uc, e, _, hc, _⟩ := hat j ms[j] (List.getElem?_eq_getElem (by omega))
      cases e
      exact ⟨_, by rw [Go.WideShapes.add_plain]; exact hc, rfl⟩
    obtain ⟨F, hF⟩ := Go.Deep.choose_lt (α := Value) (p := fun j u => w.cell? (ad.add j) = some u ∧ u.oneCell' = true) (n := m) hall
    refine ⟨ad, (List.range m).map F, rfl, by simp, fun j u hj => ?_, fun u hu => ?_⟩
    · have hj2 : j < m := by
        have := (List.getElem?_eq_some_iff.1 hj).1
        simpa using this
      rw [List.getElem?_map, List.getElem?_range hj2] at hj
      simp at hj
      rw [← hj]
      exact (hF j hj2).1
    · obtain ⟨j, hj, rfl⟩ := List.mem_map.1 hu
      exact (hF j (List.mem_range.1 hj)).2
theorem elem0_of {base n c : Nat} {a : Option Addr} {x : Value} {xs : List Value} (h : w.ownsRow base 31 1 (.slice a n c) n (x :: xs)) (hn : 0 < n) : ∃ g : Nat, a = some ⟨g, 0, none⟩ ∧ g < w.heap.size ∧ w.cell? ⟨g, 0, none⟩ = some x := by
  rcases h.2 with ⟨e, h0⟩ | ⟨g, cap, cur, e, hb, hg, _⟩
  · omega
  · cases e
    refine ⟨g, rfl, lt_of_some hg, ?_⟩
    have := h.cells (g := g) rfl 0 x rfl
    rwa [Go.WideShapes.add_plain] at this
theorem own_grown {W w' : World} {base n s : Nat} {e : TypeId} {v : Value} {xs : List Value} (h : W.ownsRow base e s v n xs) (hg : W.grownBy w' v.ownBlock) (hb : base ≤ W.heap.size) : Below base W w' :=
  ⟨hg.os, hg.tape, hg.output, hg.size, fun k hk => hg.block k (Nat.lt_of_lt_of_le hk hb) fun e' => by have := (h.lt k e'.symm).1; omega⟩
theorem made_long : ∃ C : Array Value, ∀ w : World, (Instr.makeSlice 31 (.int .i64 4097) (.int .i64 4097)).run Tryz.prog w = .ok (.slice (some ⟨w.heap.size, 0, none⟩) 4097 4097) (w.alloc (.cells C 5)) := by
  obtain ⟨i0, hi, hz0, hz1, hz2⟩ := info_parts info5
  exact ⟨_, fun w => run_make (P := Tryz.prog) w 31 5 i0 (.int .u8 0) Tryz.underlying31 hi hz0 .i64 .i64 4097 4097 (by omega) (by omega) (by rw [hz2]; omega) (by omega)⟩

set_option maxRecDepth 100000 in
set_option maxHeartbeats 8000000 in
theorem rewrites_law {va vb : Option Addr} {n c m c2 : Nat} {ls ms : List (List UInt8)} (dir : Int) {tv : Value} {ts : List Int} (w : World) (hM : Mat w (.slice va n c) ls) (hM2 : Mat w (.slice vb m c2) ms) (htv : TRow w tv ts) (hcap : m ≤ c2) (hnil : vb = none → c2 = 0) :
    Calls Tryz.prog 4 #[.slice va n c, .slice vb m c2, .agg #[.int .i64 dir, tv]] w fun e w' => e = .returned (.bool true) ∧ Below w.heap.size w w' := by
  obtain ⟨ta, tc, htv', _⟩ := id htv
  subst htv'
  generalize htl : ts.length = tl at *
  have HTL := Lib.hid htl
  clear htl
  obtain ⟨w1, hw1⟩ : ∃ W, w.alloc (.cells #[.int .i64 dir, .slice ta tl tc] 41) = W := ⟨_, rfl⟩
  have hb1 : Below w.heap.size w w1 := by rw [← hw1]; exact below_alloc _ _
  have c0 : w1.cell? ⟨w.heap.size, 0, none⟩ = some (.int .i64 dir) := by rw [← hw1]; exact cell_at_new _ _ _ _ _ rfl
  have c1 : w1.cell? ⟨w.heap.size, 1, none⟩ = some (.slice ta tl tc) := by rw [← hw1]; exact cell_at_new _ _ _ _ _ rfl
  have hM1 := Mat.below hM hb1
  have hM21 := Mat.below hM2 hb1
  have hT1 : TRow w1 (.slice ta tl tc) ts := htv.same (Y := fun _ => True) (Same.of_below hb1) (fun _ _ => trivial)
  have hli := light_c hM1
  have hli2 := light_c hM21
  have hkb : w.heap.size < w1.heap.size := by rw [← hw1, World.size_alloc]; omega
  have HM := Lib.hid hM1
  have HM2 := Lib.hid hM21
  have HT := Lib.hid hT1
  have HTlt := Lib.hid (fun x (hx : Value.rowBlock (.slice ta tl tc) = some x) => htv.lt hx)
  have HB1 := Lib.hid hb1
  have HW1 := Lib.hid hw1
  clear hM hM2 htv hM1 hM21 hT1 hb1 hw1
  by_cases hL : Light ls
  · by_cases hL2 : Light ms
    · rw [show decide (Light ls) = true from decide_eq_true hL] at hli
      rw [show decide (Light ms) = true from decide_eq_true hL2] at hli2
      have HL := Lib.hid hL
      have HL2 := Lib.hid hL2
      clear hL hL2
      go_enter Tryz.func4, Tryz.ntmps4
      go_wp2_with fail
      rw [HW1.out]
      refine hli.mono ?_
      rintro e w2 ⟨rfl, rfl⟩
      clear hli
      go_wp2_with fail
      refine hli2.mono ?_
      rintro e w2 ⟨rfl, rfl⟩
      clear hli2
      by_cases ht20 : tl ≤ 20
      · have hnw := new_c 16777216 (by omega) w1
        go_wp2_with fail
        refine hnw.mono ?_
        rintro e w2 ⟨p, rfl, hp, hb2, hdk⟩
        clear hnw
        have hopn := open_any hdk (by omega) (nm := logN) (by decide) 1
        rw [show mk logN = (⟨#[108, 111, 103]⟩ : ByteArray) from rfl, show (((1 : UInt8).toNat : Nat) : Int) = 1 from rfl] at hopn
        have HB2 := Lib.hid hb2
        obtain ⟨X, hX⟩ : ∃ X : Nat → Prop, (fun x => x < w1.heap.size) = X := ⟨_, rfl⟩
        rw [hX] at hdk hopn
        have HX : Hid (∀ x, x < w1.heap.size → X x) := Lib.hid fun x hx => by rw [← hX]; exact hx
        clear hb2 hdk hX
        go_wp2_with fail
        refine hopn.mono ?_
        rintro e w3 ⟨m3, d3, r3, Y, hs3, hop, hXY, hdk3, hret⟩
        clear hopn
        obtain ⟨rfl, rfl, hal3, id3, hL3⟩ := open_new log_ne spare_ne right_log (by decide) (by decide) hop
        have hnr3 := openF_nr hop
        rcases hret with ⟨h, _⟩ | ⟨_, lg, u, rfl, hlY, hlg, hlog, hsf⟩
        · exact absurd rfl h
        obtain ⟨ua, uc, rfl, _⟩ := hsf.mat
        have HY : Hid (∀ x, x < w1.heap.size → Y x) := Lib.hid fun x hx => by first | exact hXY x (HX.out x hx) | exact hXY x hx
        have HB3 := Lib.hid (same_below hs3 HB2.out.size HX.out HB2.out rfl)
        have HN := Lib.hid (Mat.at HM.out).1
        have HN2 := Lib.hid (Mat.at HM2.out).1
        have hn30 : n ≤ 30 := by rw [HN.out]; exact HL.out.1
        have hm30 : m ≤ 30 := by rw [HN2.out]; exact HL2.out.1
        have HAT := Lib.hid (Mat.at HM.out).2
        have HSt : Hid (Dk Y (5 + 3 * 0) w3 p d3 ∧ Al d3 ∧ Lv logN (newN logN) 1 (ls.take 0) 0 d3 id3 ∧ d3.quota = 16777216 ∧ LogAt w3 lg p logN 1 ∧ Below w1.heap.size w1 w3) := Lib.hid ⟨hdk3, hal3, hL3, hnr3.quota, hlog, HB3.out⟩
        have HLY := Lib.hid hlY
        clear hs3 hop hXY hdk3 hlY hlg hlog hsf hal3 hL3 hnr3 HB3
        go_wp2_with fail
        go_loopw [12] (fun vi wr => ∃ i : Nat, i ≤ n ∧ vi = .int .i64 i ∧ ∃ d, Hid (Dk Y (5 + 3 * i) wr p d ∧ Al d ∧ Lv logN (newN logN) 1 (ls.take i) 0 d id3 ∧ d.quota = 16777216 ∧ LogAt wr lg p logN 1 ∧ Below w1.heap.size w1 wr)) (fun vi _ => n - (intOf vi).toNat)
        case atStart => exact ⟨0, Nat.zero_le _, rfl, d3, HSt⟩
        case round =>
          obtain ⟨i, hi, rfl, d, HR⟩ := hrel
          clear HSt
          by_cases hlt : i < n
          · obtain ⟨r, hr⟩ : ∃ r, ls[i]? = some r := ⟨ls[i]'(by rw [← HN.out]; exact hlt), List.getElem?_eq_getElem _⟩
            obtain ⟨b, o, ra, rc, rfl, hb, hc, hrow⟩ := HAT.out i r hr
            have hcw := (HR.out.2.2.2.2.2.cell (p := ⟨b, o + i, none⟩) hb).trans hc
            obtain ⟨rn, hrn⟩ : ∃ x, r.length = x := ⟨_, rfl⟩
            have hr5 : rn ≤ 500 := by rw [← hrn]; exact HL.out.2 r (List.mem_of_getElem? hr)
            have HRN := Lib.hid hrn
            have HRR := Lib.hid hr
            rw [hrn] at hcw hrow
            have hap := append_any HR.out.1 (by omega) HR.out.2.2.2.2.1 (by decide) (bq_of_row (hrow.below HR.out.2.2.2.2.2)) (by omega)
            clear hr hrn hrow hc
            go_wp2_with fail
            refine hap.mono ?_
            rintro e w4 ⟨m4, d4, rfl, hs4, hdk4, hq4⟩
            clear hap hcw
            have hbl := HR.out.2.2.1.part.bytes
            have hsz : ((d.files id3).bytes).length + (frame r).length ≤ 65536 := by
              rw [hbl, body_length, frame_length, HRN.out]
              have h1 := light_size (rs := ls.take i) fun x hx => HL.out.2 x (List.mem_of_mem_take hx)
              rw [List.length_take] at h1
              omega
            obtain ⟨rfl, hal4⟩ := al_append HR.out.2.1 right_log HR.out.2.2.1.now (by omega) hsz (by rw [HR.out.2.2.2.1]; omega) hq4
            rcases lv_append HR.out.2.2.1 (by rw [HRN.out]; omega) hq4 with ⟨_, hL4⟩ | ⟨h, _⟩
            · have hquo : d4.quota = 16777216 := (deed_nr hq4 app_nr).quota.trans HR.out.2.2.2.1
              have htk : ls.take i ++ [r] = ls.take (i + 1) := by
                obtain ⟨h1, h2⟩ := List.getElem?_eq_some_iff.1 HRR.out
                rw [List.take_succ_eq_append_getElem h1, h2]
              rw [htk] at hL4
              have hb4 := same_below hs4 HR.out.2.2.2.2.2.size HY.out HR.out.2.2.2.2.2 rfl
              have HD := Lib.hid (And.intro hdk4 (And.intro hal4 (And.intro hL4 (And.intro hquo (And.intro (HR.out.2.2.2.2.1.same hs4 HLY.out) hb4)))))
              clear hs4 hdk4 hq4 hbl hsz hal4 hL4 hquo htk hb4
              go_wp2
              go_roundw
              case rel => exact ⟨i + 1, by omega, by go_num, d4, HD⟩
              case measure => simp [intOf]; omega
            · exact absurd rfl h
          · obtain rfl : i = n := by omega
            obtain ⟨C, hmk⟩ := made_long
            have HMK := Lib.hid hmk
            clear hmk
            have hmk := HMK.out
            obtain ⟨WA, hWA⟩ : ∃ W, wr.alloc (.cells C 5) = W := ⟨_, rfl⟩
            obtain ⟨WB, hWB⟩ : ∃ W, WA.alloc (.cells #[.slice (some ⟨wr.heap.size, 0, none⟩) 4097 4097] 31) = W := ⟨_, rfl⟩
            have hzA : WA.heap.size = wr.heap.size + 1 := by rw [← hWA, World.size_alloc]
            have hbB : Below wr.heap.size wr WB := by rw [← hWB, ← hWA]; exact (below_alloc wr _).alloc (by simp) _
            have hgB : WB.heap[wr.heap.size + 1]? = some (.cells #[.slice (some ⟨wr.heap.size, 0, none⟩) 4097 4097] 31 (0, 0)) := by rw [← hWB, ← hzA]; exact heap_alloc_new _ _
            have hownB : WB.ownsRow wr.heap.size 31 1 (.slice (some ⟨wr.heap.size + 1, 0, none⟩) 1 1) 1 [.slice (some ⟨wr.heap.size, 0, none⟩) 4097 4097] :=
              ⟨rfl, .inr ⟨_, _, _, rfl, Nat.le_succ _, hgB, Nat.le_refl _, by unfold maxLen; omega, rfl, rfl⟩⟩
            rcases rows_values HM2.out with ⟨rfl, rfl⟩ | ⟨ad, news, rfl, hnl, hnc, hno⟩
            · obtain rfl : c2 = 0 := hnil rfl
              rw [← hWB, ← hWA] at hownB hbB
              have HO := Lib.hid hownB
              have HWB := Lib.hid hbB
              clear hWA hWB hzA hbB hgB hownB
              obtain ⟨i0, hi0, hz0, hz1, hz2⟩ := info_parts infoRow
              have HI := Lib.hid hi0
              clear hi0 hz0 hz1 hz2
              go_wp2_with (at_builtin; refine wpList_append_own_none rfl _ _ 28 rfl wr.heap.size 31 i0 1 Tryz.underlying28 HI.out _ 1 _ rfl HO.out rfl ?_; obtain ⟨g4, e4, hg4l, hc4⟩ := elem0_of HO.out (by omega); cases e4; have hb4 := HWB.out)
              have HB4 := Lib.hid hb4
              have hrf := rewrite_first (HR.out.2.2.2.2.1.below hb4) (by omega) (by omega) hg4l hc4 (by omega) (n := 1) (c := 1)
              clear hg4l hc4 hb4
              go_wp2_with fail
              refine hrf.mono ?_
              rintro e w5 ⟨rfl, hb5⟩
              clear hrf
              have HB5 := Lib.hid (HB4.out.trans (hb5.mono HB4.out.size))
              clear hmk
              have hmk2 := HMK.out w5
              have hal2 := append_long (w := w5.alloc (.cells C 5)) (lv := some ⟨lg, 0, none⟩) (a := some ⟨w5.heap.size, 0, none⟩) (n := 4097) (c := 4097) (by omega)
              clear hb5
              go_wp2_with fail
              refine hal2.mono ?_
              rintro e w6 ⟨rfl, hw6⟩
              clear hal2 hmk2
              have hb6 : Below wr.heap.size wr w6 := by rw [← hw6]; exact HB5.out.alloc HB5.out.size _
              have HB6 := Lib.hid hb6
              have hb16 := HR.out.2.2.2.2.2.trans (hb6.mono HR.out.2.2.2.2.2.size)
              have HB16 := Lib.hid hb16
              have hrw := rewrite_any (HR.out.1.keep hb6) (by omega) (HR.out.2.2.2.2.1.below hb6) (by decide) (by omega) (Mat.below HM2.out hb16) (shorts_of_light HL2.out)
              clear hw6 hb6 hb16
              go_wp2_with fail
              refine hrw.mono ?_
              rintro e w7 ⟨m7, d7, rfl, hs7, hdk7, hq7⟩
              clear hrw
              have hbl : (body 1 ms).length ≤ 16000 := by
                rw [body_length]
                have h1 := light_size HL2.out.2
                have h2 := HL2.out.1
                omega
              obtain ⟨rfl, hal7, hch7⟩ := rew_ok HR.out.2.1 HR.out.2.2.1 (shorts_of_light HL2.out) (by decide) log_ne right_log right_spare (by omega) (by omega) (by rw [HR.out.2.2.2.1]; omega) hq7
              rcases lv_rewrite HR.out.2.2.1 (shorts_of_light HL2.out) (by decide) log_ne hq7 with ⟨_, i7, hL7⟩ | ⟨h, _⟩
              rotate_left
              · exact absurd rfl h
              have hqq7 : d7.quota = 16777216 := (rewT_nr hq7).quota.trans HR.out.2.2.2.1
              have hb7 := same_below hs7 HB16.out.size HY.out HB16.out rfl
              have HB7 := Lib.hid hb7
              have hcd := (hb7.cell (p := ⟨w.heap.size, 0, none⟩) hkb).trans c0
              have hct := (hb7.cell (p := ⟨w.heap.size, 1, none⟩) hkb).trans c1
              have hT7 : TRow w7 (.slice ta tl tc) ts := HT.out.same (Y := fun _ => True) (Same.of_below hb7) (fun _ _ => trivial)
              have hre := restart_ok hdk7 (by omega) dir hT7 (fun x hx => HY.out x (Nat.lt_trans (HTlt.out x hx) hkb)) (by have := HTL.out; omega)
              have H7 := Lib.hid (And.intro (hL7.my (shorts_of_light HL2.out)) hqq7)
              clear hs7 hdk7 hq7 hbl hal7 hch7 hL7 hqq7 hb7 hT7
              go_wp2_with fail
              refine hre.mono ?_
              rintro e w8 ⟨⟨x8, rfl⟩, hs8, ns, ⟨_, _, hnl⟩, hdk8⟩
              clear hre
              have hF := H7.out.1.restart dir.toNat ts ns
              obtain ⟨_, hr2, _⟩ := lostAll_rest (ts := ts) ns 0 (back d7 dir.toNat)
              have hq8 : (lostAll ts 0 ns (back d7 dir.toNat)).quota = 16777216 := by rw [hr2]; exact H7.out.2
              generalize lostAll ts 0 ns (back d7 dir.toNat) = d8 at *
              have HB8 := Lib.hid (same_below hs8 HB7.out.size HY.out HB7.out rfl)
              have hopn := open_any hdk8 (by omega) (nm := logN) (by decide) 1
              rw [show mk logN = (⟨#[108, 111, 103]⟩ : ByteArray) from rfl, show (((1 : UInt8).toNat : Nat) : Int) = 1 from rfl] at hopn
              have H8 := Lib.hid (And.intro hF hq8)
              clear hs8 hdk8 hF hq8 hr2 hnl hcd hct
              go_wp2_with fail
              refine hopn.mono ?_
              rintro e w9 ⟨m9, d9, r9, V, hs9, hop9, hYV, hdk9, hret9⟩
              clear hopn
              obtain ⟨ho9, hrec⟩ := fnd_recs H8.out.1
              obtain ⟨rfl, hr9, _⟩ := open_runs H8.out.1.rdy log_ne spare_ne right_log right_spare ⟨by omega, by rw [H8.out.2]; omega⟩ ho9 hop9
              have hgot : r9 = ms := by
                rw [hr9]
                rcases hrec with ⟨t, h1, h2, h3⟩ | h3
                · rw [h3, Nat.le_antisymm h2 h1, List.take_length]
                · exact h3
              subst hgot
              rcases hret9 with ⟨h, _⟩ | ⟨_, l9, u9, rfl, _, _, _, hsf9⟩
              · exact absurd rfl h
              obtain ⟨ga, gc, rfl, _⟩ := hsf9.mat
              have hb9 := same_below hs9 HB8.out.size HY.out HB8.out rfl
              have hsm := same_c hsf9.mat (Mat.below HM2.out hb9) (by have := HL2.out.1; omega)
              rw [show decide (r9 = r9) = true from decide_eq_true rfl] at hsm
              have HB9 := Lib.hid (HB1.out.trans (hb9.mono HB1.out.size))
              clear hs9 hop9 hYV hdk9 hsf9 hr9 ho9 hrec hb9
              generalize hrl : r9.length = rl at *
              have HRL := Lib.hid hrl
              clear hrl
              go_wp2_with fail
              refine hsm.mono ?_
              rintro e w10 ⟨rfl, hb10⟩
              clear hsm
              have HB10 := Lib.hid (HB9.out.trans (hb10.mono HB9.out.size))
              have haw := awake5_c w10
              clear hb10
              go_wp2_with fail
              refine haw.mono ?_
              rintro e w11 ⟨rfl, hb11⟩
              clear haw
              go_wp2
              go_ret
              exact ⟨rfl, HB10.out.trans (hb11.mono HB10.out.size)⟩
            · have hnc2 : ∀ (j : Nat) (u : Value), news[j]? = some u → WB.cell? (ad.add j) = some u := fun j u hj => by
                have h1 := hnc j u hj
                have h2 := Pk.lt_of_cell h1
                have hb := HR.out.2.2.2.2.2.trans (hbB.mono HR.out.2.2.2.2.2.size)
                exact (hb.cell h2).trans h1
              rw [← hWB, ← hWA] at hownB hnc2 hbB
              have HO := Lib.hid (And.intro hownB (And.intro hnl (And.intro hnc2 hno)))
              have HWB := Lib.hid hbB
              clear hWA hWB hzA hbB hgB hownB hnl hnc hno hnc2
              obtain ⟨i0, hi0, hz0, hz1, hz2⟩ := info_parts infoRow
              have HI := Lib.hid (And.intro hi0 (And.intro hz0 (And.intro hz1 hz2)))
              clear hi0 hz0 hz1 hz2
              go_wp2_with (at_builtin; refine wpList_append_own _ rfl _ _ 28 rfl wr.heap.size 31 i0 (.slice none 0 0) 1 24 Tryz.underlying28 HI.out.1 HI.out.2.1 HI.out.2.2.1 HI.out.2.2.2 rfl (by decide) _ 1 _ rfl HO.out.1 ad m c2 news rfl (by rw [HO.out.2.1, Nat.mul_one]) HO.out.2.2.1 HO.out.2.2.2 (by unfold maxLen; omega) (by omega) HWB.out.size ?_; intro v4 w4 hown4 hg4 hv4; obtain ⟨a4, c4, rfl⟩ := row_len hown4; obtain ⟨g4, rfl, hg4l, hc4⟩ := elem0_of hown4 (by omega); have hb4 := HWB.out.trans (own_grown HO.out.1 hg4 HWB.out.size); clear hown4 hg4 hv4)
              have HB4 := Lib.hid hb4
              have hrf := rewrite_first (HR.out.2.2.2.2.1.below hb4) (by omega) (by omega) hg4l hc4 (by omega) (n := 1 + m) (c := c4)
              clear hg4l hc4 hb4
              go_wp2_with fail
              refine hrf.mono ?_
              rintro e w5 ⟨rfl, hb5⟩
              clear hrf
              have HB5 := Lib.hid (HB4.out.trans (hb5.mono HB4.out.size))
              clear hmk
              have hmk2 := HMK.out w5
              have hal2 := append_long (w := w5.alloc (.cells C 5)) (lv := some ⟨lg, 0, none⟩) (a := some ⟨w5.heap.size, 0, none⟩) (n := 4097) (c := 4097) (by omega)
              clear hb5
              go_wp2_with fail
              refine hal2.mono ?_
              rintro e w6 ⟨rfl, hw6⟩
              clear hal2 hmk2
              have hb6 : Below wr.heap.size wr w6 := by rw [← hw6]; exact HB5.out.alloc HB5.out.size _
              have HB6 := Lib.hid hb6
              have hb16 := HR.out.2.2.2.2.2.trans (hb6.mono HR.out.2.2.2.2.2.size)
              have HB16 := Lib.hid hb16
              have hrw := rewrite_any (HR.out.1.keep hb6) (by omega) (HR.out.2.2.2.2.1.below hb6) (by decide) (by omega) (Mat.below HM2.out hb16) (shorts_of_light HL2.out)
              clear hw6 hb6 hb16
              go_wp2_with fail
              refine hrw.mono ?_
              rintro e w7 ⟨m7, d7, rfl, hs7, hdk7, hq7⟩
              clear hrw
              have hbl : (body 1 ms).length ≤ 16000 := by
                rw [body_length]
                have h1 := light_size HL2.out.2
                have h2 := HL2.out.1
                omega
              obtain ⟨rfl, hal7, hch7⟩ := rew_ok HR.out.2.1 HR.out.2.2.1 (shorts_of_light HL2.out) (by decide) log_ne right_log right_spare (by omega) (by omega) (by rw [HR.out.2.2.2.1]; omega) hq7
              rcases lv_rewrite HR.out.2.2.1 (shorts_of_light HL2.out) (by decide) log_ne hq7 with ⟨_, i7, hL7⟩ | ⟨h, _⟩
              rotate_left
              · exact absurd rfl h
              have hqq7 : d7.quota = 16777216 := (rewT_nr hq7).quota.trans HR.out.2.2.2.1
              have hb7 := same_below hs7 HB16.out.size HY.out HB16.out rfl
              have HB7 := Lib.hid hb7
              have hcd := (hb7.cell (p := ⟨w.heap.size, 0, none⟩) hkb).trans c0
              have hct := (hb7.cell (p := ⟨w.heap.size, 1, none⟩) hkb).trans c1
              have hT7 : TRow w7 (.slice ta tl tc) ts := HT.out.same (Y := fun _ => True) (Same.of_below hb7) (fun _ _ => trivial)
              have hre := restart_ok hdk7 (by omega) dir hT7 (fun x hx => HY.out x (Nat.lt_trans (HTlt.out x hx) hkb)) (by have := HTL.out; omega)
              have H7 := Lib.hid (And.intro (hL7.my (shorts_of_light HL2.out)) hqq7)
              clear hs7 hdk7 hq7 hbl hal7 hch7 hL7 hqq7 hb7 hT7
              go_wp2_with fail
              refine hre.mono ?_
              rintro e w8 ⟨⟨x8, rfl⟩, hs8, ns, ⟨_, _, hnl⟩, hdk8⟩
              clear hre
              have hF := H7.out.1.restart dir.toNat ts ns
              obtain ⟨_, hr2, _⟩ := lostAll_rest (ts := ts) ns 0 (back d7 dir.toNat)
              have hq8 : (lostAll ts 0 ns (back d7 dir.toNat)).quota = 16777216 := by rw [hr2]; exact H7.out.2
              generalize lostAll ts 0 ns (back d7 dir.toNat) = d8 at *
              have HB8 := Lib.hid (same_below hs8 HB7.out.size HY.out HB7.out rfl)
              have hopn := open_any hdk8 (by omega) (nm := logN) (by decide) 1
              rw [show mk logN = (⟨#[108, 111, 103]⟩ : ByteArray) from rfl, show (((1 : UInt8).toNat : Nat) : Int) = 1 from rfl] at hopn
              have H8 := Lib.hid (And.intro hF hq8)
              clear hs8 hdk8 hF hq8 hr2 hnl hcd hct
              go_wp2_with fail
              refine hopn.mono ?_
              rintro e w9 ⟨m9, d9, r9, V, hs9, hop9, hYV, hdk9, hret9⟩
              clear hopn
              obtain ⟨ho9, hrec⟩ := fnd_recs H8.out.1
              obtain ⟨rfl, hr9, _⟩ := open_runs H8.out.1.rdy log_ne spare_ne right_log right_spare ⟨by omega, by rw [H8.out.2]; omega⟩ ho9 hop9
              have hgot : r9 = ms := by
                rw [hr9]
                rcases hrec with ⟨t, h1, h2, h3⟩ | h3
                · rw [h3, Nat.le_antisymm h2 h1, List.take_length]
                · exact h3
              subst hgot
              rcases hret9 with ⟨h, _⟩ | ⟨_, l9, u9, rfl, _, _, _, hsf9⟩
              · exact absurd rfl h
              obtain ⟨ga, gc, rfl, _⟩ := hsf9.mat
              have hb9 := same_below hs9 HB8.out.size HY.out HB8.out rfl
              have hsm := same_c hsf9.mat (Mat.below HM2.out hb9) (by have := HL2.out.1; omega)
              rw [show decide (r9 = r9) = true from decide_eq_true rfl] at hsm
              have HB9 := Lib.hid (HB1.out.trans (hb9.mono HB1.out.size))
              clear hs9 hop9 hYV hdk9 hsf9 hr9 ho9 hrec hb9
              generalize hrl : r9.length = rl at *
              have HRL := Lib.hid hrl
              clear hrl
              go_wp2_with fail
              refine hsm.mono ?_
              rintro e w10 ⟨rfl, hb10⟩
              clear hsm
              have HB10 := Lib.hid (HB9.out.trans (hb10.mono HB9.out.size))
              have haw := awake5_c w10
              clear hb10
              go_wp2_with fail
              refine haw.mono ?_
              rintro e w11 ⟨rfl, hb11⟩
              clear haw
              go_wp2
              go_ret
              exact ⟨rfl, HB10.out.trans (hb11.mono HB10.out.size)⟩
      · go_wp2
        go_ret
        exact ⟨rfl, HB1.out⟩
    · rw [show decide (Light ls) = true from decide_eq_true hL] at hli
      rw [show decide (Light ms) = false from decide_eq_false hL2] at hli2
      clear hL hL2
      go_enter Tryz.func4, Tryz.ntmps4
      go_wp2_with fail
      rw [HW1.out]
      refine hli.mono ?_
      rintro e w2 ⟨rfl, rfl⟩
      clear hli
      go_wp2_with fail
      refine hli2.mono ?_
      rintro e w2 ⟨rfl, rfl⟩
      clear hli2
      go_wp2
      go_ret
      exact ⟨rfl, HB1.out⟩
  · rw [show decide (Light ls) = false from decide_eq_false hL] at hli
    clear hL hli2
    go_enter Tryz.func4, Tryz.ntmps4
    go_wp2_with fail
    rw [HW1.out]
    refine hli.mono ?_
    rintro e w2 ⟨rfl, rfl⟩
    clear hli
    go_wp2
    go_ret
    exact ⟨rfl, HB1.out⟩
end Go.Proofs.YtfmelhcpccghdaaGreat.Rl
