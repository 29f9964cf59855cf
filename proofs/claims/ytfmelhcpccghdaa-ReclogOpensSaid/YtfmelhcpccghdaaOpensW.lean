/-
  THE LAW ReclogOpens, WALKED.
-/
import Derived.Test.YtfmelhcpccghdaaOpenNil
import Derived.Test.YtfmelhcpccghdaaRlScan3
namespace Go.Proofs.Ytfmelhcpccghdaa.Rl
open Go.RowKit Go.Maps

variable {X : Nat → Prop} {K : Nat} {w : World} {p lp : Nat} {d : Ds} {nm sp : List UInt8} {k : UInt8}

/-- a disk that is up, with these two names alone -/
structure Rd (nm sp : List UInt8) (j : Nat) (d : Ds) : Prop where
  up : d.up = true
  left : d.left = -1
  eq : d.now = turns d.sure d.changes
  two : ∀ n, Two nm sp (lead d n)
  few : d.changes.length ≤ j
  quota : d.quota = 16777216
theorem Rd.rdy {j : Nat} (h : Rd nm sp j d) (hj : j ≤ 2) : Rdy nm sp d := ⟨h.up, h.left, h.eq, h.two, by have := h.few; omega⟩
theorem rd_new (nm sp : List UInt8) : Rd nm sp 0 (newD 16777216) := ⟨rfl, rfl, rfl, (rdy_new 16777216 nm sp).two, Nat.le_refl _, rfl⟩
theorem Rd.write {j i : Nat} {l bs : List UInt8} (h : Rd nm sp j d) (hl : l = nm ∨ l = sp) : Rd nm sp (j + 1) (written (spent d) l bs i) := by
  refine ⟨h.up, spent_left h.left, ?_, fun m => ?_, ?_, h.quota⟩
  · show turn1 d.now ⟨[], l, some i⟩ = turns d.sure (d.changes ++ [⟨[], l, some i⟩])
    rw [turns_snoc, h.eq]
  · rcases lead_changed (setF (ticked (spent d)) i ⟨bs, 0, (spent d).clock⟩) ⟨[], l, some i⟩ m with e | e
    · rw [show lead (written (spent d) l bs i) m = _ from e]; exact h.two m
    · rw [show lead (written (spent d) l bs i) m = _ from e]
      refine Two.turn1 ?_ (by rcases hl with rfl | rfl; exact .inl rfl; exact .inr (.inl rfl))
      have := h.two d.changes.length
      rw [lead_all] at this
      exact this
  · show (d.changes ++ [(⟨[], l, some i⟩ : Ch)]).length ≤ j + 1
    have := h.few
    simp; omega
theorem bytes_written {i : Nat} {l bs x : List UInt8} (hi : ¬ Ref (spent d) i) (hx : x ≠ []) : bytesOf (written (spent d) l bs i) x = if x = l then bs else bytesOf d x := by
  have hn : (written (spent d) l bs i).now = turn1 d.now ⟨[], l, some i⟩ := rfl
  have hf : (written (spent d) l bs i).files = upd d.files i ⟨bs, 0, d.clock⟩ := rfl
  unfold bytesOf
  rw [hn, hf]
  by_cases e : x = l
  · rw [if_pos e, e, turn1_dst (f := d.now) (c := ⟨[], l, some i⟩) rfl]
    show (upd d.files i ⟨bs, 0, d.clock⟩ i).bytes = bs
    rw [upd_same]
  · rw [if_neg e, turn1_off (f := d.now) (c := ⟨[], l, some i⟩) hx e]
    cases hj : d.now x with
    | none => rfl
    | some y =>
      show (upd d.files i ⟨bs, 0, d.clock⟩ y).bytes = (d.files y).bytes
      rw [upd_other _ _ (fun e => hi (by rw [← e]; exact ref_now (d := spent d) hj))]

theorem recs_le (k : UInt8) (b : List UInt8) (h : b.length ≤ 65536) : (scanRecs k b).length ≤ 1000000 := by
  unfold scanRecs
  split
  · unfold gotOf
    split
    · simp
    · obtain ⟨t, ht, _⟩ := recs_of (b.drop 8)
      have h1 := rows_le (recs (b.drop 8))
      have h2 := congrArg List.length ht
      rw [List.length_append, List.length_drop] at h2
      omega
  · simp
theorem id' {P : Prop} (h : P) : P := h

set_option maxRecDepth 100000 in
set_option maxHeartbeats 8000000 in
theorem opens_c {a : Option Addr} {n c : Nat} {l : List UInt8} (k : UInt8) (there spare : Bool) (hB : Bt w a n c l) :
    Calls Try.prog 3 #[.agg #[.slice a n c, .int .u8 k.toNat, .bool there, .bool spare]] w fun e w' => e = .returned (.bool true) ∧ Below w.heap.size w w' := by
  obtain ⟨w1, hw1⟩ : ∃ W, w.alloc (.cells #[.slice a n c, .int .u8 k.toNat, .bool there, .bool spare] 24) = W := ⟨_, rfl⟩
  have hb1 : Below w.heap.size w w1 := by rw [← hw1]; exact below_alloc _ _
  have c0 : w1.cell? ⟨w.heap.size, 0, none⟩ = some (.slice a n c) := by rw [← hw1]; exact cell_at_new _ _ _ _ _ rfl
  have c1 : w1.cell? ⟨w.heap.size, 1, none⟩ = some (.int .u8 k.toNat) := by rw [← hw1]; exact cell_at_new _ _ _ _ _ rfl
  have c2 : w1.cell? ⟨w.heap.size, 2, none⟩ = some (.bool there) := by rw [← hw1]; exact cell_at_new _ _ _ _ _ rfl
  have c3 : w1.cell? ⟨w.heap.size, 3, none⟩ = some (.bool spare) := by rw [← hw1]; exact cell_at_new _ _ _ _ _ rfl
  have HB1 := Lib.hid hb1
  have HB0 := Lib.hid hB
  clear hB hb1
  go_enter Try.func3, Try.ntmps3
  go_wp2_with fail
  go_quiet (fail)
  obtain ⟨wq, hwq⟩ : ∃ W, w1.drewN nq = W := ⟨_, rfl⟩
  have hbq : Below w.heap.size w wq := by rw [← hwq]; exact ⟨HB1.out.os, HB1.out.tape, HB1.out.output, HB1.out.size, HB1.out.block⟩
  rw [hwq]
  have HBQ := Lib.hid hbq
  clear hbq hwq c0 c1 c2 c3 hw1
  by_cases hn : n ≤ 5000
  · have hnw := new_c 16777216 (by omega) wq
    go_wp2_with fail
    refine hnw.mono ?_
    rintro e w2 ⟨p, rfl, hp, hb2, hdk⟩
    clear hnw
    have HB2 := Lib.hid (HBQ.out.trans (hb2.mono HBQ.out.size))
    obtain ⟨X, hX⟩ : ∃ X : Nat → Prop, (fun k => k < wq.heap.size) = X := ⟨_, rfl⟩
    rw [hX] at hdk
    have HX : Hid (∀ x, x < w.heap.size → X x) := Lib.hid fun x hx => by rw [← hX]; exact Nat.lt_of_lt_of_le hx HBQ.out.size
    have HDK := Lib.hid hdk
    have hvX : ∀ x, Value.rowBlock (.slice a n c) = some x → X x := fun x hx => HX.out x (by
      have hl := HB0.out.len
      have := HB0.out.row
      rw [hl] at this hx
      exact this.lt hx)
    have HV := Lib.hid hvX
    have HRD := Lib.hid (rd_new logN (newN logN))
    clear hb2 hdk hvX hX
    cases there <;> cases spare
    · have HBS := HB2
      have HD := Lib.hid (HDK.out.mono (show _ ≤ 6 by omega))
      have HR : Hid (Rd logN (newN logN) 2 (newD 16777216)) := Lib.hid ⟨HRD.out.up, HRD.out.left, HRD.out.eq, HRD.out.two, by have := HRD.out.few; omega, HRD.out.quota⟩
      have HBy : Hid (bytesOf (newD 16777216) logN = []) := Lib.hid rfl
      have HBt : Hid (∀ W, Below w.heap.size w W → Bt W none 0 0 []) := Lib.hid fun W _ => bt_of_row (.inl ⟨rfl, rfl⟩) (Nat.le_refl _)
      have hopn := open_any HD.out (by omega) (nm := logN) (by decide) k
      rw [show mk logN = (⟨#[108, 111, 103]⟩ : ByteArray) from rfl] at hopn
      go_wp2_with fail
      refine hopn.mono ?_
      rintro e w5 ⟨m, d', rs, Y, hs5, hop, hXY, hdk5, hret⟩
      clear hopn
      have hB5 : Below w.heap.size w w5 := same_below hs5 HBS.out.size (fun b hb => HX.out b hb) HBS.out rfl
      have hsc := refScan_c k (HBt.out w5 hB5) (by omega)
      by_cases ho : okHead k ([] : List UInt8)
      · obtain ⟨rfl, hrs, ⟨id, hO⟩, _⟩ := open_runs (HR.out.rdy (by omega)) log_ne spare_ne right_log right_spare ⟨by decide, by rw [HR.out.quota]; decide⟩ (by rw [HBy.out]; exact ho) hop
        rcases hret with ⟨h, _⟩ | ⟨_, lg, u, rfl, hlY, hlg, hlog, hsf⟩
        · exact absurd rfl h
        obtain ⟨ua, uc, rfl, _⟩ := hsf.mat
        have hse : scanErr k ([] : List UInt8) = 0 := by unfold scanErr; rw [if_pos ho]
        rw [HBy.out] at hrs
        have H5 := Lib.hid (And.intro hB5 (And.intro hdk5 (And.intro hO (And.intro hsf (And.intro hrs ho)))))
        have HSE := Lib.hid hse
        clear hs5 hop hXY hdk5 hlY hlg hlog hsf hO hB5 hse ho
        have hrl6 : rs.length ≤ 1000000 := by rw [hrs]; exact recs_le k _ (by simp)
        generalize hrl : rs.length = rl at *
        have HRL := Lib.hid hrl6
        clear hrl hrs hrl6
        go_wp2_with fail
        refine hsc.mono ?_
        rintro e w6 ⟨u2, rfl, hrows2, hb6⟩
        rw [HSE.out]
        clear hsc
        have HB6 := Lib.hid (H5.out.1.trans (hb6.mono H5.out.1.size))
        have HDK6 := Lib.hid (H5.out.2.1.keep hb6)
        have HR6 := Lib.hid hrows2
        have HD6 := Lib.hid hb6
        clear hrows2 hb6
        go_wp2_with fail
        have hst := stat_none HDK6.out (l := newN logN) (by unfold maxLen; decide) H5.out.2.2.1.up H5.out.2.2.1.spare
        rw [show mk (newN logN) = (⟨#[108, 111, 103, 46, 110, 101, 119]⟩ : ByteArray) from rfl] at hst
        refine hst.mono ?_
        rintro e w7 ⟨rfl, hb7⟩
        clear hst
        have hb8 := hb7.alloc hb7.size (.cells #[.int .i64 0, .int .i64 0] 37)
        have hrd := read_some (HDK6.out.keep hb8) (l := logN) (by unfold maxLen; decide) H5.out.2.2.1.up H5.out.2.2.1.now
        rw [show mk logN = (⟨#[108, 111, 103]⟩ : ByteArray) from rfl, H5.out.2.2.1.bytes] at hrd
        have HB8 := Lib.hid hb8
        clear hb7 hb8
        go_wp2_with fail
        refine hrd.mono ?_
        rintro e w9 ⟨u9, rfl, hown9, hb9⟩
        clear hrd
        obtain ⟨a9, c9, rfl⟩ := row_len hown9
        have HC9 := Lib.hid (HB8.out.trans (hb9.mono HB8.out.size))
        have HB9 := Lib.hid (HB6.out.trans (HC9.out.mono HB6.out.size))
        have HN9 := Lib.hid (row_bytes hown9)
        have hhd := refHead_c k w9
        generalize hbl : (body k rs).length = bl at *
        have HBL := Lib.hid hbl
        clear hbl hown9 hb9
        go_wp2_with fail
        refine hhd.mono ?_
        rintro e w10 ⟨a10, c10, rfl, hown10, hb10⟩
        clear hhd
        have HC10 := Lib.hid (HC9.out.trans (hb10.mono HC9.out.size))
        have HB10 := Lib.hid (HB9.out.trans (hb10.mono HB9.out.size))
        have HN10 := Lib.hid (HN9.out.below hb10)
        have HH10 : Hid (BRow w10 (.slice a10 8 c10) (head k)) := Lib.hid (row_bytes hown10)
        clear hown10 hb10
        have hE : scanEnd k ([] : List UInt8) = 0 := (scan_short (okHead_nil k) (by simp)).2.1
        rw [hE]
        have hz := scan_zero hE H5.out.2.2.2.2.2
        have hbk : body k rs = head k := by rw [H5.out.2.2.2.2.1, hz.2, body, all_nil, List.append_nil]
        have HNW : Hid (BRow w10 (.slice a9 bl c9) (head k) ∧ BRow w10 (.slice a10 8 c10) (head k)) := Lib.hid ⟨by have := HN10.out; rw [hbk] at this; exact this, HH10.out⟩
        obtain ⟨L, hL⟩ : ∃ L, head k = L := ⟨_, rfl⟩
        rw [hL] at HNW
        clear hz hbk hE hL
        have hon := open_nil (nm := logN) (by decide) k w10
        rw [show mk logN = (⟨#[108, 111, 103]⟩ : ByteArray) from rfl] at hon
        go_wp2_with fail
        refine hon.mono ?_
        rintro e w11 ⟨rfl, hb11⟩
        clear hon
        have HC11 := Lib.hid (HC10.out.trans (hb11.mono HC10.out.size))
        have hm1 : Mat w11 (.slice ua rl uc) rs := by
          have h65 := Mat.below H5.out.2.2.2.1.mat (HD6.out.trans (HC11.out.mono HD6.out.size))
          exact h65
        have hm2 : Mat w11 u2 (scanRecs k ([] : List UInt8)) := Mat.below HR6.out.mat HC11.out
        obtain ⟨a2, c2, rfl, _⟩ := id' hm2
        have hsm := same_c hm1 hm2 HRL.out
        rw [show decide (rs = scanRecs k ([] : List UInt8)) = true from decide_eq_true H5.out.2.2.2.2.1] at hsm
        have HNL := Lib.hid (HNW.out.1.below hb11)
        have HWL := Lib.hid (HNW.out.2.below hb11)
        have HB11 := Lib.hid (HB10.out.trans (hb11.mono HB10.out.size))
        clear hb11 hm1 hm2
        generalize (scanRecs k ([] : List UInt8)).length = sl at *
        go_wp2_with fail
        refine hsm.mono ?_
        rintro e w12 ⟨rfl, hb12⟩
        clear hsm
        have cx := fun (j : Nat) => conv_b ((HNL.out.below hb12).drewN (w' := w12.drewN j) rfl)
        have cy := fun (j : Nat) => conv_b ((HWL.out.below hb12).drewN (w' := w12.drewN j) rfl)
        have cx0 := conv_b (HNL.out.below hb12)
        have cy0 := conv_b (HWL.out.below hb12)
        have hz2 : ((mk L).toList == (mk L).toList) = true := by simp
        have HB12 := Lib.hid (HB11.out.trans (hb12.mono HB11.out.size))
        clear hb12
        have haw := awake5_c w12
        go_wp2_with fail
        refine haw.mono ?_
        rintro e w13 ⟨rfl, hb13⟩
        clear haw
        go_wp2
        go_ret
        exact ⟨rfl, HB12.out.trans (hb13.mono HB12.out.size)⟩
      · exact absurd (okHead_nil k) ho
    · have hw2 := write_ok HDK.out (by omega) (M := 65536) (Nat.le_refl _) (dk_len HDK.out) (l := newN logN) (by decide) (HB0.out.below HB2.out).row HV.out (by rw [← HB0.out.len]; omega) (by rw [← HB0.out.len, HRD.out.quota]; omega) HRD.out.up (by rw [HRD.out.left]; decide) right_spare
      rw [show mk (newN logN) = (⟨#[108, 111, 103, 46, 110, 101, 119]⟩ : ByteArray) from rfl] at hw2
      go_wp2_with fail
      refine hw2.mono ?_
      rintro e w4 ⟨rfl, hs4, d4, hdk4, i4, hi4, hd4⟩
      clear hw2
      have HBS := Lib.hid (same_below hs4 HB2.out.size (fun b hb => HX.out b hb) HB2.out rfl)
      have HD := Lib.hid (hdk4.mono (show _ ≤ 6 by omega))
      have HR : Hid (Rd logN (newN logN) 2 d4) := Lib.hid (by rw [hd4]; have h := HRD.out.write (bs := l) (i := i4) (.inr rfl); exact ⟨h.up, h.left, h.eq, h.two, by have := h.few; omega, h.quota⟩)
      have HBy : Hid (bytesOf d4 logN = []) := Lib.hid (by rw [hd4, bytes_written hi4 (by decide), if_neg log_ne]; rfl)
      clear hs4 hdk4 hd4 hi4
      have HBt : Hid (∀ W, Below w.heap.size w W → Bt W none 0 0 []) := Lib.hid fun W _ => bt_of_row (.inl ⟨rfl, rfl⟩) (Nat.le_refl _)
      have hopn := open_any HD.out (by omega) (nm := logN) (by decide) k
      rw [show mk logN = (⟨#[108, 111, 103]⟩ : ByteArray) from rfl] at hopn
      go_wp2_with fail
      refine hopn.mono ?_
      rintro e w5 ⟨m, d', rs, Y, hs5, hop, hXY, hdk5, hret⟩
      clear hopn
      have hB5 : Below w.heap.size w w5 := same_below hs5 HBS.out.size (fun b hb => HX.out b hb) HBS.out rfl
      have hsc := refScan_c k (HBt.out w5 hB5) (by omega)
      by_cases ho : okHead k ([] : List UInt8)
      · obtain ⟨rfl, hrs, ⟨id, hO⟩, _⟩ := open_runs (HR.out.rdy (by omega)) log_ne spare_ne right_log right_spare ⟨by decide, by rw [HR.out.quota]; decide⟩ (by rw [HBy.out]; exact ho) hop
        rcases hret with ⟨h, _⟩ | ⟨_, lg, u, rfl, hlY, hlg, hlog, hsf⟩
        · exact absurd rfl h
        obtain ⟨ua, uc, rfl, _⟩ := hsf.mat
        have hse : scanErr k ([] : List UInt8) = 0 := by unfold scanErr; rw [if_pos ho]
        rw [HBy.out] at hrs
        have H5 := Lib.hid (And.intro hB5 (And.intro hdk5 (And.intro hO (And.intro hsf (And.intro hrs ho)))))
        have HSE := Lib.hid hse
        clear hs5 hop hXY hdk5 hlY hlg hlog hsf hO hB5 hse ho
        have hrl6 : rs.length ≤ 1000000 := by rw [hrs]; exact recs_le k _ (by simp)
        generalize hrl : rs.length = rl at *
        have HRL := Lib.hid hrl6
        clear hrl hrs hrl6
        go_wp2_with fail
        refine hsc.mono ?_
        rintro e w6 ⟨u2, rfl, hrows2, hb6⟩
        rw [HSE.out]
        clear hsc
        have HB6 := Lib.hid (H5.out.1.trans (hb6.mono H5.out.1.size))
        have HDK6 := Lib.hid (H5.out.2.1.keep hb6)
        have HR6 := Lib.hid hrows2
        have HD6 := Lib.hid hb6
        clear hrows2 hb6
        go_wp2_with fail
        have hst := stat_none HDK6.out (l := newN logN) (by unfold maxLen; decide) H5.out.2.2.1.up H5.out.2.2.1.spare
        rw [show mk (newN logN) = (⟨#[108, 111, 103, 46, 110, 101, 119]⟩ : ByteArray) from rfl] at hst
        refine hst.mono ?_
        rintro e w7 ⟨rfl, hb7⟩
        clear hst
        have hb8 := hb7.alloc hb7.size (.cells #[.int .i64 0, .int .i64 0] 37)
        have hrd := read_some (HDK6.out.keep hb8) (l := logN) (by unfold maxLen; decide) H5.out.2.2.1.up H5.out.2.2.1.now
        rw [show mk logN = (⟨#[108, 111, 103]⟩ : ByteArray) from rfl, H5.out.2.2.1.bytes] at hrd
        have HB8 := Lib.hid hb8
        clear hb7 hb8
        go_wp2_with fail
        refine hrd.mono ?_
        rintro e w9 ⟨u9, rfl, hown9, hb9⟩
        clear hrd
        obtain ⟨a9, c9, rfl⟩ := row_len hown9
        have HC9 := Lib.hid (HB8.out.trans (hb9.mono HB8.out.size))
        have HB9 := Lib.hid (HB6.out.trans (HC9.out.mono HB6.out.size))
        have HN9 := Lib.hid (row_bytes hown9)
        have hhd := refHead_c k w9
        generalize hbl : (body k rs).length = bl at *
        have HBL := Lib.hid hbl
        clear hbl hown9 hb9
        go_wp2_with fail
        refine hhd.mono ?_
        rintro e w10 ⟨a10, c10, rfl, hown10, hb10⟩
        clear hhd
        have HC10 := Lib.hid (HC9.out.trans (hb10.mono HC9.out.size))
        have HB10 := Lib.hid (HB9.out.trans (hb10.mono HB9.out.size))
        have HN10 := Lib.hid (HN9.out.below hb10)
        have HH10 : Hid (BRow w10 (.slice a10 8 c10) (head k)) := Lib.hid (row_bytes hown10)
        clear hown10 hb10
        have hE : scanEnd k ([] : List UInt8) = 0 := (scan_short (okHead_nil k) (by simp)).2.1
        rw [hE]
        have hz := scan_zero hE H5.out.2.2.2.2.2
        have hbk : body k rs = head k := by rw [H5.out.2.2.2.2.1, hz.2, body, all_nil, List.append_nil]
        have HNW : Hid (BRow w10 (.slice a9 bl c9) (head k) ∧ BRow w10 (.slice a10 8 c10) (head k)) := Lib.hid ⟨by have := HN10.out; rw [hbk] at this; exact this, HH10.out⟩
        obtain ⟨L, hL⟩ : ∃ L, head k = L := ⟨_, rfl⟩
        rw [hL] at HNW
        clear hz hbk hE hL
        have hon := open_nil (nm := logN) (by decide) k w10
        rw [show mk logN = (⟨#[108, 111, 103]⟩ : ByteArray) from rfl] at hon
        go_wp2_with fail
        refine hon.mono ?_
        rintro e w11 ⟨rfl, hb11⟩
        clear hon
        have HC11 := Lib.hid (HC10.out.trans (hb11.mono HC10.out.size))
        have hm1 : Mat w11 (.slice ua rl uc) rs := by
          have h65 := Mat.below H5.out.2.2.2.1.mat (HD6.out.trans (HC11.out.mono HD6.out.size))
          exact h65
        have hm2 : Mat w11 u2 (scanRecs k ([] : List UInt8)) := Mat.below HR6.out.mat HC11.out
        obtain ⟨a2, c2, rfl, _⟩ := id' hm2
        have hsm := same_c hm1 hm2 HRL.out
        rw [show decide (rs = scanRecs k ([] : List UInt8)) = true from decide_eq_true H5.out.2.2.2.2.1] at hsm
        have HNL := Lib.hid (HNW.out.1.below hb11)
        have HWL := Lib.hid (HNW.out.2.below hb11)
        have HB11 := Lib.hid (HB10.out.trans (hb11.mono HB10.out.size))
        clear hb11 hm1 hm2
        generalize (scanRecs k ([] : List UInt8)).length = sl at *
        go_wp2_with fail
        refine hsm.mono ?_
        rintro e w12 ⟨rfl, hb12⟩
        clear hsm
        have cx := fun (j : Nat) => conv_b ((HNL.out.below hb12).drewN (w' := w12.drewN j) rfl)
        have cy := fun (j : Nat) => conv_b ((HWL.out.below hb12).drewN (w' := w12.drewN j) rfl)
        have cx0 := conv_b (HNL.out.below hb12)
        have cy0 := conv_b (HWL.out.below hb12)
        have hz2 : ((mk L).toList == (mk L).toList) = true := by simp
        have HB12 := Lib.hid (HB11.out.trans (hb12.mono HB11.out.size))
        clear hb12
        have haw := awake5_c w12
        go_wp2_with fail
        refine haw.mono ?_
        rintro e w13 ⟨rfl, hb13⟩
        clear haw
        go_wp2
        go_ret
        exact ⟨rfl, HB12.out.trans (hb13.mono HB12.out.size)⟩
      · exact absurd (okHead_nil k) ho
    · have hw1 := write_ok HDK.out (by omega) (M := 65536) (Nat.le_refl _) (dk_len HDK.out) (l := logN) (by decide) (HB0.out.below HB2.out).row HV.out (by rw [← HB0.out.len]; omega) (by rw [← HB0.out.len]; show _ ≤ 16777216; omega) rfl (by decide) right_log
      rw [show mk logN = (⟨#[108, 111, 103]⟩ : ByteArray) from rfl] at hw1
      go_wp2_with fail
      refine hw1.mono ?_
      rintro e w3 ⟨rfl, hs3, d3, hdk3, i3, hi3, hd3⟩
      clear hw1
      have HB3 := Lib.hid (same_below hs3 HB2.out.size (fun b hb => HX.out b hb) HB2.out rfl)
      have HDK3 := Lib.hid hdk3
      have HR3 : Hid (Rd logN (newN logN) 1 d3) := Lib.hid (by rw [hd3]; exact HRD.out.write (.inl rfl))
      have HY3 : Hid (bytesOf d3 logN = l) := Lib.hid (by rw [hd3, bytes_written hi3 (by decide), if_pos rfl])
      clear hs3 hdk3 hd3 hi3
      have HBS := HB3
      have HD := Lib.hid (HDK3.out.mono (show _ ≤ 6 by omega))
      have HR : Hid (Rd logN (newN logN) 2 d3) := Lib.hid ⟨HR3.out.up, HR3.out.left, HR3.out.eq, HR3.out.two, by have := HR3.out.few; omega, HR3.out.quota⟩
      have HBy := HY3
      have HBt : Hid (∀ W, Below w.heap.size w W → Bt W a n c l) := Lib.hid fun W hW => HB0.out.below hW
      have hopn := open_any HD.out (by omega) (nm := logN) (by decide) k
      rw [show mk logN = (⟨#[108, 111, 103]⟩ : ByteArray) from rfl] at hopn
      go_wp2_with fail
      refine hopn.mono ?_
      rintro e w5 ⟨m, d', rs, Y, hs5, hop, hXY, hdk5, hret⟩
      clear hopn
      have hB5 : Below w.heap.size w w5 := same_below hs5 HBS.out.size (fun b hb => HX.out b hb) HBS.out rfl
      have hsc := refScan_c k (HBt.out w5 hB5) (by omega)
      by_cases ho : okHead k l
      · obtain ⟨rfl, hrs, ⟨id, hO⟩, _⟩ := open_runs (HR.out.rdy (by omega)) log_ne spare_ne right_log right_spare ⟨by decide, by rw [HR.out.quota]; decide⟩ (by rw [HBy.out]; exact ho) hop
        rcases hret with ⟨h, _⟩ | ⟨_, lg, u, rfl, hlY, hlg, hlog, hsf⟩
        · exact absurd rfl h
        obtain ⟨ua, uc, rfl, _⟩ := hsf.mat
        have hse : scanErr k l = 0 := by unfold scanErr; rw [if_pos ho]
        rw [HBy.out] at hrs
        have H5 := Lib.hid (And.intro hB5 (And.intro hdk5 (And.intro hO (And.intro hsf (And.intro hrs ho)))))
        have HSE := Lib.hid hse
        clear hs5 hop hXY hdk5 hlY hlg hlog hsf hO hB5 hse ho
        have hrl6 : rs.length ≤ 1000000 := by rw [hrs]; exact recs_le k _ (by rw [← HB0.out.len]; omega)
        generalize hrl : rs.length = rl at *
        have HRL := Lib.hid hrl6
        clear hrl hrs hrl6
        go_wp2_with fail
        refine hsc.mono ?_
        rintro e w6 ⟨u2, rfl, hrows2, hb6⟩
        rw [HSE.out]
        clear hsc
        have HB6 := Lib.hid (H5.out.1.trans (hb6.mono H5.out.1.size))
        have HDK6 := Lib.hid (H5.out.2.1.keep hb6)
        have HR6 := Lib.hid hrows2
        have HD6 := Lib.hid hb6
        clear hrows2 hb6
        go_wp2_with fail
        have hst := stat_none HDK6.out (l := newN logN) (by unfold maxLen; decide) H5.out.2.2.1.up H5.out.2.2.1.spare
        rw [show mk (newN logN) = (⟨#[108, 111, 103, 46, 110, 101, 119]⟩ : ByteArray) from rfl] at hst
        refine hst.mono ?_
        rintro e w7 ⟨rfl, hb7⟩
        clear hst
        have hb8 := hb7.alloc hb7.size (.cells #[.int .i64 0, .int .i64 0] 37)
        have hrd := read_some (HDK6.out.keep hb8) (l := logN) (by unfold maxLen; decide) H5.out.2.2.1.up H5.out.2.2.1.now
        rw [show mk logN = (⟨#[108, 111, 103]⟩ : ByteArray) from rfl, H5.out.2.2.1.bytes] at hrd
        have HB8 := Lib.hid hb8
        clear hb7 hb8
        go_wp2_with fail
        refine hrd.mono ?_
        rintro e w9 ⟨u9, rfl, hown9, hb9⟩
        clear hrd
        obtain ⟨a9, c9, rfl⟩ := row_len hown9
        have HC9 := Lib.hid (HB8.out.trans (hb9.mono HB8.out.size))
        have HB9 := Lib.hid (HB6.out.trans (HC9.out.mono HB6.out.size))
        have HN9 := Lib.hid (row_bytes hown9)
        have hhd := refHead_c k w9
        generalize hbl : (body k rs).length = bl at *
        have HBL := Lib.hid hbl
        clear hbl hown9 hb9
        go_wp2_with fail
        refine hhd.mono ?_
        rintro e w10 ⟨a10, c10, rfl, hown10, hb10⟩
        clear hhd
        have HC10 := Lib.hid (HC9.out.trans (hb10.mono HC9.out.size))
        have HB10 := Lib.hid (HB9.out.trans (hb10.mono HB9.out.size))
        have HN10 := Lib.hid (HN9.out.below hb10)
        have HH10 : Hid (BRow w10 (.slice a10 8 c10) (head k)) := Lib.hid (row_bytes hown10)
        clear hown10 hb10
        obtain ⟨E, hE⟩ : ∃ E, scanEnd k l = E := ⟨_, rfl⟩
        rw [hE]
        by_cases h0 : E = 0
        · subst h0
          have hz := scan_zero hE H5.out.2.2.2.2.2
          have hbk : body k rs = head k := by rw [H5.out.2.2.2.2.1, hz.2, body, all_nil, List.append_nil]
          have HNW : Hid (BRow w10 (.slice a9 bl c9) (head k) ∧ BRow w10 (.slice a10 8 c10) (head k)) := Lib.hid ⟨by have := HN10.out; rw [hbk] at this; exact this, HH10.out⟩
          obtain ⟨L, hL⟩ : ∃ L, head k = L := ⟨_, rfl⟩
          rw [hL] at HNW
          clear hz hbk hE hL
          have hon := open_nil (nm := logN) (by decide) k w10
          rw [show mk logN = (⟨#[108, 111, 103]⟩ : ByteArray) from rfl] at hon
          go_wp2_with fail
          refine hon.mono ?_
          rintro e w11 ⟨rfl, hb11⟩
          clear hon
          have HC11 := Lib.hid (HC10.out.trans (hb11.mono HC10.out.size))
          have hm1 : Mat w11 (.slice ua rl uc) rs := by
            have h65 := Mat.below H5.out.2.2.2.1.mat (HD6.out.trans (HC11.out.mono HD6.out.size))
            exact h65
          have hm2 : Mat w11 u2 (scanRecs k l) := Mat.below HR6.out.mat HC11.out
          obtain ⟨a2, c2, rfl, _⟩ := id' hm2
          have hsm := same_c hm1 hm2 HRL.out
          rw [show decide (rs = scanRecs k l) = true from decide_eq_true H5.out.2.2.2.2.1] at hsm
          have HNL := Lib.hid (HNW.out.1.below hb11)
          have HWL := Lib.hid (HNW.out.2.below hb11)
          have HB11 := Lib.hid (HB10.out.trans (hb11.mono HB10.out.size))
          clear hb11 hm1 hm2
          generalize (scanRecs k l).length = sl at *
          go_wp2_with fail
          refine hsm.mono ?_
          rintro e w12 ⟨rfl, hb12⟩
          clear hsm
          have cx := fun (j : Nat) => conv_b ((HNL.out.below hb12).drewN (w' := w12.drewN j) rfl)
          have cy := fun (j : Nat) => conv_b ((HWL.out.below hb12).drewN (w' := w12.drewN j) rfl)
          have cx0 := conv_b (HNL.out.below hb12)
          have cy0 := conv_b (HWL.out.below hb12)
          have hz2 : ((mk L).toList == (mk L).toList) = true := by simp
          have HB12 := Lib.hid (HB11.out.trans (hb12.mono HB11.out.size))
          clear hb12
          have haw := awake5_c w12
          go_wp2_with fail
          refine haw.mono ?_
          rintro e w13 ⟨rfl, hb13⟩
          clear haw
          go_wp2
          go_ret
          exact ⟨rfl, HB12.out.trans (hb13.mono HB12.out.size)⟩
        · obtain ⟨hs1, hs2, _⟩ := scan_some (by rw [hE]; exact h0) H5.out.2.2.2.2.2
          rw [hE] at hs1 hs2
          have hEn : E ≤ n := by rw [HB0.out.len]; exact hs1
          have hnc := HB0.out.cap
          have hEp : 0 < E := by omega
          have HNW : Hid (BRow w10 (.slice a9 bl c9) (body k rs) ∧ BRow w10 (.slice a E c) (body k rs)) := Lib.hid ⟨HN10.out, by
            have := ((HB0.out.below HB10.out).take hEn).row
            rw [hs2, ← H5.out.2.2.2.2.1] at this
            exact this⟩
          obtain ⟨L, hL⟩ : ∃ L, body k rs = L := ⟨_, rfl⟩
          rw [hL] at HNW
          clear hs1 hs2 hE hL h0
          have hon := open_nil (nm := logN) (by decide) k w10
          rw [show mk logN = (⟨#[108, 111, 103]⟩ : ByteArray) from rfl] at hon
          go_wp2_with fail
          refine hon.mono ?_
          rintro e w11 ⟨rfl, hb11⟩
          clear hon
          have HC11 := Lib.hid (HC10.out.trans (hb11.mono HC10.out.size))
          have hm1 : Mat w11 (.slice ua rl uc) rs := by
            have h65 := Mat.below H5.out.2.2.2.1.mat (HD6.out.trans (HC11.out.mono HD6.out.size))
            exact h65
          have hm2 : Mat w11 u2 (scanRecs k l) := Mat.below HR6.out.mat HC11.out
          obtain ⟨a2, c2, rfl, _⟩ := id' hm2
          have hsm := same_c hm1 hm2 HRL.out
          rw [show decide (rs = scanRecs k l) = true from decide_eq_true H5.out.2.2.2.2.1] at hsm
          have HNL := Lib.hid (HNW.out.1.below hb11)
          have HWL := Lib.hid (HNW.out.2.below hb11)
          have HB11 := Lib.hid (HB10.out.trans (hb11.mono HB10.out.size))
          clear hb11 hm1 hm2
          generalize (scanRecs k l).length = sl at *
          go_wp2_with fail
          refine hsm.mono ?_
          rintro e w12 ⟨rfl, hb12⟩
          clear hsm
          have cx := fun (j : Nat) => conv_b ((HNL.out.below hb12).drewN (w' := w12.drewN j) rfl)
          have cy := fun (j : Nat) => conv_b ((HWL.out.below hb12).drewN (w' := w12.drewN j) rfl)
          have cx0 := conv_b (HNL.out.below hb12)
          have cy0 := conv_b (HWL.out.below hb12)
          have hz2 : ((mk L).toList == (mk L).toList) = true := by simp
          have HB12 := Lib.hid (HB11.out.trans (hb12.mono HB11.out.size))
          clear hb12
          have haw := awake5_c w12
          go_wp2_with fail
          refine haw.mono ?_
          rintro e w13 ⟨rfl, hb13⟩
          clear haw
          go_wp2
          go_ret
          exact ⟨rfl, HB12.out.trans (hb13.mono HB12.out.size)⟩
      · obtain ⟨rfl, hDr⟩ := open_bad (HR.out.rdy (by omega)) log_ne right_spare (by rw [HBy.out]; exact ho) hop
        have hby : bytesOf d' logN = l := by rw [← HBy.out]; unfold bytesOf; rw [hDr.nm, hDr.files]
        have hl0 : 0 < l.length := by
          rcases Nat.eq_zero_or_pos l.length with e | e
          · exact absurd (by rw [List.eq_nil_of_length_eq_zero e]; exact okHead_nil k) ho
          · exact e
        obtain ⟨i9, hi9, hb9'⟩ := bytes_now (d := d') (nm := logN) (by rw [hby]; exact hl0)
        rw [hby] at hb9'
        rcases hret with ⟨_, rfl⟩ | ⟨h, _⟩
        · obtain ⟨hse, hsr, he9⟩ := scan_bad ho
          have H5 := Lib.hid (And.intro hB5 (And.intro hdk5 hDr))
          clear hs5 hop hXY hdk5 hDr hB5 ho hby hl0
          go_wp2_with fail
          refine hsc.mono ?_
          rintro e w6 ⟨u2, rfl, hrows2, hb6⟩
          rw [hsr, he9]
          clear hsc hse hsr he9
          obtain ⟨a2, c2, rfl⟩ := hrows2.val
          generalize (scanRecs k l).length = sl at *
          have HB6 := Lib.hid (H5.out.1.trans (hb6.mono H5.out.1.size))
          have HDK6 := Lib.hid (H5.out.2.1.keep hb6)
          clear hrows2 hb6
          have hst := stat_none HDK6.out (l := newN logN) (by unfold maxLen; decide) H5.out.2.2.up H5.out.2.2.spare
          rw [show mk (newN logN) = (⟨#[108, 111, 103, 46, 110, 101, 119]⟩ : ByteArray) from rfl] at hst
          go_wp2_with fail
          refine hst.mono ?_
          rintro e w7 ⟨rfl, hb7⟩
          clear hst
          have hb8 := hb7.alloc hb7.size (.cells #[.int .i64 0, .int .i64 0] 37)
          have hrd := read_some (HDK6.out.keep hb8) (l := logN) (by unfold maxLen; decide) H5.out.2.2.up hi9
          rw [show mk logN = (⟨#[108, 111, 103]⟩ : ByteArray) from rfl, hb9'] at hrd
          have HB8 := Lib.hid hb8
          clear hb7 hb8 hb9' hi9
          go_wp2_with fail
          refine hrd.mono ?_
          rintro e w9 ⟨u9, rfl, hown9, hb9⟩
          clear hrd
          obtain ⟨a9, c9, rfl⟩ := row_len hown9
          have HB9 := Lib.hid (HB6.out.trans ((HB8.out.trans (hb9.mono HB8.out.size)).mono HB6.out.size))
          have cx0 := conv_b (row_bytes hown9)
          have cy0 := conv_b (HB0.out.below HB9.out).row
          have hz2 : ((mk l).toList == (mk l).toList) = true := by simp
          have haw := awake5_c w9
          generalize l.length = bl at *
          clear hown9 hb9
          go_wp2_with fail
          refine haw.mono ?_
          rintro e w13 ⟨rfl, hb13⟩
          clear haw
          go_wp2
          go_ret
          exact ⟨rfl, HB9.out.trans (hb13.mono HB9.out.size)⟩
        · exact absurd h (by decide)
    · have hw1 := write_ok HDK.out (by omega) (M := 65536) (Nat.le_refl _) (dk_len HDK.out) (l := logN) (by decide) (HB0.out.below HB2.out).row HV.out (by rw [← HB0.out.len]; omega) (by rw [← HB0.out.len]; show _ ≤ 16777216; omega) rfl (by decide) right_log
      rw [show mk logN = (⟨#[108, 111, 103]⟩ : ByteArray) from rfl] at hw1
      go_wp2_with fail
      refine hw1.mono ?_
      rintro e w3 ⟨rfl, hs3, d3, hdk3, i3, hi3, hd3⟩
      clear hw1
      have HB3 := Lib.hid (same_below hs3 HB2.out.size (fun b hb => HX.out b hb) HB2.out rfl)
      have HDK3 := Lib.hid hdk3
      have HR3 : Hid (Rd logN (newN logN) 1 d3) := Lib.hid (by rw [hd3]; exact HRD.out.write (.inl rfl))
      have HY3 : Hid (bytesOf d3 logN = l) := Lib.hid (by rw [hd3, bytes_written hi3 (by decide), if_pos rfl])
      clear hs3 hdk3 hd3 hi3
      have hw2 := write_ok HDK3.out (by omega) (M := 65536) (Nat.le_refl _) (dk_len HDK3.out) (l := newN logN) (by decide) (HB0.out.below HB3.out).row HV.out (by rw [← HB0.out.len]; omega) (by rw [← HB0.out.len, HR3.out.quota]; omega) HR3.out.up (by rw [HR3.out.left]; decide) right_spare
      rw [show mk (newN logN) = (⟨#[108, 111, 103, 46, 110, 101, 119]⟩ : ByteArray) from rfl] at hw2
      go_wp2_with fail
      refine hw2.mono ?_
      rintro e w4 ⟨rfl, hs4, d4, hdk4, i4, hi4, hd4⟩
      clear hw2
      have HBS := Lib.hid (same_below hs4 HB3.out.size (fun b hb => HX.out b hb) HB3.out rfl)
      have HD := Lib.hid (hdk4.mono (show _ ≤ 6 by omega))
      have HR : Hid (Rd logN (newN logN) 2 d4) := Lib.hid (by rw [hd4]; have h := HR3.out.write (bs := l) (i := i4) (.inr rfl); exact ⟨h.up, h.left, h.eq, h.two, by have := h.few; omega, h.quota⟩)
      have HBy : Hid (bytesOf d4 logN = l) := Lib.hid (by rw [hd4, bytes_written hi4 (by decide), if_neg log_ne]; exact HY3.out)
      clear hs4 hdk4 hd4 hi4
      have HBt : Hid (∀ W, Below w.heap.size w W → Bt W a n c l) := Lib.hid fun W hW => HB0.out.below hW
      have hopn := open_any HD.out (by omega) (nm := logN) (by decide) k
      rw [show mk logN = (⟨#[108, 111, 103]⟩ : ByteArray) from rfl] at hopn
      go_wp2_with fail
      refine hopn.mono ?_
      rintro e w5 ⟨m, d', rs, Y, hs5, hop, hXY, hdk5, hret⟩
      clear hopn
      have hB5 : Below w.heap.size w w5 := same_below hs5 HBS.out.size (fun b hb => HX.out b hb) HBS.out rfl
      have hsc := refScan_c k (HBt.out w5 hB5) (by omega)
      by_cases ho : okHead k l
      · obtain ⟨rfl, hrs, ⟨id, hO⟩, _⟩ := open_runs (HR.out.rdy (by omega)) log_ne spare_ne right_log right_spare ⟨by decide, by rw [HR.out.quota]; decide⟩ (by rw [HBy.out]; exact ho) hop
        rcases hret with ⟨h, _⟩ | ⟨_, lg, u, rfl, hlY, hlg, hlog, hsf⟩
        · exact absurd rfl h
        obtain ⟨ua, uc, rfl, _⟩ := hsf.mat
        have hse : scanErr k l = 0 := by unfold scanErr; rw [if_pos ho]
        rw [HBy.out] at hrs
        have H5 := Lib.hid (And.intro hB5 (And.intro hdk5 (And.intro hO (And.intro hsf (And.intro hrs ho)))))
        have HSE := Lib.hid hse
        clear hs5 hop hXY hdk5 hlY hlg hlog hsf hO hB5 hse ho
        have hrl6 : rs.length ≤ 1000000 := by rw [hrs]; exact recs_le k _ (by rw [← HB0.out.len]; omega)
        generalize hrl : rs.length = rl at *
        have HRL := Lib.hid hrl6
        clear hrl hrs hrl6
        go_wp2_with fail
        refine hsc.mono ?_
        rintro e w6 ⟨u2, rfl, hrows2, hb6⟩
        rw [HSE.out]
        clear hsc
        have HB6 := Lib.hid (H5.out.1.trans (hb6.mono H5.out.1.size))
        have HDK6 := Lib.hid (H5.out.2.1.keep hb6)
        have HR6 := Lib.hid hrows2
        have HD6 := Lib.hid hb6
        clear hrows2 hb6
        go_wp2_with fail
        have hst := stat_none HDK6.out (l := newN logN) (by unfold maxLen; decide) H5.out.2.2.1.up H5.out.2.2.1.spare
        rw [show mk (newN logN) = (⟨#[108, 111, 103, 46, 110, 101, 119]⟩ : ByteArray) from rfl] at hst
        refine hst.mono ?_
        rintro e w7 ⟨rfl, hb7⟩
        clear hst
        have hb8 := hb7.alloc hb7.size (.cells #[.int .i64 0, .int .i64 0] 37)
        have hrd := read_some (HDK6.out.keep hb8) (l := logN) (by unfold maxLen; decide) H5.out.2.2.1.up H5.out.2.2.1.now
        rw [show mk logN = (⟨#[108, 111, 103]⟩ : ByteArray) from rfl, H5.out.2.2.1.bytes] at hrd
        have HB8 := Lib.hid hb8
        clear hb7 hb8
        go_wp2_with fail
        refine hrd.mono ?_
        rintro e w9 ⟨u9, rfl, hown9, hb9⟩
        clear hrd
        obtain ⟨a9, c9, rfl⟩ := row_len hown9
        have HC9 := Lib.hid (HB8.out.trans (hb9.mono HB8.out.size))
        have HB9 := Lib.hid (HB6.out.trans (HC9.out.mono HB6.out.size))
        have HN9 := Lib.hid (row_bytes hown9)
        have hhd := refHead_c k w9
        generalize hbl : (body k rs).length = bl at *
        have HBL := Lib.hid hbl
        clear hbl hown9 hb9
        go_wp2_with fail
        refine hhd.mono ?_
        rintro e w10 ⟨a10, c10, rfl, hown10, hb10⟩
        clear hhd
        have HC10 := Lib.hid (HC9.out.trans (hb10.mono HC9.out.size))
        have HB10 := Lib.hid (HB9.out.trans (hb10.mono HB9.out.size))
        have HN10 := Lib.hid (HN9.out.below hb10)
        have HH10 : Hid (BRow w10 (.slice a10 8 c10) (head k)) := Lib.hid (row_bytes hown10)
        clear hown10 hb10
        obtain ⟨E, hE⟩ : ∃ E, scanEnd k l = E := ⟨_, rfl⟩
        rw [hE]
        by_cases h0 : E = 0
        · subst h0
          have hz := scan_zero hE H5.out.2.2.2.2.2
          have hbk : body k rs = head k := by rw [H5.out.2.2.2.2.1, hz.2, body, all_nil, List.append_nil]
          have HNW : Hid (BRow w10 (.slice a9 bl c9) (head k) ∧ BRow w10 (.slice a10 8 c10) (head k)) := Lib.hid ⟨by have := HN10.out; rw [hbk] at this; exact this, HH10.out⟩
          obtain ⟨L, hL⟩ : ∃ L, head k = L := ⟨_, rfl⟩
          rw [hL] at HNW
          clear hz hbk hE hL
          have hon := open_nil (nm := logN) (by decide) k w10
          rw [show mk logN = (⟨#[108, 111, 103]⟩ : ByteArray) from rfl] at hon
          go_wp2_with fail
          refine hon.mono ?_
          rintro e w11 ⟨rfl, hb11⟩
          clear hon
          have HC11 := Lib.hid (HC10.out.trans (hb11.mono HC10.out.size))
          have hm1 : Mat w11 (.slice ua rl uc) rs := by
            have h65 := Mat.below H5.out.2.2.2.1.mat (HD6.out.trans (HC11.out.mono HD6.out.size))
            exact h65
          have hm2 : Mat w11 u2 (scanRecs k l) := Mat.below HR6.out.mat HC11.out
          obtain ⟨a2, c2, rfl, _⟩ := id' hm2
          have hsm := same_c hm1 hm2 HRL.out
          rw [show decide (rs = scanRecs k l) = true from decide_eq_true H5.out.2.2.2.2.1] at hsm
          have HNL := Lib.hid (HNW.out.1.below hb11)
          have HWL := Lib.hid (HNW.out.2.below hb11)
          have HB11 := Lib.hid (HB10.out.trans (hb11.mono HB10.out.size))
          clear hb11 hm1 hm2
          generalize (scanRecs k l).length = sl at *
          go_wp2_with fail
          refine hsm.mono ?_
          rintro e w12 ⟨rfl, hb12⟩
          clear hsm
          have cx := fun (j : Nat) => conv_b ((HNL.out.below hb12).drewN (w' := w12.drewN j) rfl)
          have cy := fun (j : Nat) => conv_b ((HWL.out.below hb12).drewN (w' := w12.drewN j) rfl)
          have cx0 := conv_b (HNL.out.below hb12)
          have cy0 := conv_b (HWL.out.below hb12)
          have hz2 : ((mk L).toList == (mk L).toList) = true := by simp
          have HB12 := Lib.hid (HB11.out.trans (hb12.mono HB11.out.size))
          clear hb12
          have haw := awake5_c w12
          go_wp2_with fail
          refine haw.mono ?_
          rintro e w13 ⟨rfl, hb13⟩
          clear haw
          go_wp2
          go_ret
          exact ⟨rfl, HB12.out.trans (hb13.mono HB12.out.size)⟩
        · obtain ⟨hs1, hs2, _⟩ := scan_some (by rw [hE]; exact h0) H5.out.2.2.2.2.2
          rw [hE] at hs1 hs2
          have hEn : E ≤ n := by rw [HB0.out.len]; exact hs1
          have hnc := HB0.out.cap
          have hEp : 0 < E := by omega
          have HNW : Hid (BRow w10 (.slice a9 bl c9) (body k rs) ∧ BRow w10 (.slice a E c) (body k rs)) := Lib.hid ⟨HN10.out, by
            have := ((HB0.out.below HB10.out).take hEn).row
            rw [hs2, ← H5.out.2.2.2.2.1] at this
            exact this⟩
          obtain ⟨L, hL⟩ : ∃ L, body k rs = L := ⟨_, rfl⟩
          rw [hL] at HNW
          clear hs1 hs2 hE hL h0
          have hon := open_nil (nm := logN) (by decide) k w10
          rw [show mk logN = (⟨#[108, 111, 103]⟩ : ByteArray) from rfl] at hon
          go_wp2_with fail
          refine hon.mono ?_
          rintro e w11 ⟨rfl, hb11⟩
          clear hon
          have HC11 := Lib.hid (HC10.out.trans (hb11.mono HC10.out.size))
          have hm1 : Mat w11 (.slice ua rl uc) rs := by
            have h65 := Mat.below H5.out.2.2.2.1.mat (HD6.out.trans (HC11.out.mono HD6.out.size))
            exact h65
          have hm2 : Mat w11 u2 (scanRecs k l) := Mat.below HR6.out.mat HC11.out
          obtain ⟨a2, c2, rfl, _⟩ := id' hm2
          have hsm := same_c hm1 hm2 HRL.out
          rw [show decide (rs = scanRecs k l) = true from decide_eq_true H5.out.2.2.2.2.1] at hsm
          have HNL := Lib.hid (HNW.out.1.below hb11)
          have HWL := Lib.hid (HNW.out.2.below hb11)
          have HB11 := Lib.hid (HB10.out.trans (hb11.mono HB10.out.size))
          clear hb11 hm1 hm2
          generalize (scanRecs k l).length = sl at *
          go_wp2_with fail
          refine hsm.mono ?_
          rintro e w12 ⟨rfl, hb12⟩
          clear hsm
          have cx := fun (j : Nat) => conv_b ((HNL.out.below hb12).drewN (w' := w12.drewN j) rfl)
          have cy := fun (j : Nat) => conv_b ((HWL.out.below hb12).drewN (w' := w12.drewN j) rfl)
          have cx0 := conv_b (HNL.out.below hb12)
          have cy0 := conv_b (HWL.out.below hb12)
          have hz2 : ((mk L).toList == (mk L).toList) = true := by simp
          have HB12 := Lib.hid (HB11.out.trans (hb12.mono HB11.out.size))
          clear hb12
          have haw := awake5_c w12
          go_wp2_with fail
          refine haw.mono ?_
          rintro e w13 ⟨rfl, hb13⟩
          clear haw
          go_wp2
          go_ret
          exact ⟨rfl, HB12.out.trans (hb13.mono HB12.out.size)⟩
      · obtain ⟨rfl, hDr⟩ := open_bad (HR.out.rdy (by omega)) log_ne right_spare (by rw [HBy.out]; exact ho) hop
        have hby : bytesOf d' logN = l := by rw [← HBy.out]; unfold bytesOf; rw [hDr.nm, hDr.files]
        have hl0 : 0 < l.length := by
          rcases Nat.eq_zero_or_pos l.length with e | e
          · exact absurd (by rw [List.eq_nil_of_length_eq_zero e]; exact okHead_nil k) ho
          · exact e
        obtain ⟨i9, hi9, hb9'⟩ := bytes_now (d := d') (nm := logN) (by rw [hby]; exact hl0)
        rw [hby] at hb9'
        rcases hret with ⟨_, rfl⟩ | ⟨h, _⟩
        · obtain ⟨hse, hsr, he9⟩ := scan_bad ho
          have H5 := Lib.hid (And.intro hB5 (And.intro hdk5 hDr))
          clear hs5 hop hXY hdk5 hDr hB5 ho hby hl0
          go_wp2_with fail
          refine hsc.mono ?_
          rintro e w6 ⟨u2, rfl, hrows2, hb6⟩
          rw [hsr, he9]
          clear hsc hse hsr he9
          obtain ⟨a2, c2, rfl⟩ := hrows2.val
          generalize (scanRecs k l).length = sl at *
          have HB6 := Lib.hid (H5.out.1.trans (hb6.mono H5.out.1.size))
          have HDK6 := Lib.hid (H5.out.2.1.keep hb6)
          clear hrows2 hb6
          have hst := stat_none HDK6.out (l := newN logN) (by unfold maxLen; decide) H5.out.2.2.up H5.out.2.2.spare
          rw [show mk (newN logN) = (⟨#[108, 111, 103, 46, 110, 101, 119]⟩ : ByteArray) from rfl] at hst
          go_wp2_with fail
          refine hst.mono ?_
          rintro e w7 ⟨rfl, hb7⟩
          clear hst
          have hb8 := hb7.alloc hb7.size (.cells #[.int .i64 0, .int .i64 0] 37)
          have hrd := read_some (HDK6.out.keep hb8) (l := logN) (by unfold maxLen; decide) H5.out.2.2.up hi9
          rw [show mk logN = (⟨#[108, 111, 103]⟩ : ByteArray) from rfl, hb9'] at hrd
          have HB8 := Lib.hid hb8
          clear hb7 hb8 hb9' hi9
          go_wp2_with fail
          refine hrd.mono ?_
          rintro e w9 ⟨u9, rfl, hown9, hb9⟩
          clear hrd
          obtain ⟨a9, c9, rfl⟩ := row_len hown9
          have HB9 := Lib.hid (HB6.out.trans ((HB8.out.trans (hb9.mono HB8.out.size)).mono HB6.out.size))
          have cx0 := conv_b (row_bytes hown9)
          have cy0 := conv_b (HB0.out.below HB9.out).row
          have hz2 : ((mk l).toList == (mk l).toList) = true := by simp
          have haw := awake5_c w9
          generalize l.length = bl at *
          clear hown9 hb9
          go_wp2_with fail
          refine haw.mono ?_
          rintro e w13 ⟨rfl, hb13⟩
          clear haw
          go_wp2
          go_ret
          exact ⟨rfl, HB9.out.trans (hb13.mono HB9.out.size)⟩
        · exact absurd h (by decide)
  · go_wp2
    go_ret
    exact ⟨rfl, HBQ.out⟩
end Go.Proofs.Ytfmelhcpccghdaa.Rl
