/-
  A RESTART.
-/
import Derived.Test.YtfmelhcpccghdaaGreatLose
namespace Go.Proofs.YtfmelhcpccghdaaGreat
open Go.RowKit Go.Maps

variable {X : Nat → Prop} {K : Nat} {w : World} {p : Nat} {q : Pl} {d : Ds}

theorem lost_now (d : Ds) (i : Nat) (t : Int) : (lost d i t).now = d.now := by unfold lost; dsimp only; split <;> rfl
theorem lost_sure (d : Ds) (i : Nat) (t : Int) : (lost d i t).sure = d.sure := by unfold lost; dsimp only; split <;> rfl
theorem lost_changes (d : Ds) (i : Nat) (t : Int) : (lost d i t).changes = d.changes := by unfold lost; dsimp only; split <;> rfl
theorem lost_clock (d : Ds) (i : Nat) (t : Int) : (lost d i t).clock ≤ d.clock + 1 := by unfold lost; dsimp only; split; exact Nat.le_refl _; exact Nat.le_succ _
theorem ref_lost {d : Ds} {i j : Nat} {t : Int} : Ref (lost d i t) j ↔ Ref d j := by unfold Ref; rw [lost_now, lost_sure, lost_changes]

theorem tailOf_nn (ts : List Int) (i : Nat) : 0 ≤ tailOf ts i := by unfold tailOf; split <;> omega

theorem restart_nil (k : Value) (hk : ∃ n a l c, k = .agg #[.int .i64 n, .slice a l c]) (w : World) : Calls Tryz.prog 12 #[.pointer none, k] w fun e w' => (∃ x, e = .returned x) ∧ Below w.heap.size w w' := by
  obtain ⟨n, a, l, c, rfl⟩ := hk
  go_enter Tryz.func12, Tryz.ntmps12
  go_wp2
  refine bodyPost_ret (results_none rfl _ _ _) rfl ?_
  exact ⟨⟨_, rfl⟩, below_alloc _ _⟩

theorem TRow.same {Y : Nat → Prop} {w w' : World} {v : Value} {ts : List Int} (h : TRow w v ts) (hs : Same Y w w') (hY : ∀ k, Value.rowBlock v = some k → Y k) : TRow w' v ts := by
  obtain ⟨a, cap, rfl, h⟩ := h
  refine ⟨a, cap, rfl, ?_⟩
  rcases h with h | ⟨b, o, rfl, hl, hc⟩
  · exact .inl h
  · by_cases h0 : ts = []
    · exact .inl h0
    · exact .inr ⟨b, o, rfl, Nat.lt_of_lt_of_le hl hs.size, fun j t hj => (hs.cell (p := ⟨b, o + j, none⟩) hl (hY b (rowBlock_some (a := ⟨b, o, none⟩) h0))).trans (hc j t hj)⟩
theorem TRow.lt {w : World} {v : Value} {ts : List Int} (h : TRow w v ts) {k : Nat} (hk : Value.rowBlock v = some k) : k < w.heap.size := by
  obtain ⟨a, cap, rfl, h⟩ := h
  by_cases h0 : ts = []
  · subst h0
    cases a with
    | none => cases hk
    | some a => rw [show ([] : List Int).length = 0 from rfl, rowBlock_nil] at hk; cases hk
  · rcases h with h | ⟨b, o, rfl, hl, _⟩
    · exact absurd h h0
    · rw [rowBlock_some h0] at hk
      cases hk
      exact hl

theorem lostAll_cons {ts : List Int} {k i : Nat} {n : List UInt8} {ns : List (List UInt8)} {d : Ds} (h : d.now n = some i) : lostAll ts k (n :: ns) d = lostAll ts (k + 1) ns (lost d i (tailOf ts k)) := by
  show lostAll ts (k + 1) ns (match d.now n with | some i => lost d i (tailOf ts k) | none => d) = _
  rw [h]

theorem strV_at {ns : List (List UInt8)} {j : Nat} {l : List UInt8} (h : ns[j]? = some l) : (strV ns)[j]? = some (.string (mk l)) := by simp [strV, h]

/-- the head leads to another directory, and is up -/
theorem DkAt.backAt {w2 : World} {mm n : Nat} (h : DkAt X K w p q d) (hB : Below w.heap.size w w2) (hmm : w.heap.size ≤ mm) (hn : n ≤ K) (hd : Dir w2 n mm d.sure) (hch : d.changes = []) :
    DkAt X K (((w2.setCell ⟨p, 5, none⟩ (.map (some mm))).setCell ⟨p, 3, none⟩ (.bool true)).setCell ⟨p, 4, none⟩ (.int .i64 (-1))) p { q with m1 := mm } { d with now := d.sure, up := true, left := -1 } := by
  have h2 := h.keep hB
  obtain ⟨n2, l2, d2⟩ := h2.sure
  obtain ⟨es2, ck2, b2⟩ := d2.map
  obtain ⟨es1, ck1, b1⟩ := hd.map
  have o9 : ∀ k, k ≠ p → (((w2.setCell ⟨p, 5, none⟩ (.map (some mm))).setCell ⟨p, 3, none⟩ (.bool true)).setCell ⟨p, 4, none⟩ (.int .i64 (-1))).heap[k]? = w2.heap[k]? := fun k hk =>
    (Below.heap_setCell _ _ _ _ hk).trans ((Below.heap_setCell _ _ _ _ hk).trans (Below.heap_setCell _ _ _ _ hk))
  have hsz : (((w2.setCell ⟨p, 5, none⟩ (.map (some mm))).setCell ⟨p, 3, none⟩ (.bool true)).setCell ⟨p, 4, none⟩ (.int .i64 (-1))).heap.size = w2.heap.size := by simp [World.setCell]
  have hR : ∀ i, Ref { d with now := d.sure, up := true, left := -1 } i → Ref d i := by
    rintro i (⟨l, e⟩ | ⟨l, e⟩ | ⟨c, e, _⟩)
    · exact .inr (.inl ⟨l, e⟩)
    · exact .inr (.inl ⟨l, e⟩)
    · have e' : c ∈ d.changes := e
      rw [hch] at e'
      cases e'
  have hm2 : q.m2 < w.heap.size := by obtain ⟨_, _, x⟩ := h.sure; exact x.lt
  have hpm : p ≠ mm := map_ne h2.root b1
  refine ⟨fun k hk => by rw [hsz]; exact h2.inX k hk, h.offp, fun hx => by have := h.inX mm hx; omega, h.off2, h.offc, (fun e => by have e' : mm = q.m2 := e; omega), ?_, ⟨n, hn, hd.kept (o9 _ hpm.symm)⟩, ⟨n2, l2, d2.kept (o9 _ (map_ne h2.root b2).symm)⟩, ?_, h.short, fun i hi => ?_, fun i j k hi hj => h.apart i j k (hR i hi) (hR j hj), h.clock, h.deeds, ⟨h.quota.1, by show -9223372036854775808 ≤ (-1 : Int) ∧ (-1 : Int) ≤ 9223372036854775807; omega⟩⟩
  · exact heap_set_same (heap_set_same (heap_set_same h2.root 5 _) 3 _) 4 _
  · refine row_kept h2.chg fun k hk => ?_
    obtain ⟨cur, hcur⟩ := row_elem h2.chg hk
    exact o9 k (kind_ne hcur h2.root (by decide))
  · have f := h2.file i (hR i hi)
    refine ⟨f.off, (o9 i (kind_ne f.cells h2.root (by decide))).trans f.cells, row_kept f.row fun k hk => ?_, f.rowOff, f.le, f.len⟩
    obtain ⟨cur, hcur⟩ := row_elem f.row hk
    exact o9 k (kind_ne hcur h2.root (by decide))

set_option maxRecDepth 100000 in
set_option maxHeartbeats 8000000 in
theorem restart_at (h : DkAt X K w p q d) (hK : K + 1 ≤ 1000) (n : Int) {tv : Value} {ts : List Int} (htv : TRow w tv ts) (htX : ∀ k, Value.rowBlock tv = some k → X k) (hts : ts.length ≤ 1000000) :
    Calls Tryz.prog 12 #[.pointer (some ⟨p, 0, none⟩), .agg #[.int .i64 n, tv]] w fun e w' => (∃ x, e = .returned x) ∧ Same X w w' ∧
      ∃ ns : List (List UInt8), (ns.Nodup ∧ (∀ x, x ∈ ns ↔ ((back d n.toNat).now x).isSome = true) ∧ ns.length ≤ K) ∧ Dk X (K + 1) w' p (lostAll ts 0 ns (back d n.toNat)) := by
  have hq := fun (W : World) (o : Option Nat) => run_eql_map_nil_sl (P := Tryz.prog) W 55 9 73 o Tryz.underlying55
  obtain ⟨ta, tc, htve⟩ : ∃ a c, tv = .slice a ts.length c := by obtain ⟨a, c, e, _⟩ := htv; exact ⟨a, c, e⟩
  have hB0 := below_alloc w (.cells #[.int .i64 n, tv] 41)
  have h0 := h.since hB0
  have hst := settle_at h0 (by omega) n
  obtain ⟨_, _, _, _, _, _, c6, _⟩ := h0.cells
  have k0 : (w.alloc (.cells #[.int .i64 n, tv] 41)).cell? ⟨w.heap.size, 0, none⟩ = some (.int .i64 n) := cell_at_new _ _ _ _ _ rfl
  have k1 : (w.alloc (.cells #[.int .i64 n, tv] 41)).cell? ⟨w.heap.size, 1, none⟩ = some tv := cell_at_new _ _ _ _ _ rfl
  have XB : Since X w (w.alloc (.cells #[.int .i64 n, tv] 41)) w.heap.size := .inr ⟨Nat.le_refl _, by simp⟩
  have lB : w.heap.size < (w.alloc (.cells #[.int .i64 n, tv] 41)).heap.size := by simp
  obtain ⟨X1, hX1⟩ : ∃ Y, Since X w (w.alloc (.cells #[.int .i64 n, tv] 41)) = Y := ⟨_, rfl⟩
  rw [hX1] at hst XB h0
  have hXX : ∀ k, X k → X1 k := fun k hk => by rw [← hX1]; exact .inl hk
  subst htve
  have HX := Lib.hid hXX
  have HXB := Lib.hid XB
  have HB0 := Lib.hid hB0
  have HTV := Lib.hid htv
  have HTX := Lib.hid htX
  clear h hB0 hX1 hXX XB htv htX
  generalize hTN : ts.length = TN at *
  have HTN := Lib.hid hTN
  clear hTN
  go_enter Tryz.func12, Tryz.ntmps12
  go_wp2_with fail
  refine hst.mono ?_
  rintro e w1 ⟨⟨x, rfl⟩, hs1, hd1⟩
  have k1' := (hs1.cell (p := ⟨w.heap.size, 1, none⟩) lB HXB.out).trans k1
  obtain ⟨_, _, _, _, _, _, g6, _⟩ := hd1.cells
  obtain ⟨nn, hnn, hdir2⟩ := hd1.sure
  have hcl := mclone_c hdir2
  have HS1 := Lib.hid hs1
  have HD1 := Lib.hid hd1
  have HNN : Hid (nn ≤ K) := Lib.hid (by have e : nn + 0 ≤ K := hnn; omega)
  clear h0 hst c6 k0 k1 hs1 hd1 hnn hdir2
  go_wp2_with fail
  refine hcl.mono ?_
  rintro e w2 ⟨rfl, hdm, hb2⟩
  have hd2 := HD1.out.keep hb2
  obtain ⟨_, _, _, g3, g4, g5, _, _⟩ := hd2.cells
  have z3 := frozen_of hd2.root 3
  have z4 := frozen_of hd2.root 4
  have z5 := frozen_of hd2.root 5
  have lB1 : w.heap.size < w1.heap.size := Nat.lt_of_lt_of_le lB HS1.out.size
  have k2 := (hb2.cell (p := ⟨w.heap.size, 1, none⟩) lB1).trans k1'
  have hback : DkAt X1 K (((w2.setCell ⟨p, 5, none⟩ (.map (some w1.heap.size))).setCell ⟨p, 3, none⟩ (.bool true)).setCell ⟨p, 4, none⟩ (.int .i64 (-1))) p { q with m1 := w1.heap.size, cv := .slice none 0 0 } (back d n.toNat) := HD1.out.backAt hb2 (Nat.le_refl _) HNN.out hdm rfl
  have hpB : p ≠ w.heap.size := fun e => HD1.out.offp (by rw [e]; exact HXB.out)
  have k3 : (((w2.setCell ⟨p, 5, none⟩ (.map (some w1.heap.size))).setCell ⟨p, 3, none⟩ (.bool true)).setCell ⟨p, 4, none⟩ (.int .i64 (-1))).cell? ⟨w.heap.size, 1, none⟩ = some (.slice ta TN tc) := set_blk hpB (set_blk hpB (set_blk hpB k2))
  have hs3 : Same X1 w1 (((w2.setCell ⟨p, 5, none⟩ (.map (some w1.heap.size))).setCell ⟨p, 3, none⟩ (.bool true)).setCell ⟨p, 4, none⟩ (.int .i64 (-1))) := (((Same.of_below hb2).set _ _ HD1.out.offp).set _ _ HD1.out.offp).set _ _ HD1.out.offp
  have hnm := names_at hback rfl (by omega)
  have HBK := Lib.hid hback
  have HS3 := Lib.hid hs3
  clear hback hs3 hd2 hcl hdm k1'
  go_wp2_with fail
  refine hnm.mono ?_
  rintro e w4 ⟨nv, ns, rfl, hrow, ⟨hnd, hmem, hshort, hlen⟩, hb4⟩
  clear g3 g4 g5 z3 z4 z5 g6 k2 hnm
  generalize (((w2.setCell ⟨p, 5, none⟩ (.map (some w1.heap.size))).setCell ⟨p, 3, none⟩ (.bool true)).setCell ⟨p, 4, none⟩ (.int .i64 (-1))) = w3 at *
  have HD4 := Lib.hid ((HBK.out.since hb4).mono (Nat.le_succ K))
  obtain ⟨Y, hY⟩ : ∃ Y, Since X1 w3 w4 = Y := ⟨_, rfl⟩
  have hYX : ∀ k, X1 k → Y k := fun k hk => by rw [← hY]; exact .inl hk
  have hYn : ∀ k, w3.heap.size ≤ k → k < w4.heap.size → Y k := fun k h1 h2 => by rw [← hY]; exact .inr ⟨h1, h2⟩
  rw [hY] at HD4
  obtain ⟨na, nc, rfl⟩ := row_len hrow
  have hTV4 : TRow w4 (.slice ta TN tc) ts := ((HTV.out.same (Same.of_below (X := X) HB0.out) HTX.out).same (Y := X1) ((HS1.out.trans HS3.out).trans (Same.of_below hb4)) (fun k hk => HX.out k (HTX.out k hk)))
  have hlB3 : w.heap.size < w3.heap.size := Nat.lt_of_lt_of_le lB1 HS3.out.size
  have k4 := (hb4.cell (p := ⟨w.heap.size, 1, none⟩) hlB3).trans k3
  have hlB4 : w.heap.size < w4.heap.size := Nat.lt_of_lt_of_le hlB3 hb4.size
  have HROW := Lib.hid hrow
  have HY := Lib.hid hYX
  have HYN := Lib.hid hYn
  have HT4 := Lib.hid hTV4
  have HB4 := Lib.hid hb4
  have HMEM := Lib.hid hmem
  have HSH := Lib.hid hshort
  have HK4 := Lib.hid k4
  have HND := Lib.hid hnd
  clear hY hYX hYn hrow hb4 hTV4 k3 k4 hmem hshort hnd
  generalize hN : ns.length = N at *
  have HN := Lib.hid hN
  clear hN
  have hcl0 : (back d n.toNat).clock ≤ 1000 * K + 1 := HBK.out.clock
  generalize hD0 : back d n.toNat = D0 at *
  have HD0 := Lib.hid hD0
  clear hD0
  go_wp2
  go_loopw [36] (fun i wr => ∃ j : Nat, j ≤ N ∧ i = .int .i64 j ∧ ∃ dj bv, DkAt Y (K + 1) wr p { m1 := w1.heap.size, m2 := q.m2, cv := .slice none 0 0, bv := bv } dj ∧ Same Y w4 wr ∧ Hid (dj.now = D0.now) ∧ Hid (lostAll ts j (ns.drop j) dj = lostAll ts 0 ns D0) ∧ dj.clock ≤ 1000 * K + 1 + j) (fun i _ => N - (intOf i).toNat)
  case atStart => exact ⟨0, Nat.zero_le _, rfl, D0, q.bv, HD4.out, Same.refl _ _, Lib.hid rfl, Lib.hid rfl, by omega⟩
  case round =>
    obtain ⟨j, hj, rfl, dj, bv, hdj, hsj, hnow, hall, hclk⟩ := hrel
    by_cases hlt : j < N
    · obtain ⟨l, hl⟩ : ∃ l, ns[j]? = some l := ⟨ns[j]'(by have := HN.out; omega), List.getElem?_eq_getElem (by have := HN.out; omega)⟩
      have hmem : l ∈ ns := List.mem_of_getElem? hl
      have hll := HSH.out l hmem
      obtain ⟨i, hi⟩ := Option.isSome_iff_exists.1 ((HMEM.out l).1 hmem)
      have hij : dj.now l = some i := by rw [hnow.out]; exact hi
      obtain ⟨g, cap, hv, _, hgl⟩ := HROW.out.form (by omega)
      obtain ⟨rfl, rfl⟩ : na = some ⟨g, 0, none⟩ ∧ nc = cap := by cases hv; exact ⟨rfl, rfl⟩
      have hgn : Y g := HYN.out g (HROW.out.lt g rfl).1 hgl
      have hncell := HROW.out.cells (g := g) rfl j _ (strV_at hl)
      rw [Go.WideShapes.add_plain, Nat.zero_add] at hncell
      have hname := (hsj.cell (p := ⟨g, j, none⟩) hgl hgn).trans hncell
      obtain ⟨_, _, _, _, _, c5, _, _⟩ := hdj.cells
      obtain ⟨nq, _, hdir⟩ := hdj.now
      have hlk0 := hdir.look hll
      rw [hij, ptr_some] at hlk0
      have hlk1 := (hdir.kept (w' := wr.drew) rfl).look hll
      rw [hij, ptr_some] at hlk1
      have kB := (hsj.cell (p := ⟨w.heap.size, 1, none⟩) hlB4 (HY.out _ HXB.out)).trans HK4.out
      have htl := tail_c (w := wr.drew) (i := j) (HT4.out.same hsj.drew (fun k hk => HY.out k (HX.out k (HTX.out k hk))) : TRow wr.drew (.slice ta TN tc) ts) (by rw [HTN.out]; exact hts) (by omega)
      have hlo := lose_at (hdj.drewN (w' := wr.drew) rfl) (by omega) (by omega) (ref_now hij) (tailOf_nn ts j)
      have hst : lostAll ts (j + 1) (ns.drop (j + 1)) (lost dj i (tailOf ts j)) = lostAll ts 0 ns D0 := by
        have e : ns.drop j = l :: ns.drop (j + 1) := by
          have hjl : j < ns.length := by have := HN.out; omega
          rw [List.getElem?_eq_getElem hjl] at hl
          rw [List.drop_eq_getElem_cons hjl, Option.some.inj hl]
        rw [← hall.out, e, lostAll_cons hij]
      have hlc := lost_clock dj i (tailOf ts j)
      have hln := lost_now dj i (tailOf ts j)
      rw [hnow.out] at hln
      have HST := Lib.hid hst
      have HLN := Lib.hid hln
      have HLI : Hid (∀ w' bv', DkAt Y (K + 1) w' p { m1 := w1.heap.size, m2 := q.m2, cv := .slice none 0 0, bv := bv' } (lost dj i (tailOf ts j)) → w'.cell? ⟨p, 5, none⟩ = some (.map (some w1.heap.size)) ∧ (Instr.lookup 55 (.map (some w1.heap.size)) (.string (mk l)) false).run Tryz.prog w' = .ok (.pointer (some ⟨i, 0, none⟩)) w') := Lib.hid (fun w' bv' hd => by
        obtain ⟨_, _, _, _, _, c, _, _⟩ := hd.cells
        obtain ⟨_, _, hdr⟩ := hd.now
        have hk := hdr.look hll
        rw [lost_now, hij, ptr_some] at hk
        exact ⟨c, hk⟩)
      have hnn : Hid (w.heap.size ≠ p) := Lib.hid (fun e => hpB e.symm)
      have hBY : Hid (Y w.heap.size) := Lib.hid (HY.out _ HXB.out)
      have hwrB : w.heap.size < wr.heap.size := Nat.lt_of_lt_of_le hlB4 hsj.size
      clear hmem hl hi hij hv hncell hdir hst hln hdj
      have hltI : (j : Int) < (N : Int) := by omega
      go_wp2_with fail
      go_region_held3 (fun w' => w'.cell? ⟨p, 5, none⟩ = some (.map (some w1.heap.size)) ∧ w'.cell? ⟨w.heap.size, 1, none⟩ = some (.slice ta TN tc) ∧ (Instr.lookup 55 (.map (some w1.heap.size)) (.string (mk l)) false).run Tryz.prog w' = .ok (.pointer (some ⟨i, 0, none⟩)) w')
        (first | exact ⟨c5, kB, hlk0⟩ | exact ⟨c5, kB, hlk1⟩ | exact ⟨n5, nB, nlk⟩ | fail)
        (first
          | (go_at_call 41; refine htl.mono ?_; rintro e w5 ⟨rfl, rfl⟩)
          | (go_at_call 40; refine hlo.mono ?_; rintro e w6 ⟨⟨x6, rfl⟩, hs6, bv6, hd6⟩; obtain ⟨n5, nlk⟩ := HLI.out w6 bv6 hd6; have nB := (hs6.cell (p := ⟨w.heap.size, 1, none⟩) hwrB hBY.out).trans kB))
      all_goals
        go_wp2
        go_roundw
        case rel => exact ⟨j + 1, by omega, by go_num, _, bv6, hd6, hsj.trans ⟨hs6.os, hs6.tape, hs6.output, hs6.size, hs6.block⟩, HLN, HST, by omega⟩
        case measure => simp [intOf]; omega
    · obtain rfl : j = N := by omega
      have hfin : dj = lostAll ts 0 ns D0 := by
        have := hall.out
        rw [List.drop_eq_nil_of_le (by have := HN.out; omega)] at this
        exact this
      have HFIN := Lib.hid hfin
      have hsx : Same X w wr := ((((Same.of_below HB0.out).trans (HS1.out.mono fun k _ hk => HX.out k hk)).trans (HS3.out.mono fun k _ hk => HX.out k hk)).trans (Same.of_below HB4.out)).trans (hsj.mono fun k _ hk => HY.out k (HX.out k hk))
      have hdx : Dk X (K + 1) wr p dj := Dk.frame ⟨_, hdj⟩ (Nat.le_refl _) (fun _ _ _ => rfl) (fun k _ hk => HY.out k (HX.out k hk)) (fun k hk => hdj.inX k (HY.out k (HX.out k hk)))
      have HSX := Lib.hid hsx
      have HDX := Lib.hid hdx
      clear hfin hsx hdx hdj hsj
      go_wp2
      go_end0
      rw [HD0.out]
      refine ⟨⟨_, rfl⟩, HSX.out, ns, ⟨HND.out, ?_, by rw [HN.out]; exact hlen⟩, by rw [← HFIN.out]; exact HDX.out⟩
      exact HMEM.out
end Go.Proofs.YtfmelhcpccghdaaGreat
