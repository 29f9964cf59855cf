/-
  THE LAW DiskTimes, WALKED.
-/
import Derived.Test.YtdgfnhgkncfmpaaActs
import Derived.Test.YtdgfnhgkncfmpaaTimes
import Derived.Test.YtdgfnhgkncfmpaaSureW
import Derived.Laws.MakeOwn
namespace Go.Proofs.Ytdgfnhgkncfmpaa
open Go.RowKit Go.Maps

variable {X : Nat → Prop} {K : Nat} {w : World} {p : Nat} {q : Pl} {d : Ds}

/-- nothing has turned but these two blocks -/
structure But (b c : Nat) (w w' : World) : Prop where
  os : w'.os = w.os
  tape : w'.tape = w.tape
  output : w'.output = w.output
  size : w.heap.size ≤ w'.heap.size
  block : ∀ k, k < w.heap.size → k ≠ b → k ≠ c → w'.heap[k]? = w.heap[k]?
theorem But.refl (b c : Nat) (w : World) : But b c w w := ⟨rfl, rfl, rfl, Nat.le_refl _, fun _ _ _ _ => rfl⟩
theorem But.trans {b c : Nat} {u v w : World} (h : But b c u v) (k : But b c v w) : But b c u w :=
  ⟨k.os.trans h.os, k.tape.trans h.tape, k.output.trans h.output, Nat.le_trans h.size k.size, fun i hi h1 h2 => (k.block i (Nat.lt_of_lt_of_le hi h.size) h1 h2).trans (h.block i hi h1 h2)⟩
theorem But.of_below {b c : Nat} {u v : World} (h : Below u.heap.size u v) : But b c u v := ⟨h.os, h.tape, h.output, h.size, fun k hk _ _ => h.block k hk⟩
theorem But.below {b c B : Nat} {u v : World} (h : But b c u v) (hB : B ≤ u.heap.size) (hb : B ≤ b) (hc : B ≤ c) : Below B u v := ⟨h.os, h.tape, h.output, h.size, fun k hk => h.block k (by omega) (by omega) (by omega)⟩
theorem But.cell {b c : Nat} {u v : World} (h : But b c u v) {a : Addr} (ha : a.block < u.heap.size) (h1 : a.block ≠ b) (h2 : a.block ≠ c) : v.cell? a = u.cell? a := World.cell?_of_block (w := u) (h.block a.block ha h1 h2)

/-- what was recorded: block b tells of each time whether it was had, block c its content -/
structure Arr (w : World) (b c : Nat) (R : Nat → Option (List UInt8)) : Prop where
  ne : b ≠ c
  lb : b < w.heap.size
  lc : c < w.heap.size
  had : ∀ t, t < 2000 → w.cell? ⟨b, t, none⟩ = some (.bool (R t).isSome)
  con : ∀ t, t < 2000 → ∃ g, w.cell? ⟨c, t, none⟩ = some (.string (Go.Proofs.Ytdgfnhgkncfmpaa.mk g)) ∧ ∀ x, R t = some x → g = x
  fb : ∀ t, w.frozen? ⟨b, t, none⟩ = false
  fc : ∀ t, w.frozen? ⟨c, t, none⟩ = false
theorem Arr.kept {b c : Nat} {R : Nat → Option (List UInt8)} (h : Arr w b c R) {w' : World} (hs : w.heap.size ≤ w'.heap.size) (hb : w'.heap[b]? = w.heap[b]?) (hc : w'.heap[c]? = w.heap[c]?) : Arr w' b c R := by
  refine ⟨h.ne, Nat.lt_of_lt_of_le h.lb hs, Nat.lt_of_lt_of_le h.lc hs, fun t ht => ?_, fun t ht => ?_, fun t => ?_, fun t => ?_⟩
  · rw [World.cell?_of_block (w := w) (a := ⟨b, t, none⟩) hb]; exact h.had t ht
  · rw [World.cell?_of_block (w := w) (a := ⟨c, t, none⟩) hc]; exact h.con t ht
  · rw [World.frozen?_of_block (w := w) (a := ⟨b, t, none⟩) hb]; exact h.fb t
  · rw [World.frozen?_of_block (w := w) (a := ⟨c, t, none⟩) hc]; exact h.fc t
theorem Arr.below {b c : Nat} {R : Nat → Option (List UInt8)} (h : Arr w b c R) {w' : World} (hb : Below w.heap.size w w') : Arr w' b c R := h.kept hb.size (hb.block b h.lb) (hb.block c h.lc)
theorem Arr.same {b c : Nat} {R : Nat → Option (List UInt8)} (h : Arr w b c R) {w' : World} (hs : Same X w w') (hb : X b) (hc : X c) : Arr w' b c R := h.kept hs.size (hs.block b h.lb hb) (hs.block c h.lc hc)
theorem frozen_set (w : World) (a b : Addr) (v : Value) : (w.setCell a v).frozen? b = w.frozen? b := by
  by_cases h : b.block = a.block
  · simp [go_sem]
  · exact World.frozen?_of_block (w := w) (Below.heap_setCell w a v b.block h)
theorem But.setb {b c : Nat} (w : World) (t : Nat) (v : Value) : But b c w (w.setCell ⟨b, t, none⟩ v) := ⟨rfl, rfl, rfl, by simp [World.setCell], fun k _ h1 _ => Below.heap_setCell _ _ _ _ h1⟩
theorem But.setc {b c : Nat} (w : World) (t : Nat) (v : Value) : But b c w (w.setCell ⟨c, t, none⟩ v) := ⟨rfl, rfl, rfl, by simp [World.setCell], fun k _ _ h2 => Below.heap_setCell _ _ _ _ h2⟩
/-- the two records, each by itself -/
structure HadC (w w' : World) (b : Nat) (t : Nat) : Prop where
  same : w'.cell? ⟨b, t, none⟩ = some (.bool true)
  other : ∀ s, s ≠ t → w'.cell? ⟨b, s, none⟩ = w.cell? ⟨b, s, none⟩
theorem Arr.of {b c : Nat} {R : Nat → Option (List UInt8)} (h : Arr w b c R) {w' : World} (hs : w'.heap.size = w.heap.size) {t : Nat} {x : List UInt8}
    (h1 : w'.cell? ⟨b, t, none⟩ = some (.bool true)) (h2 : ∀ s, s ≠ t → w'.cell? ⟨b, s, none⟩ = w.cell? ⟨b, s, none⟩) (h3 : w'.cell? ⟨c, t, none⟩ = some (.string (Go.Proofs.Ytdgfnhgkncfmpaa.mk x))) (h4 : ∀ s, s ≠ t → w'.cell? ⟨c, s, none⟩ = w.cell? ⟨c, s, none⟩)
    (h5 : ∀ a, w'.frozen? a = w.frozen? a) : Arr w' b c (upd R t (some x)) := by
  refine ⟨h.ne, by rw [hs]; exact h.lb, by rw [hs]; exact h.lc, fun s ht => ?_, fun s ht => ?_, fun s => by rw [h5]; exact h.fb s, fun s => by rw [h5]; exact h.fc s⟩
  · by_cases e : s = t
    · subst e; rw [h1, upd_same]; rfl
    · rw [h2 s e, upd_other _ _ e]; exact h.had s ht
  · by_cases e : s = t
    · subst e; exact ⟨x, h3, fun y hy => by rw [upd_same] at hy; cases hy; rfl⟩
    · rw [h4 s e, upd_other _ _ e]; exact h.con s ht
theorem off_ne {b s t : Nat} (h : s ≠ t) : (⟨b, t, none⟩ : Addr) ≠ ⟨b, s, none⟩ := fun e => h (congrArg Addr.off e).symm
theorem blk_ne {b c s t : Nat} (h : b ≠ c) : (⟨b, t, none⟩ : Addr) ≠ ⟨c, s, none⟩ := fun e => h (congrArg Addr.block e)
theorem Arr.two {b c : Nat} {R : Nat → Option (List UInt8)} (h : Arr w b c R) {t : Nat} (ht : t < 2000) (x : List UInt8) :
    (w.setCell ⟨b, t, none⟩ (.bool true)).cell? ⟨c, t, none⟩ = w.cell? ⟨c, t, none⟩ ∧ (w.setCell ⟨b, t, none⟩ (.bool true)).frozen? ⟨c, t, none⟩ = false ∧
    (w.setCell ⟨c, t, none⟩ (.string (Go.Proofs.Ytdgfnhgkncfmpaa.mk x))).cell? ⟨b, t, none⟩ = w.cell? ⟨b, t, none⟩ ∧ (w.setCell ⟨c, t, none⟩ (.string (Go.Proofs.Ytdgfnhgkncfmpaa.mk x))).frozen? ⟨b, t, none⟩ = false ∧
    (Arr ((w.setCell ⟨b, t, none⟩ (.bool true)).setCell ⟨c, t, none⟩ (.string (Go.Proofs.Ytdgfnhgkncfmpaa.mk x))) b c (upd R t (some x)) ∧ But b c w ((w.setCell ⟨b, t, none⟩ (.bool true)).setCell ⟨c, t, none⟩ (.string (Go.Proofs.Ytdgfnhgkncfmpaa.mk x)))) ∧
    (Arr ((w.setCell ⟨c, t, none⟩ (.string (Go.Proofs.Ytdgfnhgkncfmpaa.mk x))).setCell ⟨b, t, none⟩ (.bool true)) b c (upd R t (some x)) ∧ But b c w ((w.setCell ⟨c, t, none⟩ (.string (Go.Proofs.Ytdgfnhgkncfmpaa.mk x))).setCell ⟨b, t, none⟩ (.bool true))) := by
  have hn := h.ne
  have hh := h.had t ht
  obtain ⟨g, hg, _⟩ := h.con t ht
  have hn' : c ≠ b := fun e => hn e.symm
  have e1 : (w.setCell ⟨b, t, none⟩ (.bool true)).cell? ⟨c, t, none⟩ = w.cell? ⟨c, t, none⟩ := World.cell?_setCell_other _ _ _ _ (blk_ne hn)
  have e2 : (w.setCell ⟨c, t, none⟩ (.string (Go.Proofs.Ytdgfnhgkncfmpaa.mk x))).cell? ⟨b, t, none⟩ = w.cell? ⟨b, t, none⟩ := World.cell?_setCell_other _ _ _ _ (blk_ne hn')
  refine ⟨e1, by rw [frozen_set]; exact h.fc t, e2, by rw [frozen_set]; exact h.fb t, ⟨h.of (by simp [World.setCell]) ?_ (fun s e => ?_) ?_ (fun s e => ?_) (fun a => by rw [frozen_set, frozen_set]), (But.setb w t _).trans (But.setc _ t _)⟩, ⟨h.of (by simp [World.setCell]) ?_ (fun s e => ?_) ?_ (fun s e => ?_) (fun a => by rw [frozen_set, frozen_set]), (But.setc w t _).trans (But.setb _ t _)⟩⟩
  · rw [World.cell?_setCell_other _ _ _ _ (blk_ne hn')]; exact set_same hh
  · rw [World.cell?_setCell_other _ _ _ _ (blk_ne hn'), World.cell?_setCell_other _ _ _ _ (off_ne e)]
  · exact set_same (e1.trans hg)
  · rw [World.cell?_setCell_other _ _ _ _ (off_ne e), World.cell?_setCell_other _ _ _ _ (blk_ne hn)]
  · exact set_same (e2.trans hh)
  · rw [World.cell?_setCell_other _ _ _ _ (off_ne e), World.cell?_setCell_other _ _ _ _ (blk_ne hn')]
  · rw [World.cell?_setCell_other _ _ _ _ (blk_ne hn)]; exact set_same hg
  · rw [World.cell?_setCell_other _ _ _ _ (blk_ne hn), World.cell?_setCell_other _ _ _ _ (off_ne e)]
theorem own_ge {base : Nat} {e : TypeId} {size n : Nat} {v : Value} {xs : List Value} (h : w.ownsRow base e size v n xs) {k : Nat} (hk : Value.rowBlock v = some k) : base ≤ k := by
  rcases h.2 with ⟨rfl, _⟩ | ⟨g, cap, cur, rfl, hb, _⟩
  · cases hk
  · have hk' : (if n = 0 then none else some g) = some k := hk
    by_cases h0 : n = 0
    · rw [if_pos h0] at hk'; cases hk'
    · rw [if_neg h0] at hk'; cases hk'; exact hb

theorem made_at {z : Value} {n j : Nat} (hz : z.cells = #[z]) (hj : j < n) : (madeCells z.cells (n * 1))[j]? = some z := by
  rw [hz, Nat.mul_one]
  simp [madeCells, hj, Nat.mod_one]
theorem made_any (n : Nat) (t e : TypeId) (i : TypeInfo) (z : Value) (ht : Try.prog.underlying t = some (.slice e)) (hi : Try.prog.info? e = some i) (hz : i.zero = some z) (hs : i.size = 1) (hc : z.cells = #[z]) (hb : i.bytes ≤ 16) (hn : n ≤ 1000000) (w : World) :
    ∃ C : Array Value, (Instr.makeSlice t (.int .i64 n) (.int .i64 n)).run Try.prog w = .ok (.slice (some ⟨w.heap.size, 0, none⟩) n n) (w.alloc (.cells C e)) ∧ ∀ j, j < n → C[j]? = some z := by
  have hm := run_make (P := Try.prog) w t e i z ht hi hz .i64 .i64 (n : Int) (n : Int) (by omega) (by omega) (by
    have : (i.bytes : Int) * n ≤ 16 * n := Int.mul_le_mul_of_nonneg_right (by omega) (by omega)
    omega) (by omega)
  rw [Int.toNat_natCast, hs] at hm
  exact ⟨_, hm, fun j hj => made_at hc hj⟩
theorem info9t : (Try.prog.info? 9).map (fun i => (i.zero, i.size, i.bytes)) = some (some (.string ⟨#[]⟩), 1, 16) := by kernel_rfl
theorem info4t : (Try.prog.info? 4).map (fun i => (i.zero, i.size, i.bytes)) = some (some (.bool false), 1, 1) := by kernel_rfl

theorem lt_of_cell' {w : World} {a : Addr} {v : Value} (h : w.cell? a = some v) : a.block < w.heap.size := World.block_lt_of_cell? w a h
theorem names_ok (h : Dk X K w p d) (hu : d.up = true) (hK : K ≤ 1000) : Calls Try.prog 21 #[.pointer (some ⟨p, 0, none⟩)] w fun e w' => ∃ v ns, e = .returned v ∧
    w'.ownsRow w.heap.size 9 1 v ns.length (strV ns) ∧ (ns.Nodup ∧ (∀ x, x ∈ ns ↔ (d.now x).isSome = true) ∧ (∀ x ∈ ns, x.length ≤ maxLen) ∧ ns.length ≤ K) ∧ Below w.heap.size w w' := by
  obtain ⟨q, h⟩ := h
  exact names_at h hu hK
theorem names_down_ok (h : Dk X K w p d) (hu : d.up = false) : Calls Try.prog 21 #[.pointer (some ⟨p, 0, none⟩)] w fun e w' => e = .returned (.slice none 0 0) ∧ w = w' := by
  obtain ⟨q, h⟩ := h
  exact names_down h hu

set_option maxRecDepth 100000 in
set_option maxHeartbeats 32000000 in
theorem times_c {v : Value} {xs : List Act1} (w : World) (hA : Acts w v xs) :
    Calls Try.prog 4 #[v] w fun e w' => e = .returned (.bool true) ∧ Below w.heap.size w w' := by
  obtain ⟨va, vc, hv⟩ : ∃ a c, v = .slice a xs.length c := by
    obtain ⟨a, c, e, _⟩ := hA
    exact ⟨a, c, e⟩
  subst hv
  have hli := light_c hA
  have HA := Lib.hid hA
  clear hA
  obtain ⟨xn, hxn⟩ : ∃ k, xs.length = k := ⟨_, rfl⟩
  have HXN := Lib.hid hxn
  rw [hxn] at hli
  rw [hxn]
  clear hxn
  go_enter Try.func4, Try.ntmps4
  go_wp2_with fail
  refine hli.mono ?_
  rintro e w1 ⟨r, rfl, rfl, hL⟩
  clear hli
  cases r with
  | false =>
    go_wp2
    go_ret
    exact ⟨rfl, Below.refl _ _⟩
  | true =>
    obtain ⟨h80, hL⟩ := hL rfl
    have HL := Lib.hid hL
    have h80' : xn ≤ 80 := by rw [← HXN.out]; exact h80
    clear hL h80
    have hfr := fresh_c w
    go_wp2_with fail
    refine hfr.mono ?_
    rintro e w3 ⟨p, rfl, hp, hb3, hd3⟩
    clear hfr hL
    obtain ⟨i9, h9, n90, n91, n92⟩ := info_parts info9t
    obtain ⟨i4, h4, n40, n41, n42⟩ := info_parts info4t
    obtain ⟨C9, mk9, hC9⟩ := made_any 2000 48 9 i9 (.string ⟨#[]⟩) Try.underlying48 h9 n90 n91 rfl (by omega) (by omega) w3
    obtain ⟨w4, hw4⟩ : ∃ W, w3.alloc (.cells C9 9) = W := ⟨_, rfl⟩
    rw [hw4] at mk9
    obtain ⟨C4, mk4, hC4⟩ := made_any 2000 49 4 i4 (.bool false) Try.underlying49 h4 n40 n41 rfl (by omega) (by omega) w4
    obtain ⟨w5, hw5⟩ : ∃ W, w4.alloc (.cells C4 4) = W := ⟨_, rfl⟩
    rw [hw5] at mk4
    have s4 : w4.heap.size = w3.heap.size + 1 := by rw [← hw4]; simp
    have hb34 : Below w3.heap.size w3 w4 := by rw [← hw4]; exact below_alloc _ _
    have hb45 : Below w4.heap.size w4 w5 := by rw [← hw5]; exact below_alloc _ _
    have e4 : w4.heap[w3.heap.size]? = some (.cells C9 9 (0, 0)) := by rw [← hw4]; exact heap_alloc_new _ _
    have e5 : w5.heap[w4.heap.size]? = some (.cells C4 4 (0, 0)) := by rw [← hw5]; exact heap_alloc_new _ _
    have e4' : w5.heap[w3.heap.size]? = some (.cells C9 9 (0, 0)) := (hb45.block _ (by omega)).trans e4
    have hR0 : Arr w5 w4.heap.size w3.heap.size (fun _ => none) := by
      refine ⟨by omega, lt_of_some e5, lt_of_some e4', fun t ht => ?_, fun t ht => ⟨[], ?_, fun x hx => by cases hx⟩, fun t => frozen_of e5 t, fun t => frozen_of e4' t⟩
      · simp only [World.cell?, e5]
        exact hC4 t ht
      · simp only [World.cell?, e4']
        exact hC9 t ht
    have hd5 := (hd3.since hb34).since hb45
    have hX4 : Since (Since (fun k => k < w.heap.size) w3 w4) w4 w5 w4.heap.size := .inr ⟨Nat.le_refl _, lt_of_some e5⟩
    have hX3 : Since (Since (fun k => k < w.heap.size) w3 w4) w4 w5 w3.heap.size := .inl (.inr ⟨Nat.le_refl _, by omega⟩)
    have hXo : ∀ k, k < w.heap.size → Since (Since (fun k => k < w.heap.size) w3 w4) w4 w5 k := fun k hk => .inl (.inl hk)
    obtain ⟨X, hX⟩ : ∃ Y, Since (Since (fun k => k < w.heap.size) w3 w4) w4 w5 = Y := ⟨_, rfl⟩
    rw [hX] at hd5 hX4 hX3 hXo
    have hb5 : Below w.heap.size w w5 := hb3.trans ((hb34.trans (hb45.mono (by omega))).mono hb3.size)
    obtain ⟨bc, hbc⟩ : ∃ k, w3.heap.size = k := ⟨_, rfl⟩
    obtain ⟨bh, hbh⟩ : ∃ k, w4.heap.size = k := ⟨_, rfl⟩
    have hge3 : w.heap.size ≤ bc := by rw [← hbc]; exact hb3.size
    rw [hbc] at hR0 hX3 mk9 s4
    rw [hbh] at hR0 hX4 mk4 s4
    have HBH := Lib.hid s4
    have HNE1 := Lib.hid (show bh ≠ bc by omega)
    have HNE2 := Lib.hid (show bc ≠ bh by omega)
    have HR0 := Lib.hid hR0
    have HD5 := Lib.hid hd5
    have HX4 := Lib.hid hX4
    have HX3 := Lib.hid hX3
    have HXO := Lib.hid hXo
    have HB5 := Lib.hid hb5
    have HT0 : Hid (Timed (fun _ => none) (newD 16777216)) := Lib.hid ⟨Nat.le_refl _, fun i hi => (new_ref _ i hi).elim, fun _ _ => rfl, fun i hi => (new_ref _ i hi).elim, fun i j hi => (new_ref _ i hi).elim⟩
    rw [show ((2000 : Nat) : Int) = 2000 from rfl] at mk9 mk4
    clear hR0 hd5 hX4 hX3 hXo hb5 hX hd3 hb3 e4 e5 e4' hb34 hb45 h9 h4 n90 n91 n92 n40 n41 n42 hp hw4 hw5 hC9 hC4 s4 hbh
    go_wp2_with fail
    clear mk9 mk4 hbc
    go_loopw [7] (fun v wr => ∃ k : Nat, k ≤ xn ∧ v = .int .i64 k ∧ ∃ d R, Hid (Dk X (4 * k) wr p d) ∧ Hid (Timed R d) ∧ Hid (Arr wr bh bc R) ∧ Hid (Below w.heap.size w wr)) (fun v _ => xn - (intOf v).toNat)
    case atStart => exact ⟨0, Nat.zero_le _, rfl, _, _, HD5, HT0, HR0, HB5⟩
    case round =>
      obtain ⟨k, hk, rfl, d, R, HD, HT, HR, HBR⟩ := hrel
      clear HD5 HT0 HR0 HB5
      by_cases hlt : k < xn
      · obtain ⟨x, hxi⟩ : ∃ x, xs[k]? = some x := ⟨xs[k]'(by rw [HXN.out]; exact hlt), List.getElem?_eq_getElem _⟩
        obtain ⟨a1, c1', e1, hx⟩ := HA.out
        obtain ⟨b, o, ha, hb, hAt⟩ := hx k x hxi
        rw [ha] at e1
        cases e1
        have hLx := HL.out x (List.mem_of_getElem? hxi)
        have hbr := HBR.out
        obtain ⟨k0, k1, k2, k3, ⟨a4, n4, k4, r4⟩, ⟨a5, n5, k5, r5⟩, q0, q1⟩ := hAt
        have hh : ∀ o, wr.cell? ⟨b, o, none⟩ = w.cell? ⟨b, o, none⟩ := fun o => hbr.cell (p := ⟨b, o, none⟩) hb
        rw [← hh] at k0 k1 k2 k3 k4 k5
        obtain ⟨L4, e4⟩ : ∃ l, x.bs.length = l := ⟨_, rfl⟩
        obtain ⟨L5, e5⟩ : ∃ l, x.ts.length = l := ⟨_, rfl⟩
        rw [e4] at k4
        rw [e5] at k5
        have R4 := Lib.hid r4
        have R5 := Lib.hid r5
        have E4 := Lib.hid e4
        have E5 := Lib.hid e5
        have HLX := Lib.hid hLx
        obtain ⟨⟨m, hm, hm9⟩, hr1, hr2⟩ := tm9 x.what
        clear hx ha hLx hbr r4 r5 e4 e5 hxi hh
        by_cases hm7 : m = 7
        · subst hm7
          have har := arm_ok HD.out x.num q1
          clear HD
          go_wp2_with fail
          refine har.mono ?_
          rintro e wA ⟨⟨xA, rfl⟩, hsA, hdA⟩
          have HDA := Lib.hid (hdA.mono (show _ ≤ 4 * k + 4 by have := HBH.out; omega))
          have HTA : Hid (Timed R _) := Lib.hid (HT.out.calm (d' := { d with left := x.num }) (fun _ h => h) rfl fun _ _ => ⟨rfl, rfl⟩)
          obtain ⟨dA, hdA'⟩ : ∃ D, ({ d with left := x.num } : Ds) = D := ⟨_, rfl⟩
          rw [hdA'] at HDA HTA
          have HRA := Lib.hid (HR.out.same hsA HX4.out HX3.out)
          have HBA := Lib.hid (HBR.out.trans (hsA.below HBR.out.size HXO.out))
          clear har hsA hdA hdA' HT HR HBR k0 k1 k2 k3 k4 k5
          cases hup : dA.up with
          | false =>
            have hnm := names_down_ok HDA.out hup
            go_wp2_with fail
            refine hnm.mono ?_
            rintro e wN ⟨rfl, rfl⟩
            clear hnm
            go_wp2_with fail
            refine wp_loop_rounds 1 ?_
            rw [rounds_succ]
            go_wp2
            go_roundw
            case rel => exact ⟨k + 1, by have := HBH.out; omega, by go_num, _, _, Lib.hid (HDA.out.mono (by have := HBH.out; omega)), HTA, HRA, HBA⟩
            case measure => simp [intOf]; omega
          | true =>
            have hnm := names_ok HDA.out hup (by have := HBH.out; omega)
            go_wp2_with fail
            refine hnm.mono ?_
            rintro e wN ⟨v, ns, rfl, hrow, ⟨_, hmem, hshort, hnsl⟩, hbN⟩
            clear hnm
            obtain ⟨na, nc, rfl⟩ := row_len hrow
            obtain ⟨nn, hnn⟩ : ∃ k, ns.length = k := ⟨_, rfl⟩
            rw [hnn] at hrow
            have HNN := Lib.hid hnn
            have hnnb : nn ≤ 1000 := by rw [← hnn]; omega
            have HROW := Lib.hid hrow
            have HMEM := Lib.hid hmem
            have HSHORT := Lib.hid hshort
            have HBN := Lib.hid hbN
            have HDN := Lib.hid (HDA.out.frame (w' := wN) hbN.size (fun k hk _ => hbN.block k hk) (fun _ _ h => h) (fun k h => Nat.lt_of_lt_of_le (by obtain ⟨q, hq⟩ := HDA.out; exact hq.inX k h) hbN.size))
            have HRN := Lib.hid (HRA.out.below hbN)
            have hlA : bh < wA.heap.size := HRA.out.lb
            clear hrow hmem hshort hbN HRA
            simp only [hnn]
            clear hnn
            go_wp2_with fail
            go_loopw [10] (fun v wr => ∃ j : Nat, j ≤ nn ∧ v = .int .i64 j ∧ ∃ R, Hid (Timed R dA) ∧ Hid (Arr wr bh bc R) ∧ Hid (But bh bc wN wr)) (fun v _ => nn - (intOf v).toNat)
            case atStart => exact ⟨0, Nat.zero_le _, rfl, _, HTA, HRN, Lib.hid (But.refl _ _ _)⟩
            case round =>
              obtain ⟨j, hj, rfl, R', HTJ, HRJ, HBJ⟩ := hrel
              clear HTA HRN
              have hdJ := HDN.out.frame (w' := wr) HBJ.out.size (fun k hk hX => HBJ.out.block k hk (fun e => hX (e ▸ HX4.out)) (fun e => hX (e ▸ HX3.out))) (fun _ _ h => h) (fun k h => Nat.lt_of_lt_of_le (by obtain ⟨q, hq⟩ := HDN.out; exact hq.inX k h) HBJ.out.size)
              have hbJ : Below w.heap.size w wr := HBA.out.trans ((HBN.out.mono HBA.out.size).trans (HBJ.out.below (Nat.le_trans HBA.out.size HBN.out.size) (by have := HBH.out; omega) (by have := HBH.out; omega)))
              by_cases hlj : j < nn
              · obtain ⟨l, hjl⟩ : ∃ l, ns[j]? = some l := ⟨ns[j]'(by rw [HNN.out]; exact hlj), List.getElem?_eq_getElem _⟩
                have hlm := List.mem_of_getElem? hjl
                obtain ⟨i, hi⟩ := Option.isSome_iff_exists.1 ((HMEM.out l).1 hlm)
                have hls := HSHORT.out l hlm
                obtain ⟨g, gc, cur, e, hge, hgc, _⟩ := HROW.out.2.resolve_left (by rintro ⟨_, h0⟩; omega)
                cases e
                have hcw : wN.cell? ⟨g, j, none⟩ = some (.string (mk l)) := by
                  have := HROW.out.cells (g := g) rfl j (.string (mk l)) (by simp [strV, hjl])
                  rwa [Go.WideShapes.add_plain, Nat.zero_add] at this
                have hcj : wr.cell? ⟨g, j, none⟩ = some (.string (mk l)) := (HBJ.out.cell (a := ⟨g, j, none⟩) (lt_of_some hgc) (show g ≠ bh by have := HBH.out; omega) (show g ≠ bc by have := HBH.out; omega)).trans hcw
                have hrd := read_some (l := l) hdJ hls hup hi
                have hTi := HTJ.out.time i (ref_now hi)
                have hTh := HTJ.out.has i (ref_now hi)
                have hTn := HTJ.out.note (ref_now hi)
                obtain ⟨y, hy⟩ : ∃ y, (dA.files i).bytes = y := ⟨_, rfl⟩
                obtain ⟨T, hT⟩ : ∃ T, (dA.files i).time = T := ⟨_, rfl⟩
                have hst := fun W (hb : Below wr.heap.size wr W) => stat_some (l := l) (hdJ.since hb) hls hup hi
                rw [hy, hT] at hst
                rw [hT] at hTi
                rw [hy, hT] at hTh hTn
                rw [hy] at hrd
                obtain ⟨yl, hyl⟩ : ∃ k, y.length = k := ⟨_, rfl⟩
                have HYL := Lib.hid hyl
                rw [hyl] at hst
                simp only [hyl] at hrd
                have HST := Lib.hid hst
                have HTH := Lib.hid hTh
                have HTN := Lib.hid hTn
                have HG := Lib.hid hgc
                have HCW := Lib.hid hcw
                have HLS := Lib.hid hls
                have hT1 := hTi.1
                clear hlm hls hgc hcw hi hyl hst hTh hTn hT hy hTi hjl hdJ
                go_wp2_with fail
                refine hrd.mono ?_
                rintro e wB ⟨u, rfl, hrw, hbB⟩
                have hst := HST.out wB hbB
                obtain ⟨ua, uc, rfl⟩ := row_len hrw
                have hcB : wB.cell? ⟨g, j, none⟩ = some (.string (mk l)) := (hbB.cell (p := ⟨g, j, none⟩) (lt_of_cell' hcj)).trans hcj
                have HRW := Lib.hid hrw
                have HBB := Lib.hid hbB
                have HRB := Lib.hid (HRJ.out.below hbB)
                have HLB := Lib.hid HRJ.out.lb
                clear hrd hrw hbB HST HRJ
                go_wp2_with fail
                refine hst.mono ?_
                rintro e wC ⟨rfl, hbC⟩
                clear hst
                obtain ⟨wD, hwD⟩ : ∃ W, wC.alloc (.cells #[.int .i64 yl, .int .i64 T] 36) = W := ⟨_, rfl⟩
                have hbD : Below wB.heap.size wB wD := by rw [← hwD]; exact hbC.trans ((below_alloc wC _).mono hbC.size)
                have cs1 : wD.cell? ⟨wC.heap.size, 1, none⟩ = some (.int .i64 T) := by rw [← hwD]; exact cell_at_new _ _ _ _ _ rfl
                have hrD := HRB.out.below hbD
                have hbJD : But bh bc wN wD := HBJ.out.trans ((But.of_below HBB.out).trans (But.of_below hbD))
                have hcv := conv_b (row_bytes (base := wr.heap.size) (by rw [HYL.out]; exact HRW.out) |>.below hbD)
                have hcvN := fun (k : Nat) => conv_b ((row_bytes (base := wr.heap.size) (by rw [HYL.out]; exact HRW.out) |>.below hbD).drewN (w' := wD.drewN k) rfl)
                have HBD := Lib.hid hbD
                have HRD := Lib.hid hrD
                have HJD := Lib.hid hbJD
                have hltD : wC.heap.size < wD.heap.size := by rw [← hwD]; simp
                have HLC := Lib.hid (show wr.heap.size ≤ wC.heap.size from Nat.le_trans HBB.out.size hbC.size)
                clear hbD hrD hbJD hbC HRB
                by_cases hT2 : T < 2000
                · have hh := HRD.out.had T hT2
                  obtain ⟨gg, hg, hgg⟩ := HRD.out.con T hT2
                  have hf1 := HRD.out.fb T
                  have hf2 := HRD.out.fc T
                  cases hRT : R' T with
                  | none =>
                    rw [hRT] at hh
                    clear hgg hRT
                    go_wp2_with fail
                    go_quiet (fail)
                    go_wp2_with fail
                    obtain ⟨wE, hwE⟩ : ∃ W, wD.drewN nq = W := ⟨_, rfl⟩
                    obtain ⟨w2, hw2⟩ : ∃ W, wE.drew = W := ⟨_, rfl⟩
                    have hwE2 : wE.heap = wD.heap ∧ wE.os = wD.os ∧ wE.tape = wD.tape ∧ wE.output = wD.output := by rw [← hwE]; exact ⟨rfl, rfl, rfl, rfl⟩
                    obtain ⟨he1, he2, he3, he4⟩ := hwE2
                    rw [hwE]
                    have hR2 : Arr w2 bh bc R' := by rw [← hw2]; exact HRD.out.kept (by show _ ≤ wE.heap.size; rw [he1]; exact Nat.le_refl _) (by show wE.heap[_]? = _; rw [he1]) (by show wE.heap[_]? = _; rw [he1])
                    have hlbr : bh < wr.heap.size ∧ bc < wr.heap.size := ⟨HLB.out, by have := HLB.out; have := HBH.out; omega⟩
                    have hS : ∀ W, But bh bc w2 W → W.cell? ⟨wC.heap.size, 1, none⟩ = some (.int .i64 T) ∧ (convert 23 9 (.slice ua yl uc)).run Try.prog W = .ok (.string (Go.Proofs.Ytdgfnhgkncfmpaa.mk y)) W := fun W hW => by
                      have hW2 : But bh bc wD W := But.trans (by rw [← hw2]; exact ⟨he2, he3, he4, by show _ ≤ wE.heap.size; rw [he1]; exact Nat.le_refl _, fun k _ _ _ => by show wE.heap[k]? = _; rw [he1]⟩) hW
                      have hwc : wr.heap.size ≤ wC.heap.size := HLC.out
                      refine ⟨(hW2.cell (a := ⟨wC.heap.size, 1, none⟩) hltD (show wC.heap.size ≠ bh by have := HBH.out; omega) (show wC.heap.size ≠ bc by have := HBH.out; omega)).trans cs1, ?_⟩
                      refine conv_b ((row_bytes (base := wr.heap.size) (by rw [HYL.out]; exact HRW.out) |>.below HBD.out).kept hW2.size fun k hk hlt => hW2.block k hlt ?_ ?_)
                      · have := own_ge HRW.out hk; have := HBH.out; omega
                      · have := own_ge HRW.out hk; have := HBH.out; omega
                    obtain ⟨y1, y2, y3, y4, ⟨y5, y6⟩, ⟨y7, y8⟩⟩ := hR2.two hT2 y
                    have c1 := hS w2 (But.refl _ _ _)
                    have c2 := hS _ (But.setb (b := bh) (c := bc) w2 T (.bool true))
                    have c3 := hS _ (But.setc (b := bh) (c := bc) w2 T (.string (Go.Proofs.Ytdgfnhgkncfmpaa.mk y)))
                    have c4 := hS _ y6
                    have c5 := hS _ y8
                    have x2 := hR2.had T hT2
                    obtain ⟨g2, x3, _⟩ := hR2.con T hT2
                    have x4 := hR2.fb T
                    have x5 := hR2.fc T
                    rw [x3] at y1
                    rw [x2] at y3
                    have hJ2 : But bh bc wN w2 := HJD.out.trans (by rw [← hw2]; exact ⟨he2, he3, he4, by show _ ≤ wE.heap.size; rw [he1]; exact Nat.le_refl _, fun k _ _ _ => by show wE.heap[k]? = _; rw [he1]⟩)
                    have Y5 := Lib.hid y5
                    have Y6 := Lib.hid (hJ2.trans y6)
                    have Y7 := Lib.hid y7
                    have Y8 := Lib.hid (hJ2.trans y8)
                    clear hR2 y5 y6 y7 y8 hJ2 cs1 hh hg hf1 hf2 hcv hcvN hltD hcB hcj hS hlbr he1 he2 he3 he4 hwE
                    subst hw2
                    have x2' : wE.cell? ⟨bh, T, none⟩ = some (.bool (R' T).isSome) := x2
                    have x3' : wE.cell? ⟨bc, T, none⟩ = some (.string (Go.Proofs.Ytdgfnhgkncfmpaa.mk g2)) := x3
                    have x4' : wE.frozen? ⟨bh, T, none⟩ = false := x4
                    have x5' : wE.frozen? ⟨bc, T, none⟩ = false := x5
                    have hne1 := HNE1.out
                    have hne2 := HNE2.out
                    go_region_held3 (fun w' => w'.cell? ⟨wC.heap.size, 1, none⟩ = some (.int .i64 T) ∧ (convert 23 9 (.slice ua yl uc)).run Try.prog w' = .ok (.string (Go.Proofs.Ytdgfnhgkncfmpaa.mk y)) w') (first | exact c1 | exact c2 | exact c3 | exact c4 | exact c5) (fail)
                    go_wp2
                    go_roundw
                    case rel => exact ⟨j + 1, by omega, by go_num, _, HTN, Y5, Y6⟩
                    case measure => simp [intOf]; omega
                  | some z =>
                    have hz : z = y := HTH.out z hRT
                    have hgy : gg = y := (hgg z hRT).trans hz
                    rw [hRT] at hh
                    rw [hgy] at hg
                    clear hgg hRT hz hgy
                    go_wp2_with fail
                    go_quiet (fail)
                    go_wp2_with fail
                    obtain ⟨wE, hwE⟩ : ∃ W, wD.drewN nq = W := ⟨_, rfl⟩
                    obtain ⟨w2, hw2⟩ : ∃ W, wE.drew = W := ⟨_, rfl⟩
                    have hwE2 : wE.heap = wD.heap ∧ wE.os = wD.os ∧ wE.tape = wD.tape ∧ wE.output = wD.output := by rw [← hwE]; exact ⟨rfl, rfl, rfl, rfl⟩
                    obtain ⟨he1, he2, he3, he4⟩ := hwE2
                    rw [hwE]
                    have hR2 : Arr w2 bh bc R' := by rw [← hw2]; exact HRD.out.kept (by show _ ≤ wE.heap.size; rw [he1]; exact Nat.le_refl _) (by show wE.heap[_]? = _; rw [he1]) (by show wE.heap[_]? = _; rw [he1])
                    have hlbr : bh < wr.heap.size ∧ bc < wr.heap.size := ⟨HLB.out, by have := HLB.out; have := HBH.out; omega⟩
                    have hS : ∀ W, But bh bc w2 W → W.cell? ⟨wC.heap.size, 1, none⟩ = some (.int .i64 T) ∧ (convert 23 9 (.slice ua yl uc)).run Try.prog W = .ok (.string (Go.Proofs.Ytdgfnhgkncfmpaa.mk y)) W := fun W hW => by
                      have hW2 : But bh bc wD W := But.trans (by rw [← hw2]; exact ⟨he2, he3, he4, by show _ ≤ wE.heap.size; rw [he1]; exact Nat.le_refl _, fun k _ _ _ => by show wE.heap[k]? = _; rw [he1]⟩) hW
                      have hwc : wr.heap.size ≤ wC.heap.size := HLC.out
                      refine ⟨(hW2.cell (a := ⟨wC.heap.size, 1, none⟩) hltD (show wC.heap.size ≠ bh by have := HBH.out; omega) (show wC.heap.size ≠ bc by have := HBH.out; omega)).trans cs1, ?_⟩
                      refine conv_b ((row_bytes (base := wr.heap.size) (by rw [HYL.out]; exact HRW.out) |>.below HBD.out).kept hW2.size fun k hk hlt => hW2.block k hlt ?_ ?_)
                      · have := own_ge HRW.out hk; have := HBH.out; omega
                      · have := own_ge HRW.out hk; have := HBH.out; omega
                    obtain ⟨y1, y2, y3, y4, ⟨y5, y6⟩, ⟨y7, y8⟩⟩ := hR2.two hT2 y
                    have c1 := hS w2 (But.refl _ _ _)
                    have c2 := hS _ (But.setb (b := bh) (c := bc) w2 T (.bool true))
                    have c3 := hS _ (But.setc (b := bh) (c := bc) w2 T (.string (Go.Proofs.Ytdgfnhgkncfmpaa.mk y)))
                    have c4 := hS _ y6
                    have c5 := hS _ y8
                    have x2 := hR2.had T hT2
                    obtain ⟨g2, x3, _⟩ := hR2.con T hT2
                    have x4 := hR2.fb T
                    have x5 := hR2.fc T
                    rw [x3] at y1
                    rw [x2] at y3
                    have hJ2 : But bh bc wN w2 := HJD.out.trans (by rw [← hw2]; exact ⟨he2, he3, he4, by show _ ≤ wE.heap.size; rw [he1]; exact Nat.le_refl _, fun k _ _ _ => by show wE.heap[k]? = _; rw [he1]⟩)
                    have Y5 := Lib.hid y5
                    have Y6 := Lib.hid (hJ2.trans y6)
                    have Y7 := Lib.hid y7
                    have Y8 := Lib.hid (hJ2.trans y8)
                    clear hR2 y5 y6 y7 y8 hJ2 cs1 hh hg hf1 hf2 hcv hcvN hltD hcB hcj hS hlbr he1 he2 he3 he4 hwE
                    subst hw2
                    have x2' : wE.cell? ⟨bh, T, none⟩ = some (.bool (R' T).isSome) := x2
                    have x3' : wE.cell? ⟨bc, T, none⟩ = some (.string (Go.Proofs.Ytdgfnhgkncfmpaa.mk g2)) := x3
                    have x4' : wE.frozen? ⟨bh, T, none⟩ = false := x4
                    have x5' : wE.frozen? ⟨bc, T, none⟩ = false := x5
                    have hne1 := HNE1.out
                    have hne2 := HNE2.out
                    go_region_held3 (fun w' => w'.cell? ⟨wC.heap.size, 1, none⟩ = some (.int .i64 T) ∧ (convert 23 9 (.slice ua yl uc)).run Try.prog w' = .ok (.string (Go.Proofs.Ytdgfnhgkncfmpaa.mk y)) w') (first | exact c1 | exact c2 | exact c3 | exact c4 | exact c5) (fail)
                    go_wp2
                    go_roundw
                    case rel => exact ⟨j + 1, by omega, by go_num, _, HTN, Y5, Y6⟩
                    case measure => simp [intOf]; omega
                · go_wp2
                  go_ret
                  exact ⟨rfl, hbJ.trans ((HBB.out.trans (HBD.out.mono HBB.out.size)).mono hbJ.size)⟩
              · obtain rfl : j = nn := by have := HBH.out; omega
                go_wp2
                go_roundw
                case rel => exact ⟨k + 1, by have := HBH.out; omega, by go_num, dA, R', Lib.hid (hdJ.mono (by have := HBH.out; omega)), HTJ, HRJ, Lib.hid hbJ⟩
                case measure => simp [intOf]; omega
        · by_cases hm8 : m = 8
          · subst hm8
            obtain ⟨w2, hw2⟩ : ∃ W, wr.drew = W := ⟨_, rfl⟩
            have hs2 : Same X wr w2 := by rw [← hw2]; exact (Same.refl X wr).drew
            have hd2 : Dk X (4 * k) w2 p d := by rw [← hw2]; exact HD.out.frame (Nat.le_refl _) (fun _ _ _ => rfl) (fun _ _ h => h) (by obtain ⟨q, hq⟩ := HD.out; exact hq.inX)
            have hb2 : Below w.heap.size w w2 := by rw [← hw2]; exact HBR.out.drew
            have hre := restart_ok hd2 (by omega) x.num (R5.out.below hb2) (fun k hk => HXO.out _ (R5.out.lt hk)) (by have := HLX.out.2.2.2; omega)
            rw [E5.out] at hre
            have k1' : w2.cell? ⟨b, o + k * 6 + 1, none⟩ = some (.int .i64 x.num) := by rw [← hw2]; exact k1
            have k5' : w2.cell? ⟨b, o + k * 6 + 5, none⟩ = some (.slice a5 L5 n5) := by rw [← hw2]; exact k5
            have HS2 := Lib.hid hs2
            have HW2 := Lib.hid hw2
            clear hw2 hs2 hd2 hb2 HD
            go_wp2_with fail
            refine wp_region_still_tail 12 (by kernel_rfl) (by kernel_rfl) ?_
            rw [show ({ wr with drawn := wr.drawn + 1 } : World) = w2 from HW2.out]
            simp only [List.take_succ_cons, List.take_zero, List.drop_succ_cons, List.drop_zero]
            repeat still_step
            refine wpStill_nil ?_
            go_wp2_with fail
            refine hre.mono ?_
            rintro e wA ⟨⟨xA, rfl⟩, hsA, ns, _, hdA⟩
            have HDA := Lib.hid (hdA.mono (show _ ≤ 4 * k + 4 by omega))
            have HTA : Hid (Timed R _) := Lib.hid (Timed.lostAll (ts := x.ts) ns 0 _ (HT.out.back x.num.toNat))
            obtain ⟨dA, hdA'⟩ : ∃ D, lostAll x.ts 0 ns (back d x.num.toNat) = D := ⟨_, rfl⟩
            rw [hdA'] at HDA HTA
            have hsA' := HS2.out.trans hsA
            have HRA := Lib.hid (HR.out.same hsA' HX4.out HX3.out)
            have HBA := Lib.hid (HBR.out.trans (hsA'.below HBR.out.size HXO.out))
            clear hre hsA hsA' hdA hdA' HT HR HBR k0 k1 k2 k3 k4 k5 k1' k5' HS2 HW2
            cases hup : dA.up with
            | false =>
              have hnm := names_down_ok HDA.out hup
              go_wp2_with fail
              refine hnm.mono ?_
              rintro e wN ⟨rfl, rfl⟩
              clear hnm
              go_wp2_with fail
              refine wp_loop_rounds 1 ?_
              rw [rounds_succ]
              go_wp2
              go_roundw
              case rel => exact ⟨k + 1, by have := HBH.out; omega, by go_num, _, _, Lib.hid (HDA.out.mono (by have := HBH.out; omega)), HTA, HRA, HBA⟩
              case measure => simp [intOf]; omega
            | true =>
              have hnm := names_ok HDA.out hup (by have := HBH.out; omega)
              go_wp2_with fail
              refine hnm.mono ?_
              rintro e wN ⟨v, ns, rfl, hrow, ⟨_, hmem, hshort, hnsl⟩, hbN⟩
              clear hnm
              obtain ⟨na, nc, rfl⟩ := row_len hrow
              obtain ⟨nn, hnn⟩ : ∃ k, ns.length = k := ⟨_, rfl⟩
              rw [hnn] at hrow
              have HNN := Lib.hid hnn
              have hnnb : nn ≤ 1000 := by rw [← hnn]; omega
              have HROW := Lib.hid hrow
              have HMEM := Lib.hid hmem
              have HSHORT := Lib.hid hshort
              have HBN := Lib.hid hbN
              have HDN := Lib.hid (HDA.out.frame (w' := wN) hbN.size (fun k hk _ => hbN.block k hk) (fun _ _ h => h) (fun k h => Nat.lt_of_lt_of_le (by obtain ⟨q, hq⟩ := HDA.out; exact hq.inX k h) hbN.size))
              have HRN := Lib.hid (HRA.out.below hbN)
              have hlA : bh < wA.heap.size := HRA.out.lb
              clear hrow hmem hshort hbN HRA
              simp only [hnn]
              clear hnn
              go_wp2_with fail
              go_loopw [10] (fun v wr => ∃ j : Nat, j ≤ nn ∧ v = .int .i64 j ∧ ∃ R, Hid (Timed R dA) ∧ Hid (Arr wr bh bc R) ∧ Hid (But bh bc wN wr)) (fun v _ => nn - (intOf v).toNat)
              case atStart => exact ⟨0, Nat.zero_le _, rfl, _, HTA, HRN, Lib.hid (But.refl _ _ _)⟩
              case round =>
                obtain ⟨j, hj, rfl, R', HTJ, HRJ, HBJ⟩ := hrel
                clear HTA HRN
                have hdJ := HDN.out.frame (w' := wr) HBJ.out.size (fun k hk hX => HBJ.out.block k hk (fun e => hX (e ▸ HX4.out)) (fun e => hX (e ▸ HX3.out))) (fun _ _ h => h) (fun k h => Nat.lt_of_lt_of_le (by obtain ⟨q, hq⟩ := HDN.out; exact hq.inX k h) HBJ.out.size)
                have hbJ : Below w.heap.size w wr := HBA.out.trans ((HBN.out.mono HBA.out.size).trans (HBJ.out.below (Nat.le_trans HBA.out.size HBN.out.size) (by have := HBH.out; omega) (by have := HBH.out; omega)))
                by_cases hlj : j < nn
                · obtain ⟨l, hjl⟩ : ∃ l, ns[j]? = some l := ⟨ns[j]'(by rw [HNN.out]; exact hlj), List.getElem?_eq_getElem _⟩
                  have hlm := List.mem_of_getElem? hjl
                  obtain ⟨i, hi⟩ := Option.isSome_iff_exists.1 ((HMEM.out l).1 hlm)
                  have hls := HSHORT.out l hlm
                  obtain ⟨g, gc, cur, e, hge, hgc, _⟩ := HROW.out.2.resolve_left (by rintro ⟨_, h0⟩; omega)
                  cases e
                  have hcw : wN.cell? ⟨g, j, none⟩ = some (.string (mk l)) := by
                    have := HROW.out.cells (g := g) rfl j (.string (mk l)) (by simp [strV, hjl])
                    rwa [Go.WideShapes.add_plain, Nat.zero_add] at this
                  have hcj : wr.cell? ⟨g, j, none⟩ = some (.string (mk l)) := (HBJ.out.cell (a := ⟨g, j, none⟩) (lt_of_some hgc) (show g ≠ bh by have := HBH.out; omega) (show g ≠ bc by have := HBH.out; omega)).trans hcw
                  have hrd := read_some (l := l) hdJ hls hup hi
                  have hTi := HTJ.out.time i (ref_now hi)
                  have hTh := HTJ.out.has i (ref_now hi)
                  have hTn := HTJ.out.note (ref_now hi)
                  obtain ⟨y, hy⟩ : ∃ y, (dA.files i).bytes = y := ⟨_, rfl⟩
                  obtain ⟨T, hT⟩ : ∃ T, (dA.files i).time = T := ⟨_, rfl⟩
                  have hst := fun W (hb : Below wr.heap.size wr W) => stat_some (l := l) (hdJ.since hb) hls hup hi
                  rw [hy, hT] at hst
                  rw [hT] at hTi
                  rw [hy, hT] at hTh hTn
                  rw [hy] at hrd
                  obtain ⟨yl, hyl⟩ : ∃ k, y.length = k := ⟨_, rfl⟩
                  have HYL := Lib.hid hyl
                  rw [hyl] at hst
                  simp only [hyl] at hrd
                  have HST := Lib.hid hst
                  have HTH := Lib.hid hTh
                  have HTN := Lib.hid hTn
                  have HG := Lib.hid hgc
                  have HCW := Lib.hid hcw
                  have HLS := Lib.hid hls
                  have hT1 := hTi.1
                  clear hlm hls hgc hcw hi hyl hst hTh hTn hT hy hTi hjl hdJ
                  go_wp2_with fail
                  refine hrd.mono ?_
                  rintro e wB ⟨u, rfl, hrw, hbB⟩
                  have hst := HST.out wB hbB
                  obtain ⟨ua, uc, rfl⟩ := row_len hrw
                  have hcB : wB.cell? ⟨g, j, none⟩ = some (.string (mk l)) := (hbB.cell (p := ⟨g, j, none⟩) (lt_of_cell' hcj)).trans hcj
                  have HRW := Lib.hid hrw
                  have HBB := Lib.hid hbB
                  have HRB := Lib.hid (HRJ.out.below hbB)
                  have HLB := Lib.hid HRJ.out.lb
                  clear hrd hrw hbB HST HRJ
                  go_wp2_with fail
                  refine hst.mono ?_
                  rintro e wC ⟨rfl, hbC⟩
                  clear hst
                  obtain ⟨wD, hwD⟩ : ∃ W, wC.alloc (.cells #[.int .i64 yl, .int .i64 T] 36) = W := ⟨_, rfl⟩
                  have hbD : Below wB.heap.size wB wD := by rw [← hwD]; exact hbC.trans ((below_alloc wC _).mono hbC.size)
                  have cs1 : wD.cell? ⟨wC.heap.size, 1, none⟩ = some (.int .i64 T) := by rw [← hwD]; exact cell_at_new _ _ _ _ _ rfl
                  have hrD := HRB.out.below hbD
                  have hbJD : But bh bc wN wD := HBJ.out.trans ((But.of_below HBB.out).trans (But.of_below hbD))
                  have hcv := conv_b (row_bytes (base := wr.heap.size) (by rw [HYL.out]; exact HRW.out) |>.below hbD)
                  have hcvN := fun (k : Nat) => conv_b ((row_bytes (base := wr.heap.size) (by rw [HYL.out]; exact HRW.out) |>.below hbD).drewN (w' := wD.drewN k) rfl)
                  have HBD := Lib.hid hbD
                  have HRD := Lib.hid hrD
                  have HJD := Lib.hid hbJD
                  have hltD : wC.heap.size < wD.heap.size := by rw [← hwD]; simp
                  have HLC := Lib.hid (show wr.heap.size ≤ wC.heap.size from Nat.le_trans HBB.out.size hbC.size)
                  clear hbD hrD hbJD hbC HRB
                  by_cases hT2 : T < 2000
                  · have hh := HRD.out.had T hT2
                    obtain ⟨gg, hg, hgg⟩ := HRD.out.con T hT2
                    have hf1 := HRD.out.fb T
                    have hf2 := HRD.out.fc T
                    cases hRT : R' T with
                    | none =>
                      rw [hRT] at hh
                      clear hgg hRT
                      go_wp2_with fail
                      go_quiet (fail)
                      go_wp2_with fail
                      obtain ⟨wE, hwE⟩ : ∃ W, wD.drewN nq = W := ⟨_, rfl⟩
                      obtain ⟨w2, hw2⟩ : ∃ W, wE.drew = W := ⟨_, rfl⟩
                      have hwE2 : wE.heap = wD.heap ∧ wE.os = wD.os ∧ wE.tape = wD.tape ∧ wE.output = wD.output := by rw [← hwE]; exact ⟨rfl, rfl, rfl, rfl⟩
                      obtain ⟨he1, he2, he3, he4⟩ := hwE2
                      rw [hwE]
                      have hR2 : Arr w2 bh bc R' := by rw [← hw2]; exact HRD.out.kept (by show _ ≤ wE.heap.size; rw [he1]; exact Nat.le_refl _) (by show wE.heap[_]? = _; rw [he1]) (by show wE.heap[_]? = _; rw [he1])
                      have hlbr : bh < wr.heap.size ∧ bc < wr.heap.size := ⟨HLB.out, by have := HLB.out; have := HBH.out; omega⟩
                      have hS : ∀ W, But bh bc w2 W → W.cell? ⟨wC.heap.size, 1, none⟩ = some (.int .i64 T) ∧ (convert 23 9 (.slice ua yl uc)).run Try.prog W = .ok (.string (Go.Proofs.Ytdgfnhgkncfmpaa.mk y)) W := fun W hW => by
                        have hW2 : But bh bc wD W := But.trans (by rw [← hw2]; exact ⟨he2, he3, he4, by show _ ≤ wE.heap.size; rw [he1]; exact Nat.le_refl _, fun k _ _ _ => by show wE.heap[k]? = _; rw [he1]⟩) hW
                        have hwc : wr.heap.size ≤ wC.heap.size := HLC.out
                        refine ⟨(hW2.cell (a := ⟨wC.heap.size, 1, none⟩) hltD (show wC.heap.size ≠ bh by have := HBH.out; omega) (show wC.heap.size ≠ bc by have := HBH.out; omega)).trans cs1, ?_⟩
                        refine conv_b ((row_bytes (base := wr.heap.size) (by rw [HYL.out]; exact HRW.out) |>.below HBD.out).kept hW2.size fun k hk hlt => hW2.block k hlt ?_ ?_)
                        · have := own_ge HRW.out hk; have := HBH.out; omega
                        · have := own_ge HRW.out hk; have := HBH.out; omega
                      obtain ⟨y1, y2, y3, y4, ⟨y5, y6⟩, ⟨y7, y8⟩⟩ := hR2.two hT2 y
                      have c1 := hS w2 (But.refl _ _ _)
                      have c2 := hS _ (But.setb (b := bh) (c := bc) w2 T (.bool true))
                      have c3 := hS _ (But.setc (b := bh) (c := bc) w2 T (.string (Go.Proofs.Ytdgfnhgkncfmpaa.mk y)))
                      have c4 := hS _ y6
                      have c5 := hS _ y8
                      have x2 := hR2.had T hT2
                      obtain ⟨g2, x3, _⟩ := hR2.con T hT2
                      have x4 := hR2.fb T
                      have x5 := hR2.fc T
                      rw [x3] at y1
                      rw [x2] at y3
                      have hJ2 : But bh bc wN w2 := HJD.out.trans (by rw [← hw2]; exact ⟨he2, he3, he4, by show _ ≤ wE.heap.size; rw [he1]; exact Nat.le_refl _, fun k _ _ _ => by show wE.heap[k]? = _; rw [he1]⟩)
                      have Y5 := Lib.hid y5
                      have Y6 := Lib.hid (hJ2.trans y6)
                      have Y7 := Lib.hid y7
                      have Y8 := Lib.hid (hJ2.trans y8)
                      clear hR2 y5 y6 y7 y8 hJ2 cs1 hh hg hf1 hf2 hcv hcvN hltD hcB hcj hS hlbr he1 he2 he3 he4 hwE
                      subst hw2
                      have x2' : wE.cell? ⟨bh, T, none⟩ = some (.bool (R' T).isSome) := x2
                      have x3' : wE.cell? ⟨bc, T, none⟩ = some (.string (Go.Proofs.Ytdgfnhgkncfmpaa.mk g2)) := x3
                      have x4' : wE.frozen? ⟨bh, T, none⟩ = false := x4
                      have x5' : wE.frozen? ⟨bc, T, none⟩ = false := x5
                      have hne1 := HNE1.out
                      have hne2 := HNE2.out
                      go_region_held3 (fun w' => w'.cell? ⟨wC.heap.size, 1, none⟩ = some (.int .i64 T) ∧ (convert 23 9 (.slice ua yl uc)).run Try.prog w' = .ok (.string (Go.Proofs.Ytdgfnhgkncfmpaa.mk y)) w') (first | exact c1 | exact c2 | exact c3 | exact c4 | exact c5) (fail)
                      go_wp2
                      go_roundw
                      case rel => exact ⟨j + 1, by omega, by go_num, _, HTN, Y5, Y6⟩
                      case measure => simp [intOf]; omega
                    | some z =>
                      have hz : z = y := HTH.out z hRT
                      have hgy : gg = y := (hgg z hRT).trans hz
                      rw [hRT] at hh
                      rw [hgy] at hg
                      clear hgg hRT hz hgy
                      go_wp2_with fail
                      go_quiet (fail)
                      go_wp2_with fail
                      obtain ⟨wE, hwE⟩ : ∃ W, wD.drewN nq = W := ⟨_, rfl⟩
                      obtain ⟨w2, hw2⟩ : ∃ W, wE.drew = W := ⟨_, rfl⟩
                      have hwE2 : wE.heap = wD.heap ∧ wE.os = wD.os ∧ wE.tape = wD.tape ∧ wE.output = wD.output := by rw [← hwE]; exact ⟨rfl, rfl, rfl, rfl⟩
                      obtain ⟨he1, he2, he3, he4⟩ := hwE2
                      rw [hwE]
                      have hR2 : Arr w2 bh bc R' := by rw [← hw2]; exact HRD.out.kept (by show _ ≤ wE.heap.size; rw [he1]; exact Nat.le_refl _) (by show wE.heap[_]? = _; rw [he1]) (by show wE.heap[_]? = _; rw [he1])
                      have hlbr : bh < wr.heap.size ∧ bc < wr.heap.size := ⟨HLB.out, by have := HLB.out; have := HBH.out; omega⟩
                      have hS : ∀ W, But bh bc w2 W → W.cell? ⟨wC.heap.size, 1, none⟩ = some (.int .i64 T) ∧ (convert 23 9 (.slice ua yl uc)).run Try.prog W = .ok (.string (Go.Proofs.Ytdgfnhgkncfmpaa.mk y)) W := fun W hW => by
                        have hW2 : But bh bc wD W := But.trans (by rw [← hw2]; exact ⟨he2, he3, he4, by show _ ≤ wE.heap.size; rw [he1]; exact Nat.le_refl _, fun k _ _ _ => by show wE.heap[k]? = _; rw [he1]⟩) hW
                        have hwc : wr.heap.size ≤ wC.heap.size := HLC.out
                        refine ⟨(hW2.cell (a := ⟨wC.heap.size, 1, none⟩) hltD (show wC.heap.size ≠ bh by have := HBH.out; omega) (show wC.heap.size ≠ bc by have := HBH.out; omega)).trans cs1, ?_⟩
                        refine conv_b ((row_bytes (base := wr.heap.size) (by rw [HYL.out]; exact HRW.out) |>.below HBD.out).kept hW2.size fun k hk hlt => hW2.block k hlt ?_ ?_)
                        · have := own_ge HRW.out hk; have := HBH.out; omega
                        · have := own_ge HRW.out hk; have := HBH.out; omega
                      obtain ⟨y1, y2, y3, y4, ⟨y5, y6⟩, ⟨y7, y8⟩⟩ := hR2.two hT2 y
                      have c1 := hS w2 (But.refl _ _ _)
                      have c2 := hS _ (But.setb (b := bh) (c := bc) w2 T (.bool true))
                      have c3 := hS _ (But.setc (b := bh) (c := bc) w2 T (.string (Go.Proofs.Ytdgfnhgkncfmpaa.mk y)))
                      have c4 := hS _ y6
                      have c5 := hS _ y8
                      have x2 := hR2.had T hT2
                      obtain ⟨g2, x3, _⟩ := hR2.con T hT2
                      have x4 := hR2.fb T
                      have x5 := hR2.fc T
                      rw [x3] at y1
                      rw [x2] at y3
                      have hJ2 : But bh bc wN w2 := HJD.out.trans (by rw [← hw2]; exact ⟨he2, he3, he4, by show _ ≤ wE.heap.size; rw [he1]; exact Nat.le_refl _, fun k _ _ _ => by show wE.heap[k]? = _; rw [he1]⟩)
                      have Y5 := Lib.hid y5
                      have Y6 := Lib.hid (hJ2.trans y6)
                      have Y7 := Lib.hid y7
                      have Y8 := Lib.hid (hJ2.trans y8)
                      clear hR2 y5 y6 y7 y8 hJ2 cs1 hh hg hf1 hf2 hcv hcvN hltD hcB hcj hS hlbr he1 he2 he3 he4 hwE
                      subst hw2
                      have x2' : wE.cell? ⟨bh, T, none⟩ = some (.bool (R' T).isSome) := x2
                      have x3' : wE.cell? ⟨bc, T, none⟩ = some (.string (Go.Proofs.Ytdgfnhgkncfmpaa.mk g2)) := x3
                      have x4' : wE.frozen? ⟨bh, T, none⟩ = false := x4
                      have x5' : wE.frozen? ⟨bc, T, none⟩ = false := x5
                      have hne1 := HNE1.out
                      have hne2 := HNE2.out
                      go_region_held3 (fun w' => w'.cell? ⟨wC.heap.size, 1, none⟩ = some (.int .i64 T) ∧ (convert 23 9 (.slice ua yl uc)).run Try.prog w' = .ok (.string (Go.Proofs.Ytdgfnhgkncfmpaa.mk y)) w') (first | exact c1 | exact c2 | exact c3 | exact c4 | exact c5) (fail)
                      go_wp2
                      go_roundw
                      case rel => exact ⟨j + 1, by omega, by go_num, _, HTN, Y5, Y6⟩
                      case measure => simp [intOf]; omega
                  · go_wp2
                    go_ret
                    exact ⟨rfl, hbJ.trans ((HBB.out.trans (HBD.out.mono HBB.out.size)).mono hbJ.size)⟩
                · obtain rfl : j = nn := by have := HBH.out; omega
                  go_wp2
                  go_roundw
                  case rel => exact ⟨k + 1, by have := HBH.out; omega, by go_num, dA, R', Lib.hid (hdJ.mono (by have := HBH.out; omega)), HTJ, HRJ, Lib.hid hbJ⟩
                  case measure => simp [intOf]; omega
          · have hm6 : m < 7 := by omega
            have hde := lawDeed_c m hm6 HD.out (by omega) x.what x.num (s := x.s) (t := x.t) (by have := HLX.out.1; omega) (by have := HLX.out.2.1; omega) (by have := HLX.out.2.2.1; omega) (R4.out.below HBR.out) (fun k hk => HXO.out _ (R4.out.lt hk)) a5 L5 n5
            rw [E4.out] at hde
            have b7 : ((m : Int) == 7) = false := by simp; omega
            have b8 : ((m : Int) == 8) = false := by simp; omega
            clear HD
            go_wp2_with fail
            refine hde.mono ?_
            rintro e wA ⟨nA, dA, rfl, hsA, hdA, hqA⟩
            have HDA := Lib.hid (hdA.mono (show _ ≤ 4 * k + 4 by omega))
            have HTA := Lib.hid (timed_deed HT.out hqA)
            have HRA := Lib.hid (HR.out.same hsA HX4.out HX3.out)
            have HBA := Lib.hid (HBR.out.trans (hsA.below HBR.out.size HXO.out))
            clear hde hsA hdA hqA HT HR HBR k0 k1 k2 k3 k4 k5
            cases hup : dA.up with
            | false =>
              have hnm := names_down_ok HDA.out hup
              go_wp2_with fail
              refine hnm.mono ?_
              rintro e wN ⟨rfl, rfl⟩
              clear hnm
              go_wp2_with fail
              refine wp_loop_rounds 1 ?_
              rw [rounds_succ]
              go_wp2
              go_roundw
              case rel => exact ⟨k + 1, by have := HBH.out; omega, by go_num, _, _, Lib.hid (HDA.out.mono (by have := HBH.out; omega)), HTA, HRA, HBA⟩
              case measure => simp [intOf]; omega
            | true =>
              have hnm := names_ok HDA.out hup (by have := HBH.out; omega)
              go_wp2_with fail
              refine hnm.mono ?_
              rintro e wN ⟨v, ns, rfl, hrow, ⟨_, hmem, hshort, hnsl⟩, hbN⟩
              clear hnm
              obtain ⟨na, nc, rfl⟩ := row_len hrow
              obtain ⟨nn, hnn⟩ : ∃ k, ns.length = k := ⟨_, rfl⟩
              rw [hnn] at hrow
              have HNN := Lib.hid hnn
              have hnnb : nn ≤ 1000 := by rw [← hnn]; omega
              have HROW := Lib.hid hrow
              have HMEM := Lib.hid hmem
              have HSHORT := Lib.hid hshort
              have HBN := Lib.hid hbN
              have HDN := Lib.hid (HDA.out.frame (w' := wN) hbN.size (fun k hk _ => hbN.block k hk) (fun _ _ h => h) (fun k h => Nat.lt_of_lt_of_le (by obtain ⟨q, hq⟩ := HDA.out; exact hq.inX k h) hbN.size))
              have HRN := Lib.hid (HRA.out.below hbN)
              have hlA : bh < wA.heap.size := HRA.out.lb
              clear hrow hmem hshort hbN HRA
              simp only [hnn]
              clear hnn
              go_wp2_with fail
              go_loopw [10] (fun v wr => ∃ j : Nat, j ≤ nn ∧ v = .int .i64 j ∧ ∃ R, Hid (Timed R dA) ∧ Hid (Arr wr bh bc R) ∧ Hid (But bh bc wN wr)) (fun v _ => nn - (intOf v).toNat)
              case atStart => exact ⟨0, Nat.zero_le _, rfl, _, HTA, HRN, Lib.hid (But.refl _ _ _)⟩
              case round =>
                obtain ⟨j, hj, rfl, R', HTJ, HRJ, HBJ⟩ := hrel
                clear HTA HRN
                have hdJ := HDN.out.frame (w' := wr) HBJ.out.size (fun k hk hX => HBJ.out.block k hk (fun e => hX (e ▸ HX4.out)) (fun e => hX (e ▸ HX3.out))) (fun _ _ h => h) (fun k h => Nat.lt_of_lt_of_le (by obtain ⟨q, hq⟩ := HDN.out; exact hq.inX k h) HBJ.out.size)
                have hbJ : Below w.heap.size w wr := HBA.out.trans ((HBN.out.mono HBA.out.size).trans (HBJ.out.below (Nat.le_trans HBA.out.size HBN.out.size) (by have := HBH.out; omega) (by have := HBH.out; omega)))
                by_cases hlj : j < nn
                · obtain ⟨l, hjl⟩ : ∃ l, ns[j]? = some l := ⟨ns[j]'(by rw [HNN.out]; exact hlj), List.getElem?_eq_getElem _⟩
                  have hlm := List.mem_of_getElem? hjl
                  obtain ⟨i, hi⟩ := Option.isSome_iff_exists.1 ((HMEM.out l).1 hlm)
                  have hls := HSHORT.out l hlm
                  obtain ⟨g, gc, cur, e, hge, hgc, _⟩ := HROW.out.2.resolve_left (by rintro ⟨_, h0⟩; omega)
                  cases e
                  have hcw : wN.cell? ⟨g, j, none⟩ = some (.string (mk l)) := by
                    have := HROW.out.cells (g := g) rfl j (.string (mk l)) (by simp [strV, hjl])
                    rwa [Go.WideShapes.add_plain, Nat.zero_add] at this
                  have hcj : wr.cell? ⟨g, j, none⟩ = some (.string (mk l)) := (HBJ.out.cell (a := ⟨g, j, none⟩) (lt_of_some hgc) (show g ≠ bh by have := HBH.out; omega) (show g ≠ bc by have := HBH.out; omega)).trans hcw
                  have hrd := read_some (l := l) hdJ hls hup hi
                  have hTi := HTJ.out.time i (ref_now hi)
                  have hTh := HTJ.out.has i (ref_now hi)
                  have hTn := HTJ.out.note (ref_now hi)
                  obtain ⟨y, hy⟩ : ∃ y, (dA.files i).bytes = y := ⟨_, rfl⟩
                  obtain ⟨T, hT⟩ : ∃ T, (dA.files i).time = T := ⟨_, rfl⟩
                  have hst := fun W (hb : Below wr.heap.size wr W) => stat_some (l := l) (hdJ.since hb) hls hup hi
                  rw [hy, hT] at hst
                  rw [hT] at hTi
                  rw [hy, hT] at hTh hTn
                  rw [hy] at hrd
                  obtain ⟨yl, hyl⟩ : ∃ k, y.length = k := ⟨_, rfl⟩
                  have HYL := Lib.hid hyl
                  rw [hyl] at hst
                  simp only [hyl] at hrd
                  have HST := Lib.hid hst
                  have HTH := Lib.hid hTh
                  have HTN := Lib.hid hTn
                  have HG := Lib.hid hgc
                  have HCW := Lib.hid hcw
                  have HLS := Lib.hid hls
                  have hT1 := hTi.1
                  clear hlm hls hgc hcw hi hyl hst hTh hTn hT hy hTi hjl hdJ
                  go_wp2_with fail
                  refine hrd.mono ?_
                  rintro e wB ⟨u, rfl, hrw, hbB⟩
                  have hst := HST.out wB hbB
                  obtain ⟨ua, uc, rfl⟩ := row_len hrw
                  have hcB : wB.cell? ⟨g, j, none⟩ = some (.string (mk l)) := (hbB.cell (p := ⟨g, j, none⟩) (lt_of_cell' hcj)).trans hcj
                  have HRW := Lib.hid hrw
                  have HBB := Lib.hid hbB
                  have HRB := Lib.hid (HRJ.out.below hbB)
                  have HLB := Lib.hid HRJ.out.lb
                  clear hrd hrw hbB HST HRJ
                  go_wp2_with fail
                  refine hst.mono ?_
                  rintro e wC ⟨rfl, hbC⟩
                  clear hst
                  obtain ⟨wD, hwD⟩ : ∃ W, wC.alloc (.cells #[.int .i64 yl, .int .i64 T] 36) = W := ⟨_, rfl⟩
                  have hbD : Below wB.heap.size wB wD := by rw [← hwD]; exact hbC.trans ((below_alloc wC _).mono hbC.size)
                  have cs1 : wD.cell? ⟨wC.heap.size, 1, none⟩ = some (.int .i64 T) := by rw [← hwD]; exact cell_at_new _ _ _ _ _ rfl
                  have hrD := HRB.out.below hbD
                  have hbJD : But bh bc wN wD := HBJ.out.trans ((But.of_below HBB.out).trans (But.of_below hbD))
                  have hcv := conv_b (row_bytes (base := wr.heap.size) (by rw [HYL.out]; exact HRW.out) |>.below hbD)
                  have hcvN := fun (k : Nat) => conv_b ((row_bytes (base := wr.heap.size) (by rw [HYL.out]; exact HRW.out) |>.below hbD).drewN (w' := wD.drewN k) rfl)
                  have HBD := Lib.hid hbD
                  have HRD := Lib.hid hrD
                  have HJD := Lib.hid hbJD
                  have hltD : wC.heap.size < wD.heap.size := by rw [← hwD]; simp
                  have HLC := Lib.hid (show wr.heap.size ≤ wC.heap.size from Nat.le_trans HBB.out.size hbC.size)
                  clear hbD hrD hbJD hbC HRB
                  by_cases hT2 : T < 2000
                  · have hh := HRD.out.had T hT2
                    obtain ⟨gg, hg, hgg⟩ := HRD.out.con T hT2
                    have hf1 := HRD.out.fb T
                    have hf2 := HRD.out.fc T
                    cases hRT : R' T with
                    | none =>
                      rw [hRT] at hh
                      clear hgg hRT
                      go_wp2_with fail
                      go_quiet (fail)
                      go_wp2_with fail
                      obtain ⟨wE, hwE⟩ : ∃ W, wD.drewN nq = W := ⟨_, rfl⟩
                      obtain ⟨w2, hw2⟩ : ∃ W, wE.drew = W := ⟨_, rfl⟩
                      have hwE2 : wE.heap = wD.heap ∧ wE.os = wD.os ∧ wE.tape = wD.tape ∧ wE.output = wD.output := by rw [← hwE]; exact ⟨rfl, rfl, rfl, rfl⟩
                      obtain ⟨he1, he2, he3, he4⟩ := hwE2
                      rw [hwE]
                      have hR2 : Arr w2 bh bc R' := by rw [← hw2]; exact HRD.out.kept (by show _ ≤ wE.heap.size; rw [he1]; exact Nat.le_refl _) (by show wE.heap[_]? = _; rw [he1]) (by show wE.heap[_]? = _; rw [he1])
                      have hlbr : bh < wr.heap.size ∧ bc < wr.heap.size := ⟨HLB.out, by have := HLB.out; have := HBH.out; omega⟩
                      have hS : ∀ W, But bh bc w2 W → W.cell? ⟨wC.heap.size, 1, none⟩ = some (.int .i64 T) ∧ (convert 23 9 (.slice ua yl uc)).run Try.prog W = .ok (.string (Go.Proofs.Ytdgfnhgkncfmpaa.mk y)) W := fun W hW => by
                        have hW2 : But bh bc wD W := But.trans (by rw [← hw2]; exact ⟨he2, he3, he4, by show _ ≤ wE.heap.size; rw [he1]; exact Nat.le_refl _, fun k _ _ _ => by show wE.heap[k]? = _; rw [he1]⟩) hW
                        have hwc : wr.heap.size ≤ wC.heap.size := HLC.out
                        refine ⟨(hW2.cell (a := ⟨wC.heap.size, 1, none⟩) hltD (show wC.heap.size ≠ bh by have := HBH.out; omega) (show wC.heap.size ≠ bc by have := HBH.out; omega)).trans cs1, ?_⟩
                        refine conv_b ((row_bytes (base := wr.heap.size) (by rw [HYL.out]; exact HRW.out) |>.below HBD.out).kept hW2.size fun k hk hlt => hW2.block k hlt ?_ ?_)
                        · have := own_ge HRW.out hk; have := HBH.out; omega
                        · have := own_ge HRW.out hk; have := HBH.out; omega
                      obtain ⟨y1, y2, y3, y4, ⟨y5, y6⟩, ⟨y7, y8⟩⟩ := hR2.two hT2 y
                      have c1 := hS w2 (But.refl _ _ _)
                      have c2 := hS _ (But.setb (b := bh) (c := bc) w2 T (.bool true))
                      have c3 := hS _ (But.setc (b := bh) (c := bc) w2 T (.string (Go.Proofs.Ytdgfnhgkncfmpaa.mk y)))
                      have c4 := hS _ y6
                      have c5 := hS _ y8
                      have x2 := hR2.had T hT2
                      obtain ⟨g2, x3, _⟩ := hR2.con T hT2
                      have x4 := hR2.fb T
                      have x5 := hR2.fc T
                      rw [x3] at y1
                      rw [x2] at y3
                      have hJ2 : But bh bc wN w2 := HJD.out.trans (by rw [← hw2]; exact ⟨he2, he3, he4, by show _ ≤ wE.heap.size; rw [he1]; exact Nat.le_refl _, fun k _ _ _ => by show wE.heap[k]? = _; rw [he1]⟩)
                      have Y5 := Lib.hid y5
                      have Y6 := Lib.hid (hJ2.trans y6)
                      have Y7 := Lib.hid y7
                      have Y8 := Lib.hid (hJ2.trans y8)
                      clear hR2 y5 y6 y7 y8 hJ2 cs1 hh hg hf1 hf2 hcv hcvN hltD hcB hcj hS hlbr he1 he2 he3 he4 hwE
                      subst hw2
                      have x2' : wE.cell? ⟨bh, T, none⟩ = some (.bool (R' T).isSome) := x2
                      have x3' : wE.cell? ⟨bc, T, none⟩ = some (.string (Go.Proofs.Ytdgfnhgkncfmpaa.mk g2)) := x3
                      have x4' : wE.frozen? ⟨bh, T, none⟩ = false := x4
                      have x5' : wE.frozen? ⟨bc, T, none⟩ = false := x5
                      have hne1 := HNE1.out
                      have hne2 := HNE2.out
                      go_region_held3 (fun w' => w'.cell? ⟨wC.heap.size, 1, none⟩ = some (.int .i64 T) ∧ (convert 23 9 (.slice ua yl uc)).run Try.prog w' = .ok (.string (Go.Proofs.Ytdgfnhgkncfmpaa.mk y)) w') (first | exact c1 | exact c2 | exact c3 | exact c4 | exact c5) (fail)
                      go_wp2
                      go_roundw
                      case rel => exact ⟨j + 1, by omega, by go_num, _, HTN, Y5, Y6⟩
                      case measure => simp [intOf]; omega
                    | some z =>
                      have hz : z = y := HTH.out z hRT
                      have hgy : gg = y := (hgg z hRT).trans hz
                      rw [hRT] at hh
                      rw [hgy] at hg
                      clear hgg hRT hz hgy
                      go_wp2_with fail
                      go_quiet (fail)
                      go_wp2_with fail
                      obtain ⟨wE, hwE⟩ : ∃ W, wD.drewN nq = W := ⟨_, rfl⟩
                      obtain ⟨w2, hw2⟩ : ∃ W, wE.drew = W := ⟨_, rfl⟩
                      have hwE2 : wE.heap = wD.heap ∧ wE.os = wD.os ∧ wE.tape = wD.tape ∧ wE.output = wD.output := by rw [← hwE]; exact ⟨rfl, rfl, rfl, rfl⟩
                      obtain ⟨he1, he2, he3, he4⟩ := hwE2
                      rw [hwE]
                      have hR2 : Arr w2 bh bc R' := by rw [← hw2]; exact HRD.out.kept (by show _ ≤ wE.heap.size; rw [he1]; exact Nat.le_refl _) (by show wE.heap[_]? = _; rw [he1]) (by show wE.heap[_]? = _; rw [he1])
                      have hlbr : bh < wr.heap.size ∧ bc < wr.heap.size := ⟨HLB.out, by have := HLB.out; have := HBH.out; omega⟩
                      have hS : ∀ W, But bh bc w2 W → W.cell? ⟨wC.heap.size, 1, none⟩ = some (.int .i64 T) ∧ (convert 23 9 (.slice ua yl uc)).run Try.prog W = .ok (.string (Go.Proofs.Ytdgfnhgkncfmpaa.mk y)) W := fun W hW => by
                        have hW2 : But bh bc wD W := But.trans (by rw [← hw2]; exact ⟨he2, he3, he4, by show _ ≤ wE.heap.size; rw [he1]; exact Nat.le_refl _, fun k _ _ _ => by show wE.heap[k]? = _; rw [he1]⟩) hW
                        have hwc : wr.heap.size ≤ wC.heap.size := HLC.out
                        refine ⟨(hW2.cell (a := ⟨wC.heap.size, 1, none⟩) hltD (show wC.heap.size ≠ bh by have := HBH.out; omega) (show wC.heap.size ≠ bc by have := HBH.out; omega)).trans cs1, ?_⟩
                        refine conv_b ((row_bytes (base := wr.heap.size) (by rw [HYL.out]; exact HRW.out) |>.below HBD.out).kept hW2.size fun k hk hlt => hW2.block k hlt ?_ ?_)
                        · have := own_ge HRW.out hk; have := HBH.out; omega
                        · have := own_ge HRW.out hk; have := HBH.out; omega
                      obtain ⟨y1, y2, y3, y4, ⟨y5, y6⟩, ⟨y7, y8⟩⟩ := hR2.two hT2 y
                      have c1 := hS w2 (But.refl _ _ _)
                      have c2 := hS _ (But.setb (b := bh) (c := bc) w2 T (.bool true))
                      have c3 := hS _ (But.setc (b := bh) (c := bc) w2 T (.string (Go.Proofs.Ytdgfnhgkncfmpaa.mk y)))
                      have c4 := hS _ y6
                      have c5 := hS _ y8
                      have x2 := hR2.had T hT2
                      obtain ⟨g2, x3, _⟩ := hR2.con T hT2
                      have x4 := hR2.fb T
                      have x5 := hR2.fc T
                      rw [x3] at y1
                      rw [x2] at y3
                      have hJ2 : But bh bc wN w2 := HJD.out.trans (by rw [← hw2]; exact ⟨he2, he3, he4, by show _ ≤ wE.heap.size; rw [he1]; exact Nat.le_refl _, fun k _ _ _ => by show wE.heap[k]? = _; rw [he1]⟩)
                      have Y5 := Lib.hid y5
                      have Y6 := Lib.hid (hJ2.trans y6)
                      have Y7 := Lib.hid y7
                      have Y8 := Lib.hid (hJ2.trans y8)
                      clear hR2 y5 y6 y7 y8 hJ2 cs1 hh hg hf1 hf2 hcv hcvN hltD hcB hcj hS hlbr he1 he2 he3 he4 hwE
                      subst hw2
                      have x2' : wE.cell? ⟨bh, T, none⟩ = some (.bool (R' T).isSome) := x2
                      have x3' : wE.cell? ⟨bc, T, none⟩ = some (.string (Go.Proofs.Ytdgfnhgkncfmpaa.mk g2)) := x3
                      have x4' : wE.frozen? ⟨bh, T, none⟩ = false := x4
                      have x5' : wE.frozen? ⟨bc, T, none⟩ = false := x5
                      have hne1 := HNE1.out
                      have hne2 := HNE2.out
                      go_region_held3 (fun w' => w'.cell? ⟨wC.heap.size, 1, none⟩ = some (.int .i64 T) ∧ (convert 23 9 (.slice ua yl uc)).run Try.prog w' = .ok (.string (Go.Proofs.Ytdgfnhgkncfmpaa.mk y)) w') (first | exact c1 | exact c2 | exact c3 | exact c4 | exact c5) (fail)
                      go_wp2
                      go_roundw
                      case rel => exact ⟨j + 1, by omega, by go_num, _, HTN, Y5, Y6⟩
                      case measure => simp [intOf]; omega
                  · go_wp2
                    go_ret
                    exact ⟨rfl, hbJ.trans ((HBB.out.trans (HBD.out.mono HBB.out.size)).mono hbJ.size)⟩
                · obtain rfl : j = nn := by have := HBH.out; omega
                  go_wp2
                  go_roundw
                  case rel => exact ⟨k + 1, by have := HBH.out; omega, by go_num, dA, R', Lib.hid (hdJ.mono (by have := HBH.out; omega)), HTJ, HRJ, Lib.hid hbJ⟩
                  case measure => simp [intOf]; omega
      · obtain rfl : k = xn := by omega
        have haw := awake_c wr
        go_wp2_with fail
        refine haw.mono ?_
        rintro e wE ⟨rfl, hbE⟩
        go_wp2
        go_ret
        exact ⟨rfl, HBR.out.trans (hbE.mono HBR.out.size)⟩
end Go.Proofs.Ytdgfnhgkncfmpaa
