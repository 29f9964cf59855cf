/-
  THE ACTS OF A LOG'S LIFE, OPENED; how they are walked.
-/
import Derived.Test.YtfmelhcpccghdaaGreatSureR
import Derived.Test.YtfmelhcpccghdaaGreatRlOpn
import Derived.Test.YtfmelhcpccghdaaGreatArgs
namespace Go.Proofs.YtfmelhcpccghdaaGreat.Rl
open Go.RowKit Go.Maps

variable {X Y Z : Nat → Prop} {K : Nat} {w w' : World} {p lp : Nat} {d : Ds}

structure Act2 where
  what : Int
  num : Int
  bs : List UInt8
  ts : List Int

structure Act2At (w : World) (b o : Nat) (x : Act2) : Prop where
  c0 : w.cell? ⟨b, o, none⟩ = some (.int .i64 x.what)
  c1 : w.cell? ⟨b, o + 1, none⟩ = some (.int .i64 x.num)
  c2 : ∃ a c, w.cell? ⟨b, o + 2, none⟩ = some (.slice a x.bs.length c) ∧ BRow w (.slice a x.bs.length c) x.bs ∧ (a = none → c = 0)
  c3 : ∃ a c, w.cell? ⟨b, o + 3, none⟩ = some (.slice a x.ts.length c) ∧ TRow w (.slice a x.ts.length c) x.ts
  r0 : -9223372036854775808 ≤ x.what ∧ x.what ≤ 9223372036854775807
  r1 : -9223372036854775808 ≤ x.num ∧ x.num ≤ 9223372036854775807
def Acts2 (w : World) (v : Value) (xs : List Act2) : Prop :=
  ∃ a cap, v = .slice a xs.length cap ∧ ∀ j x, xs[j]? = some x → ∃ b o, a = some ⟨b, o, none⟩ ∧ b < w.heap.size ∧ Act2At w b (o + j * 4) x

/-- what holds of the law's things at the c-th act -/
structure Life (w0 : World) (c : Nat) (Y : Nat → Prop) (w : World) (p lg : Nat) (d : Ds) (va : Value) (rs : List (List UInt8)) (s : Nat) : Prop where
  old : ∀ x, x < w0.heap.size → Y x
  below : Below w0.heap.size w0 w
  log : LogAt w lg p logN 7
  lgY : Y lg
  apart : ∀ k, va.ownBlock = some k → k ≠ lg
  rows : RowsY Y w0.heap.size w va rs
  cnt : rs.length ≤ c
  short : ∀ r ∈ rs, r.length ≤ 500
  sure : s ≤ rs.length
  quota : d.quota = 16777216
  clock : d.clock ≤ 40 + 40 * c
  deeds : d.deeds ≤ 40 + 40 * c
/-- either the log is there, or a rewriting that failed may have left another one -/
def Phase (w0 : World) (c : Nat) (Y : Nat → Prop) (w : World) (p : Nat) (d : Ds) (rs : List (List UInt8)) (s : Nat) (may : Bool) (vo : Value) : Prop :=
  (may = false ∧ Dk Y 6 w p d ∧ ∃ id, Lv logN (newN logN) 7 rs s d id) ∨
  (may = true ∧ Dk Y 20 w p d ∧ ∃ o, My logN (newN logN) 7 rs s o d ∧ RowsY Y w0.heap.size w vo o ∧ o.length ≤ c ∧ ∀ r ∈ o, r.length ≤ 500)
def Round (w0 : World) (c : Nat) (w : World) (p lg : Nat) (va : Value) (s : Nat) (may : Bool) (vo : Value) : Prop :=
  ∃ Y d rs, Life w0 c Y w p lg d va rs s ∧ Phase w0 c Y w p d rs s may vo

theorem Life.up {w0 : World} {c lg s : Nat} {va : Value} {rs : List (List UInt8)} (h : Life w0 c Y w p lg d va rs s) (hb : Below w.heap.size w w') : Life w0 c (Since Y w w') w' p lg d va rs s :=
  ⟨fun x hx => .inl (h.old x hx), h.below.trans (hb.mono h.below.size), h.log.below hb, .inl h.lgY, h.apart, (h.rows.same (Same.of_below hb)).more fun _ hx => .inl hx, h.cnt, h.short, h.sure, h.quota, h.clock, h.deeds⟩
theorem Phase.up {w0 : World} {c s : Nat} {may : Bool} {vo : Value} {rs : List (List UInt8)} (h : Phase w0 c Y w p d rs s may vo) (hb : Below w.heap.size w w') : Phase w0 c (Since Y w w') w' p d rs s may vo := by
  rcases h with ⟨h1, h2, h3⟩ | ⟨h1, h2, o, h3, h4, h5⟩
  · exact .inl ⟨h1, h2.since hb, h3⟩
  · exact .inr ⟨h1, h2.since hb, o, h3, (h4.same (Same.of_below hb)).more fun _ hx => .inl hx, h5⟩
/-- behind a call that leaves the law's things as they are -/
theorem Life.op {w0 : World} {c lg s : Nat} {va : Value} {d' : Ds} {rs : List (List UInt8)} (h : Life w0 c Y w p lg d va rs s) (hs : Same Y w w') (hn : Nr 30 d d') : Life w0 (c + 1) Y w' p lg d' va rs s :=
  ⟨h.old, h.below.trans (hs.below h.below.size h.old), h.log.same hs h.lgY, h.lgY, h.apart, h.rows.same hs, by have := h.cnt; omega, h.short, h.sure, hn.quota.trans h.quota, by have := h.clock; have := hn.clock; omega, by have := h.deeds; have := hn.deeds; omega⟩
theorem Life.small {w0 : World} {c lg s : Nat} {va : Value} {rs : List (List UInt8)} (h : Life w0 c Y w p lg d va rs s) (hc : c ≤ 61) : d.clock ≤ 3000 ∧ d.deeds ≤ 3000 := by
  have := h.clock
  have := h.deeds
  omega
theorem Phase.lv {w0 : World} {c s : Nat} {vo : Value} {rs : List (List UInt8)} (h : Phase w0 c Y w p d rs s false vo) : Dk Y 6 w p d ∧ ∃ id, Lv logN (newN logN) 7 rs s d id := by
  rcases h with ⟨_, h⟩ | ⟨h, _⟩
  · exact h
  · cases h
theorem Phase.my {w0 : World} {c s : Nat} {vo : Value} {rs : List (List UInt8)} (h : Phase w0 c Y w p d rs s true vo) : Dk Y 20 w p d ∧ ∃ o, My logN (newN logN) 7 rs s o d ∧ RowsY Y w0.heap.size w vo o ∧ o.length ≤ c ∧ ∀ r ∈ o, r.length ≤ 500 := by
  rcases h with ⟨h, _⟩ | ⟨_, h⟩
  · cases h
  · exact h
theorem phase_lv {w0 : World} {c id s : Nat} {vo : Value} {rs : List (List UInt8)} (h : Dk Y K w p d) (hL : Lv logN (newN logN) 7 rs s d id) (hc : d.clock ≤ 6001) (hd : d.deeds ≤ 6000) : Phase w0 c Y w p d rs s false vo := .inl ⟨rfl, lv_shrink h hL hc hd, id, hL⟩
theorem nr_arm (d : Ds) (n : Int) : Nr 30 d { d with left := n } := ⟨rfl, Nat.le_add_right _ _, Nat.le_add_right _ _⟩
/-- what does nothing -/
theorem Round.idle {w0 : World} {c lg s : Nat} {va vo : Value} {may : Bool} (h : Round w0 c w p lg va s may vo) (hb : Below w.heap.size w w') : Round w0 (c + 1) w' p lg va s may vo := by
  obtain ⟨Y, d, rs, h1, h2⟩ := h
  refine ⟨Since Y w w', d, rs, (h1.up hb).op (Same.refl _ _) ((Nr.refl d).mono (by omega)), ?_⟩
  rcases h2.up hb with ⟨h3, h4, h5⟩ | ⟨h3, h4, o, h5, h6, h7, h8⟩
  · exact .inl ⟨h3, h4, h5⟩
  · exact .inr ⟨h3, h4, o, h5, h6, by omega, h8⟩
/-- the law's row has a record more -/
theorem keep_round {w0 : World} {c lg s ac : Nat} {aa : Option Addr} {rs : List (List UInt8)} {r : List UInt8} {u vo : Value} (hcn : rs.length ≤ c) (h1 : Life w0 (c + 1) Y w p lg d (.slice aa rs.length ac) rs s) (h2 : Phase w0 (c + 1) Y w p d (rs ++ [r]) s false vo) (hr : r.length ≤ 500) (hc : c ≤ 61) (hb : Below w.heap.size w w') (hu : w'.ownsRow w.heap.size 5 1 u r.length (bytesV r)) :
    ∃ a' c' w2, (Builtin.append_ #[28, 28] 28 #[.slice aa rs.length ac, .slice (some ⟨w'.heap.size, 0, none⟩) 1 1]).run Tryz.prog (w'.alloc (.cells #[u] 31)) = .ok (.slice a' (rs.length + 1) c') w2 ∧ Round w0 (c + 1) w2 p lg (.slice a' (rs.length + 1) c') s false vo := by
  have hl := h1.up hb
  have hp := h2.up hb
  obtain ⟨hd, id, hL⟩ := hp.lv
  have huY : ∀ k, u.ownBlock = some k → Since Y w w' k := fun k hk => .inr (hu.lt k hk)
  have hbw := hl.below.size
  obtain ⟨a', c', w2, hrun, hrows, hsz, hkeep, hbel, hnew, ho, ht, hou⟩ := rowsY_app hl.rows (owns_mono1 hu (h1.below.size)) huY hbw (by omega)
  refine ⟨a', c', w2, hrun, Since (Since Y w w') w' w2, d, rs ++ [r], ⟨fun x hx => .inl (hl.old x hx), hl.below.trans hbel, hl.log.kept (hkeep lg hl.log.lt fun e => hl.apart lg e rfl), .inl hl.lgY, fun k hk => ?_, hrows, by simp; omega, fun x hx => ?_, by have := h1.sure; simp; omega, h1.quota, h1.clock, h1.deeds⟩, .inl ⟨rfl, ?_, id, hL⟩⟩
  · rcases hnew k hk with h | h
    · exact hl.apart k h
    · have := hl.log.lt; omega
  · rcases List.mem_append.1 hx with h | h
    · exact h1.short x h
    · rw [List.mem_singleton] at h; rw [h]; exact hr
  · have hvY := hl.rows
    obtain ⟨vs, _, hvY, _⟩ := hvY
    refine hd.frame hsz (fun k hk hY => hkeep k hk fun e => hY (hvY k e)) (fun k hk hY => ?_) (fun k hY => ?_)
    · rcases hY with hY | hY
      · exact hY
      · omega
    · rcases hY with hY | hY
      · exact Nat.lt_of_lt_of_le (dk_in hd k hY) hsz
      · exact hY.2
theorem Round.of_may {w0 : World} {c lg s : Nat} {va vo : Value} {may may' : Bool} (h : Round w0 c w p lg va s may vo) (e : may = may') : Round w0 c w p lg va s may' vo := e ▸ h
theorem rewrite_round {w0 : World} {c lg s on oc : Nat} {va vo : Value} {oa : Option Addr} {rs o : List (List UInt8)} (h1 : Life w0 c Y w p lg d va rs s) (h2 : Phase w0 c Y w p d rs s false vo) (hc : c ≤ 61)
    (hvo : RowsY Y w0.heap.size w (.slice oa on oc) o) (ho : o.length ≤ c) (hos : ∀ r ∈ o, r.length ≤ 500) (hap : ∀ k, Value.ownBlock (.slice oa on oc) = some k → k ≠ lg) :
    Calls Tryz.prog 10 #[.pointer (some ⟨lg, 0, none⟩), .slice oa on oc] w fun e w' => ∃ m, e = .returned (.int .i64 m) ∧
      ((m = 0 ∧ Round w0 (c + 1) w' p lg (.slice oa on oc) on false (.slice oa on oc)) ∨ (m ≠ 0 ∧ Round w0 (c + 1) w' p lg va s true (.slice oa on oc))) := by
  obtain ⟨hd, id, hL⟩ := h2.lv
  have hon := (Mat.at hvo.mat).1
  have hsh : Shorts o := fun r hr => by have := hos r hr; omega
  refine (rewrite_any hd (by omega) h1.log (by decide) (by omega) hvo.mat hsh).mono ?_
  rintro e w' ⟨m, d', he, hs, hd', hq⟩
  have hnr : Nr 30 d d' := (rewT_nr hq).mono (by omega)
  have hl := h1.op hs hnr
  obtain ⟨hk1, hk2⟩ := h1.small hc
  have hc1 : d'.clock ≤ 6001 := by have := hnr.clock; omega
  have hc2 : d'.deeds ≤ 6000 := by have := hnr.deeds; omega
  refine ⟨m, he, ?_⟩
  rcases lv_rewrite hL hsh (by decide) log_ne hq with ⟨hm, i, hL'⟩ | ⟨hm, hmy⟩
  · refine .inl ⟨hm, Y, d', o, ⟨hl.old, hl.below, hl.log, hl.lgY, hap, hvo.same hs, by omega, hos, by omega, hl.quota, hl.clock, hl.deeds⟩, ?_⟩
    rw [hon]
    exact phase_lv hd' hL' hc1 hc2
  · exact .inr ⟨hm, Y, d', rs, hl, .inr ⟨rfl, hd'.mono (by omega), o, hmy, hvo.same hs, by omega, hos⟩⟩
/-- a disk on which a log is found: its first records, or other ones -/
structure Found (Y : Nat → Prop) (w : World) (p : Nat) (d : Ds) (rs o : List (List UInt8)) (s : Nat) (may : Bool) : Prop where
  disk : Dk Y 8 w p d
  rdy : Rdy logN (newN logN) d
  ok : okHead 7 (bytesOf d logN)
  has : (∃ t, s ≤ t ∧ t ≤ rs.length ∧ scanRecs 7 (bytesOf d logN) = rs.take t) ∨ (may = true ∧ scanRecs 7 (bytesOf d logN) = o)
theorem found_of {o : List (List UInt8)} {s : Nat} {may : Bool} {rs : List (List UInt8)} (hd : Dk Y K w p d) (hF : Fnd logN (newN logN) 7 rs s o d) (hc : d.clock ≤ 6001) (hdd : d.deeds ≤ 6000) (ho : may = false → o = rs) : Found Y w p d rs o s may := by
  obtain ⟨h1, h2⟩ := fnd_recs hF
  refine ⟨(fnd_shrink hd hF hc hdd).mono (by omega), hF.rdy, h1, ?_⟩
  rcases h2 with h2 | h2
  · exact .inl h2
  · cases may with
    | true => exact .inr ⟨rfl, h2⟩
    | false => exact .inl ⟨rs.length, hF.le, Nat.le_refl _, by rw [h2, ho rfl, List.take_length]⟩
theorem found_lv {s id : Nat} {rs : List (List UInt8)} (hd : Dk Y 6 w p d) (hL : Lv logN (newN logN) 7 rs s d id) (hu : d.up = true) (hl : d.left = -1) : Found Y w p d rs rs s false := by
  have hb : bytesOf d logN = body 7 rs := by unfold bytesOf; rw [hL.now]; exact hL.part.bytes
  have ho : okHead 7 (body 7 rs) := by have := okHead_body 7 rs (body 7 rs).length; rwa [List.take_length] at this
  refine ⟨hd.mono (by omega), ⟨hu, hl, hL.eq, hL.two, by have := hL.few; omega⟩, by rw [hb]; exact ho, .inl ⟨rs.length, hL.le, Nat.le_refl _, ?_⟩⟩
  rw [hb, List.take_length]
  unfold scanRecs
  rw [if_pos ho, got_body hL.short]
/-- Open, on such a disk -/
theorem open_found {s : Nat} {may : Bool} {rs o : List (List UInt8)} (hF : Found Y w p d rs o s may) (hq : d.quota = 16777216) :
    Calls Tryz.prog 7 #[.pointer (some ⟨p, 0, none⟩), .string (mk logN), .int .u8 ((7 : UInt8).toNat)] w fun e w' => ∃ (d' : Ds) (Z : Nat → Prop) (lg : Nat) (u : Value) (id : Nat), e = .returned (.tuple #[.pointer (some ⟨lg, 0, none⟩), u, .int .i64 0]) ∧ Same Y w w' ∧ (∀ x, Y x → Z x) ∧ Dk Z 13 w' p d' ∧ Nr 2 d d' ∧ Z lg ∧ w.heap.size ≤ lg ∧ LogAt w' lg p logN 7 ∧
      Safe (fun x => Z x ∧ w.heap.size ≤ x) w' u (scanRecs 7 (bytesOf d logN)) ∧ Opd logN (newN logN) 7 (scanRecs 7 (bytesOf d logN)) d' id := by
  refine (open_any hF.disk (by omega) (by decide) 7).mono ?_
  rintro e w' ⟨m, d', r, Z, hs, hop, hYZ, hd, hret⟩
  obtain ⟨rfl, hr, ⟨id, hO⟩, _⟩ := open_runs hF.rdy log_ne spare_ne right_log right_spare ⟨by decide, by rw [hq]; decide⟩ hF.ok hop
  rcases hret with ⟨h, _⟩ | ⟨_, lg, u, he, hZ, hlg, hlog, hsf⟩
  · exact absurd rfl h
  · rw [hr] at hO hsf
    exact ⟨d', Z, lg, u, id, he, hs, hYZ, hd, openF_nr hop, hZ, hlg, hlog, hsf, hO⟩
theorem restart_round {w0 : World} {c lg s : Nat} {va vo tv : Value} {may : Bool} {rs : List (List UInt8)} {n : Int} {ts : List Int} (h1 : Life w0 c Y w p lg d va rs s) (h2 : Phase w0 c Y w p d rs s may vo) (hc : c ≤ 61) (htv : TRow w tv ts) (htX : ∀ k, Value.rowBlock tv = some k → Y k) (hts : ts.length ≤ 20) :
    Calls Tryz.prog 12 #[.pointer (some ⟨p, 0, none⟩), .agg #[.int .i64 n, tv]] w fun e w' => (∃ x, e = .returned x) ∧ ∃ d' o, Same Y w w' ∧ Nr 20 d d' ∧ Found Y w' p d' rs o s may ∧ (may = true → RowsY Y w0.heap.size w' vo o ∧ o.length ≤ c ∧ ∀ r ∈ o, r.length ≤ 500) := by
  obtain ⟨hk1, hk2⟩ := h1.small hc
  have key : ∀ (K : Nat) (o : List (List UInt8)), K ≤ 20 → Dk Y K w p d → My logN (newN logN) 7 rs s o d → (may = false → o = rs) → (may = true → RowsY Y w0.heap.size w vo o ∧ o.length ≤ c ∧ ∀ r ∈ o, r.length ≤ 500) →
      Calls Tryz.prog 12 #[.pointer (some ⟨p, 0, none⟩), .agg #[.int .i64 n, tv]] w fun e w' => (∃ x, e = .returned x) ∧ ∃ d' o, Same Y w w' ∧ Nr 20 d d' ∧ Found Y w' p d' rs o s may ∧ (may = true → RowsY Y w0.heap.size w' vo o ∧ o.length ≤ c ∧ ∀ r ∈ o, r.length ≤ 500) := by
    intro K o hK hd hmy hor ho
    refine (restart_ok hd (by omega) n htv htX (by omega)).mono ?_
    rintro e w' ⟨hx, hs, ns, ⟨_, _, hnl⟩, hd'⟩
    have hF := hmy.restart n.toNat ts ns
    obtain ⟨_, hr2, hr3, hr4, _⟩ := lostAll_rest (ts := ts) ns 0 (back d n.toNat)
    have e1 : (back d n.toNat).clock = d.clock := rfl
    have e2 : (back d n.toNat).deeds = d.deeds := rfl
    refine ⟨hx, _, o, hs, ⟨hr2, by omega, by omega⟩, found_of hd' hF (by omega) (by omega) hor, fun hm => ?_⟩
    obtain ⟨h3, h4⟩ := ho hm
    exact ⟨h3.same hs, h4⟩
  rcases h2 with ⟨rfl, hd, id, hL⟩ | ⟨rfl, hd, o, hmy, hr, h3, h4⟩
  · exact key 6 rs (by omega) hd (hL.my hL.short) (fun _ => rfl) (fun h => by cases h)
  · exact key 20 o (by omega) hd hmy (fun h => by cases h) (fun _ => ⟨hr, h3, h4⟩)
theorem sync_found {w0 : World} {c lg id : Nat} {va vo : Value} {rs : List (List UInt8)} (hold : ∀ x, x < w0.heap.size → Y x) (hbel : Below w0.heap.size w0 w) (hlog : LogAt w lg p logN 7) (hY : Y lg) (hap : ∀ k, va.ownBlock = some k → k ≠ lg) (hrows : RowsY Y w0.heap.size w va rs) (hcnt : rs.length ≤ c) (hsh : ∀ r ∈ rs, r.length ≤ 500)
    (hq : d.quota = 16777216) (hc1 : d.clock ≤ 40 + 40 * c + 30) (hc2 : d.deeds ≤ 40 + 40 * c + 30) (hd : Dk Y 13 w p d) (hO : Opd logN (newN logN) 7 rs d id) (hc : c ≤ 61) :
    Calls Tryz.prog 9 #[.pointer (some ⟨lg, 0, none⟩)] w fun e w' => e = .returned (.int .i64 0) ∧ Round w0 (c + 1) w' p lg va rs.length false vo := by
  refine (sync_any hd (by omega) hlog (by decide)).mono ?_
  rintro e w' ⟨m, d', he, hs, hd', hqq⟩
  obtain ⟨rfl, _, hL⟩ := sync_opd hO right_log hqq
  have hnr := syncT_nr hqq
  have h1 := hnr.clock
  have h2 := hnr.deeds
  exact ⟨he, Y, d', rs, ⟨hold, hbel.trans (hs.below hbel.size hold), hlog.same hs hY, hY, hap, hrows.same hs, by omega, hsh, Nat.le_refl _, hnr.quota.trans hq, by omega, by omega⟩, phase_lv hd' hL (by omega) (by omega)⟩
theorem arm_round {w0 : World} {c lg s : Nat} {va vo : Value} {may : Bool} {rs : List (List UInt8)} {n : Int} (hn : -9223372036854775808 ≤ n ∧ n ≤ 9223372036854775807) (h1 : Life w0 c Y w p lg d va rs s) (h2 : Phase w0 c Y w p d rs s may vo) :
    Calls Tryz.prog 11 #[.pointer (some ⟨p, 0, none⟩), .int .i64 n] w fun e w' => (∃ v, e = .returned v) ∧ Round w0 (c + 1) w' p lg va s may vo := by
  rcases h2 with ⟨rfl, h4, id, h5⟩ | ⟨rfl, h4, o, h5, h6, h7, h8⟩
  · refine (arm_ok h4 n hn).mono ?_
    rintro e w' ⟨hv, hs, hd⟩
    exact ⟨hv, Y, _, rs, h1.op hs (nr_arm d n), .inl ⟨rfl, hd, id, h5.like (like_arm d n)⟩⟩
  · refine (arm_ok h4 n hn).mono ?_
    rintro e w' ⟨hv, hs, hd⟩
    exact ⟨hv, Y, _, rs, h1.op hs (nr_arm d n), .inr ⟨rfl, hd, o, h5.like (like_arm d n), h6.same hs, by omega, h8⟩⟩
theorem append_round {w0 : World} {c lg s n cc : Nat} {va vo : Value} {a : Option Addr} {rs : List (List UInt8)} {r : List UInt8} (h1 : Life w0 c Y w p lg d va rs s) (h2 : Phase w0 c Y w p d rs s false vo) (hr : Bq w a n cc r) (hn : n ≤ 500) (hc : c ≤ 61) :
    Calls Tryz.prog 8 #[.pointer (some ⟨lg, 0, none⟩), .slice a n cc] w fun e w' => ∃ m d', e = .returned (.int .i64 m) ∧ Same Y w w' ∧ Nr 30 d d' ∧ ((m = 0 ∧ Phase w0 c Y w' p d' (rs ++ [r]) s false vo) ∨ (m ≠ 0 ∧ Phase w0 c Y w' p d' rs s false vo)) := by
  obtain ⟨hd, id, hL⟩ := h2.lv
  refine (append_any hd (by omega) h1.log (by decide) hr (by omega)).mono ?_
  rintro e w' ⟨m, d', he, hs, hd', hq⟩
  have hnr : Nr 30 d d' := (deed_nr hq app_nr).mono (by omega)
  obtain ⟨hk1, hk2⟩ := h1.small hc
  have hc1 : d'.clock ≤ 6001 := by have := hnr.clock; omega
  have hc2 : d'.deeds ≤ 6000 := by have := hnr.deeds; omega
  refine ⟨m, d', he, hs, hnr, ?_⟩
  rcases lv_append hL (by have := hr.len; omega) hq with ⟨hm, hL'⟩ | ⟨hm, hL'⟩
  · exact .inl ⟨hm, phase_lv hd' hL' hc1 hc2⟩
  · exact .inr ⟨hm, phase_lv hd' hL' hc1 hc2⟩
theorem sync_round {w0 : World} {c lg s : Nat} {va vo : Value} {rs : List (List UInt8)} (h1 : Life w0 c Y w p lg d va rs s) (h2 : Phase w0 c Y w p d rs s false vo) (hc : c ≤ 61) :
    Calls Tryz.prog 9 #[.pointer (some ⟨lg, 0, none⟩)] w fun e w' => ∃ m d', e = .returned (.int .i64 m) ∧ Same Y w w' ∧ Nr 30 d d' ∧ ((m = 0 ∧ Phase w0 c Y w' p d' rs rs.length false vo) ∨ (m ≠ 0 ∧ Phase w0 c Y w' p d' rs s false vo)) := by
  obtain ⟨hd, id, hL⟩ := h2.lv
  refine (sync_any hd (by omega) h1.log (by decide)).mono ?_
  rintro e w' ⟨m, d', he, hs, hd', hq⟩
  have hnr : Nr 30 d d' := (syncT_nr hq).mono (by omega)
  obtain ⟨hk1, hk2⟩ := h1.small hc
  have hc1 : d'.clock ≤ 6001 := by have := hnr.clock; omega
  have hc2 : d'.deeds ≤ 6000 := by have := hnr.deeds; omega
  refine ⟨m, d', he, hs, hnr, ?_⟩
  rcases lv_sync hL hq with ⟨hm, hL'⟩ | ⟨hm, hL'⟩
  · exact .inl ⟨hm, phase_lv hd' hL' hc1 hc2⟩
  · exact .inr ⟨hm, phase_lv hd' hL' hc1 hc2⟩
theorem Life.sure' {w0 : World} {c lg s : Nat} {va : Value} {rs : List (List UInt8)} (h : Life w0 c Y w p lg d va rs s) : Life w0 c Y w p lg d va rs rs.length :=
  ⟨h.old, h.below, h.log, h.lgY, h.apart, h.rows, h.cnt, h.short, Nat.le_refl _, h.quota, h.clock, h.deeds⟩
theorem Phase.next {w0 : World} {c s : Nat} {may : Bool} {vo : Value} {rs : List (List UInt8)} (h : Phase w0 c Y w p d rs s may vo) : Phase w0 (c + 1) Y w p d rs s may vo := by
  rcases h with h | ⟨h3, h4, o, h5, h6, h7, h8⟩
  · exact .inl h
  · exact .inr ⟨h3, h4, o, h5, h6, by omega, h8⟩

set_option maxRecDepth 100000 in
set_option maxHeartbeats 16000000 in
theorem sure_law {v : Value} {xs : List Act2} (w : World) (hA : Acts2 w v xs) :
    Calls Tryz.prog 3 #[v] w fun e w' => e = .returned (.bool true) ∧ Below w.heap.size w w' := by
  obtain ⟨va, vc, rfl, hx⟩ := hA
  have HX0 := Lib.hid hx
  clear hx
  generalize hn : xs.length = n at *
  have HN := Lib.hid hn
  clear hn
  by_cases hn60 : n ≤ 60
  · have hnw := new_c 16777216 (by omega) w
    go_enter Tryz.func3, Tryz.ntmps3
    go_wp2_with fail
    refine hnw.mono ?_
    rintro e w2 ⟨p, rfl, hp, hb2, hdk⟩
    clear hnw
    have hopn := open_any hdk (by omega) (nm := logN) (by decide) 7
    rw [show mk logN = (⟨#[108, 111, 103]⟩ : ByteArray) from rfl, show (((7 : UInt8).toNat : Nat) : Int) = 7 from rfl] at hopn
    have HB2 := Lib.hid hb2
    obtain ⟨X, hX⟩ : ∃ X : Nat → Prop, (fun x => x < w.heap.size) = X := ⟨_, rfl⟩
    rw [hX] at hdk hopn
    have HX : Hid (∀ x, x < w.heap.size → X x) := Lib.hid fun x hx => by rw [← hX]; exact hx
    clear hb2 hdk hX
    go_wp2_with fail
    refine hopn.mono ?_
    rintro e w3 ⟨m3, d3, r3, Y, hs3, hop, hXY, hdk3, hret⟩
    clear hopn
    obtain ⟨rfl, rfl, hal3, id3, hL3⟩ := open_new log_ne spare_ne right_log (by decide) (by decide) hop
    have hnr3 := openF_nr hop
    rcases hret with ⟨h, _⟩ | ⟨_, lg, u, rfl, hlY, hlg, hlog, hsf⟩
    · exact absurd rfl h
    obtain ⟨ua, uc, rfl, _⟩ := hsf.mat
    have HY : Hid (∀ x, x < w.heap.size → Y x) := Lib.hid fun x hx => by first | exact hXY x (HX.out x hx) | exact hXY x hx
    have HB3 := Lib.hid (same_below hs3 HB2.out.size HX.out HB2.out rfl)
    have hR0 : Round w 0 w3 p lg (.slice none 0 0) 0 false (.slice none 0 0) := by
      have hc3 : d3.clock ≤ 3 := hnr3.clock
      have hd3 : d3.deeds ≤ 2 := by have := hnr3.deeds; exact this
      exact ⟨Y, d3, [], ⟨HY.out, HB3.out, hlog, hlY, (fun k hk => by cases hk), rowsY_nil _ _ _, Nat.le_refl _, (fun r hr => by cases hr), Nat.le_refl _, hnr3.quota, by omega, by omega⟩, .inl ⟨rfl, lv_shrink hdk3 hL3 (by omega) (by omega), id3, hL3⟩⟩
    have HR0 := Lib.hid hR0
    clear hs3 hXY hop hsf hR0 hlog hlY hnr3 hL3 hal3 hdk3 hlg
    go_wp2_with fail
    go_loopw [5, 8, 9, 10, 11, 12] (fun v5 v8 v9 v10 v11 v12 wr => ∃ i : Nat, i ≤ n ∧ v12 = .int .i64 i ∧ ∃ lg : Nat, v5 = .pointer (some ⟨lg, 0, none⟩) ∧ ∃ aa an ac, v8 = .slice aa an ac ∧ ∃ s : Nat, v9 = .int .i64 s ∧ ∃ oa on oc, v10 = .slice oa on oc ∧ ∃ may : Bool, v11 = .bool may ∧ Hid (Round w i wr p lg (.slice aa an ac) s may (.slice oa on oc))) (fun _ _ _ _ _ v12 _ => n - (intOf v12).toNat)
    case atStart => exact ⟨0, Nat.zero_le _, rfl, lg, rfl, _, _, _, rfl, 0, rfl, _, _, _, rfl, false, rfl, HR0⟩
    case round =>
      obtain ⟨i, hi, rfl, lg, rfl, aa, an, ac, rfl, s, rfl, oa, on, oc, rfl, may, rfl, HR⟩ := hrel
      clear HR0
      by_cases hlt : i < n
      · obtain ⟨x, hxi⟩ : ∃ x, xs[i]? = some x := ⟨xs[i]'(by rw [HN.out]; exact hlt), List.getElem?_eq_getElem _⟩
        obtain ⟨b, o, rfl, hb, hA⟩ := HX0.out i x hxi
        have hbw : Below w.heap.size w wr := by obtain ⟨Y, d, rs, hL, _⟩ := HR.out; exact hL.below
        obtain ⟨a2, n2, k2, hB2, hnil⟩ := hA.c2
        obtain ⟨a3, n3, k3, hT3⟩ := hA.c3
        have k0 := (hbw.cell (p := ⟨b, o + i * 4, none⟩) hb).trans hA.c0
        have k1 := (hbw.cell (p := ⟨b, o + i * 4 + 1, none⟩) hb).trans hA.c1
        have k2 := (hbw.cell (p := ⟨b, o + i * 4 + 2, none⟩) hb).trans k2
        have k3 := (hbw.cell (p := ⟨b, o + i * 4 + 3, none⟩) hb).trans k3
        obtain ⟨t, ht, ht6⟩ : ∃ t : Nat, (wrap64 (x.what.tmod 6 + 6)).tmod 6 = (t : Int) ∧ t < 6 := by
          have h1 : -6 < x.what.tmod 6 ∧ x.what.tmod 6 < 6 := ⟨by have := Int.lt_tmod_of_pos x.what (b := 6) (by decide); omega, Int.tmod_lt_of_pos _ (by decide)⟩
          rw [show wrap64 (x.what.tmod 6 + 6) = x.what.tmod 6 + 6 from by unfold wrap64; omega]
          refine ⟨((x.what.tmod 6 + 6).tmod 6).toNat, ?_, ?_⟩
          · have := Int.tmod_nonneg (a := x.what.tmod 6 + 6) 6 (by omega); omega
          · have := Int.tmod_lt_of_pos (x.what.tmod 6 + 6) (b := 6) (by decide); omega
        have HA := Lib.hid hA
        have HXI := Lib.hid hxi
        have HB2 := Lib.hid (And.intro hB2 hnil)
        have HT3 := Lib.hid hT3
        have HBW := Lib.hid hbw
        have hr0 := hA.r0
        have hr1 := hA.r1
        generalize hbl : x.bs.length = bl at *
        generalize htl : x.ts.length = tl at *
        have HBL := Lib.hid hbl
        have HTL := Lib.hid htl
        generalize hxw : x.what = xw at *
        generalize hxn : x.num = xn at *
        have HXW := Lib.hid (And.intro hxw hxn)
        clear hA hxi hB2 hnil hT3 hbw hbl htl hxw hxn
        by_cases hl5 : bl ≤ 500
        · by_cases ht2 : tl ≤ 20
          · obtain ⟨W, hW⟩ : ∃ W, wr.alloc (.cells #[.int .i64 xw, .int .i64 xn, .slice a2 bl n2, .slice a3 tl n3] 34) = W := ⟨_, rfl⟩
            have hbW : Below wr.heap.size wr W := by rw [← hW]; exact below_alloc _ _
            have x1 : W.cell? ⟨wr.heap.size, 1, none⟩ = some (.int .i64 xn) := by rw [← hW]; exact cell_at_new _ _ _ _ _ rfl
            have x2 : W.cell? ⟨wr.heap.size, 2, none⟩ = some (.slice a2 bl n2) := by rw [← hW]; exact cell_at_new _ _ _ _ _ rfl
            have x3 : W.cell? ⟨wr.heap.size, 3, none⟩ = some (.slice a3 tl n3) := by rw [← hW]; exact cell_at_new _ _ _ _ _ rfl
            have hxl : wr.heap.size < W.heap.size := by rw [← hW, World.size_alloc]; omega
            have HBX := Lib.hid hbW
            have hidle : Round w (i + 1) W p lg (.slice aa an ac) s may (.slice oa on oc) := HR.out.idle hbW
            have HIDLE := Lib.hid hidle
            obtain ⟨Y0, d0, rs, hLf0, hPh0⟩ := HR.out
            have hLf := hLf0.up hbW
            have hPh := hPh0.up hbW
            have hyx : Since Y0 wr W wr.heap.size := .inr ⟨Nat.le_refl _, hxl⟩
            generalize Since Y0 wr W = Y1 at *
            have HLf := Lib.hid hLf
            have HPh := Lib.hid hPh
            have HX123 := Lib.hid (And.intro x1 (And.intro x2 x3))
            have HWR := Lib.hid hW
            clear hbW hidle hLf0 hPh0 hLf hPh x1 x2 x3 hW HR
            have h6 : t = 0 ∨ t = 1 ∨ t = 2 ∨ t = 3 ∨ t = 4 ∨ t = 5 := by omega
            rcases h6 with rfl | rfl | rfl | rfl | rfl | rfl
            · have ht1 : (wrap64 (xw.tmod 6 + 6)).tmod 6 = 0 := ht
              clear ht
              cases may
              · have hBW2 : BRow W (.slice a2 bl n2) x.bs := HB2.out.1.below (HBW.out.trans (HBX.out.mono HBW.out.size))
                have hap := append_round HLf.out HPh.out (bq_of_row hBW2) hl5 (by omega)
                have hanl := (Mat.at HLf.out.rows.mat).1
                have HAN := Lib.hid hanl
                rw [← HWR.out] at hap
                clear hanl hBW2
                go_wp2_with fail
                refine hap.mono ?_
                rintro e w4 ⟨m4, d4, rfl, hs4, hn4, hq4⟩
                clear hap
                rw [HWR.out] at hs4
                have hlf4 := HLf.out.op hs4 hn4
                rcases hq4 with ⟨hm4, hp4⟩ | ⟨hm4, hp4⟩
                · subst hm4
                  have hx2 := (hs4.cell (p := ⟨wr.heap.size, 2, none⟩) hxl hyx).trans HX123.out.2.1
                  have hx2E : (w4.alloc (.cells #[] 5)).cell? ⟨wr.heap.size, 2, none⟩ = some (.slice a2 bl n2) := alloc_cell _ hx2
                  have hbE := below_alloc w4 (.cells #[] 5)
                  have hBE : BRow (w4.alloc (.cells #[] 5)) (.slice a2 bl n2) x.bs := HB2.out.1.below (hlf4.below.trans (hbE.mono hlf4.below.size))
                  have hkr : ∀ (w5 : World) (u : Value), Below w4.heap.size w4 w5 → w5.ownsRow w4.heap.size 5 1 u x.bs.length (bytesV x.bs) → ∃ a' c' w6, (Builtin.append_ #[28, 28] 28 #[.slice aa an ac, .slice (some ⟨w5.heap.size, 0, none⟩) 1 1]).run Tryz.prog (w5.alloc (.cells #[u] 31)) = .ok (.slice a' (an + 1) c') w6 ∧ Round w (i + 1) w6 p lg (.slice a' (an + 1) c') s false (.slice oa on oc) := fun w5 u hb hu => by
                    have h := keep_round (aa := aa) (ac := ac) HLf.out.cnt (by have h := hlf4; rw [HAN.out] at h; exact h) hp4.next (by rw [HBL.out]; exact hl5) (by omega) hb hu
                    rw [← HAN.out] at h
                    exact h
                  have hpk := (bq_of_row hBE).pk
                  have HK := Lib.hid (And.intro hkr (And.intro hbE hpk))
                  clear hs4 hn4 hlf4 hp4 hBE hkr hbE hpk hx2
                  go_wp2_with (first
                    | (at_builtin; refine Pk.wpList_append_bytes rfl _ _ rfl w4.heap.size _ 0 [] rfl (Pk.owns_made w4 w4.heap.size (Nat.le_refl _)) a2 bl n2 (nb x.bs) rfl (by rw [nb_length, HBL.out]) HB2.out.2 HK.out.2.2 _ rfl (by omega) HK.out.2.1.size ?_; intro a5 n5 c5 w5 hown5 Hn5 hle5 hr5 hn05 hb5; have hu5 : w5.ownsRow w4.heap.size 5 1 (.slice a5 n5 c5) x.bs.length (bytesV x.bs) := (by rw [List.nil_append, bytesV_nb] at hown5; have e5 : n5 = x.bs.length := (by have h := hown5.1; rw [bytesV_length] at h; omega); rw [← e5]; exact hown5); obtain ⟨a6, c6, w6, hrun6, hR6⟩ := HK.out.1 w5 (.slice a5 n5 c5) (HK.out.2.1.trans hb5) hu5; have HR6 := Lib.hid hR6; clear hown5 Hn5 hle5 hr5 hn05 hb5 hu5 hR6)
                    | (at_builtin; refine wpList_append_rows rfl _ _ rfl rfl _ _ _ rfl rfl hrun6 ?_))
                  go_roundw
                  case rel => exact ⟨i + 1, by omega, by go_num, lg, rfl, a6, an + 1, c6, rfl, s, rfl, oa, on, oc, rfl, false, rfl, HR6⟩
                  case measure => simp [intOf]; omega
                · have HR4 : Hid (Round w (i + 1) w4 p lg (.slice aa an ac) s false (.slice oa on oc)) := Lib.hid ⟨Y1, d4, rs, hlf4, hp4.next⟩
                  have hz4 : (m4 == 0) = false := by simp [hm4]
                  clear hs4 hn4 hlf4 hp4 hm4
                  go_wp2
                  go_roundw
                  case rel => exact ⟨i + 1, by omega, by go_num, lg, rfl, aa, an, ac, rfl, s, rfl, oa, on, oc, rfl, false, rfl, HR4⟩
                  case measure => simp [intOf]; omega
              · go_wp2
                rw [HWR.out]
                go_roundw
                case rel => exact ⟨i + 1, by omega, by go_num, lg, rfl, aa, an, ac, rfl, s, rfl, oa, on, oc, rfl, true, rfl, HIDLE⟩
                case measure => simp [intOf]; omega
            · have ht1 : (wrap64 (xw.tmod 6 + 6)).tmod 6 = 1 := ht
              clear ht
              cases may
              · have hsy := sync_round HLf.out HPh.out (by omega)
                have hanl := (Mat.at HLf.out.rows.mat).1
                have HAN := Lib.hid hanl
                rw [← HWR.out] at hsy
                clear hanl
                go_wp2_with fail
                refine hsy.mono ?_
                rintro e w4 ⟨m4, d4, rfl, hs4, hn4, hq4⟩
                clear hsy
                rw [HWR.out] at hs4
                have hlf4 := HLf.out.op hs4 hn4
                rcases hq4 with ⟨hm4, hp4⟩ | ⟨hm4, hp4⟩
                · subst hm4
                  have HR4 : Hid (Round w (i + 1) w4 p lg (.slice aa an ac) an false (.slice oa on oc)) := Lib.hid ⟨Y1, d4, rs, by have h := hlf4.sure'; rw [← HAN.out] at h; exact h, by rw [HAN.out]; exact hp4.next⟩
                  clear hs4 hn4 hlf4 hp4
                  go_wp2
                  go_roundw
                  case rel => exact ⟨i + 1, by omega, by go_num, lg, rfl, aa, an, ac, rfl, an, rfl, oa, on, oc, rfl, false, rfl, HR4⟩
                  case measure => simp [intOf]; omega
                · have HR4 : Hid (Round w (i + 1) w4 p lg (.slice aa an ac) s false (.slice oa on oc)) := Lib.hid ⟨Y1, d4, rs, hlf4, hp4.next⟩
                  have hz4 : (m4 == 0) = false := by simp [hm4]
                  clear hs4 hn4 hlf4 hp4 hm4
                  go_wp2
                  go_roundw
                  case rel => exact ⟨i + 1, by omega, by go_num, lg, rfl, aa, an, ac, rfl, s, rfl, oa, on, oc, rfl, false, rfl, HR4⟩
                  case measure => simp [intOf]; omega
              · go_wp2
                rw [HWR.out]
                go_roundw
                case rel => exact ⟨i + 1, by omega, by go_num, lg, rfl, aa, an, ac, rfl, s, rfl, oa, on, oc, rfl, true, rfl, HIDLE⟩
                case measure => simp [intOf]; omega
            · have ht1 : (wrap64 (xw.tmod 6 + 6)).tmod 6 = 2 := ht
              clear ht
              cases may
              · have hanl := (Mat.at HLf.out.rows.mat).1
                have han60 : an ≤ 60 := by have := HLf.out.cnt; omega
                obtain ⟨k, hk, hkn⟩ := pick_index xn an han60
                have hac : an ≤ ac := by
                  obtain ⟨vs, h, _⟩ := HLf.out.rows
                  rcases h.2 with ⟨e, _⟩ | ⟨g, cap, cur, e, _, _, h3, _⟩
                  · cases e; exact Nat.le_refl _
                  · cases e; omega
                have hx1E := alloc_cell (.cells #[] 31) HX123.out.1
                have hacn : aa = none → ac = 0 := fun e => by
                  obtain ⟨vs, h, _⟩ := HLf.out.rows
                  rcases h.2 with ⟨e2, _⟩ | ⟨g, cap, cur, e2, _⟩
                  · cases e2; rfl
                  · cases e2; cases e
                obtain ⟨a7, c7, w7, hrun7, hrow7, hbel7, hnew7⟩ := rowsY_copy HLf.out.rows hkn HLf.out.below.size (by omega) hacn
                have hrr := rewrite_round (HLf.out.up hbel7) (HPh.out.up hbel7) (by omega) hrow7 (by rw [List.length_take]; have := HLf.out.cnt; omega) (fun r hr => HLf.out.short r (List.mem_of_mem_take hr)) (fun b hb e => by have h1 := hnew7 b hb; have h2 := HLf.out.log.lt; omega)
                rw [← HWR.out] at hx1E hrun7
                rw [World.size_alloc] at hrun7
                have HRR := Lib.hid hrr
                clear hanl hacn hrow7 hbel7 hnew7 hrr
                go_wp2_with (at_builtin; refine wpList_append_rows rfl _ _ rfl rfl _ _ _ rfl rfl hrun7 ?_)
                refine HRR.out.mono ?_
                rintro e w8 ⟨m8, rfl, hR8⟩
                rcases hR8 with ⟨hm8, hR8⟩ | ⟨hm8, hR8⟩
                · subst hm8
                  have HR8 := Lib.hid hR8
                  clear hR8 HRR hrun7
                  go_wp2
                  go_roundw
                  case rel => exact ⟨i + 1, by omega, by go_num, lg, rfl, a7, k, c7, rfl, k, rfl, a7, k, c7, rfl, false, rfl, HR8⟩
                  case measure => simp [intOf]; omega
                · have hz8 : (m8 == 0) = false := by simp [hm8]
                  have HR8 := Lib.hid hR8
                  clear hR8 HRR hrun7 hm8
                  go_wp2
                  go_roundw
                  case rel => exact ⟨i + 1, by omega, by go_num, lg, rfl, aa, an, ac, rfl, s, rfl, a7, k, c7, rfl, true, rfl, HR8⟩
                  case measure => simp [intOf]; omega
              · go_wp2
                rw [HWR.out]
                go_roundw
                case rel => exact ⟨i + 1, by omega, by go_num, lg, rfl, aa, an, ac, rfl, s, rfl, oa, on, oc, rfl, true, rfl, HIDLE⟩
                case measure => simp [intOf]; omega
            · have ht1 : (wrap64 (xw.tmod 6 + 6)).tmod 6 = 3 := ht
              clear ht
              cases may
              · obtain ⟨hdk0, id0, hL0⟩ := HPh.out.lv
                have hdn := down_ok hdk0
                rw [← HWR.out] at hdn
                have HL0 := Lib.hid (And.intro hdk0 hL0)
                clear hdk0 hL0
                cases hup : d0.up with
                | false =>
                  rw [hup] at hdn
                  go_wp2_with fail
                  refine hdn.mono ?_
                  rintro e w4 ⟨rfl, rfl⟩
                  clear hdn
                  go_wp2
                  rw [HWR.out]
                  go_roundw
                  case rel => exact ⟨i + 1, by omega, by go_num, lg, rfl, aa, an, ac, rfl, s, rfl, oa, on, oc, rfl, false, rfl, HIDLE⟩
                  case measure => simp [intOf]; omega
                | true =>
                  rw [hup] at hdn
                  have HUP := Lib.hid hup
                  clear hup
                  go_wp2_with fail
                  refine hdn.mono ?_
                  rintro e w4 ⟨rfl, rfl⟩
                  clear hdn
                  have har := arm_ok HL0.out.1 (-1) (by omega)
                  rw [← HWR.out] at har
                  go_wp2_with fail
                  refine har.mono ?_
                  rintro e w4 ⟨⟨v4, rfl⟩, hs4, hdk4⟩
                  clear har
                  rw [HWR.out] at hs4
                  obtain ⟨o4, ho4⟩ : ∃ o4, rs = o4 := ⟨_, rfl⟩
                  have hF4 : Found Y1 w4 p { d0 with left := -1 } rs o4 s false := by rw [← ho4]; exact found_lv hdk4 (HL0.out.2.like (like_arm d0 (-1))) HUP.out rfl
                  have hn4 : Nr 20 d0 { d0 with left := -1 } := ⟨rfl, Nat.le_add_right _ _, Nat.le_add_right _ _⟩
                  have hro4 : false = true → RowsY Y1 w.heap.size w4 (.slice oa on oc) o4 ∧ o4.length ≤ i ∧ ∀ r ∈ o4, r.length ≤ 500 := fun h => by cases h
                  generalize ({ d0 with left := -1 } : Ds) = d4 at *
                  clear hdk4 ho4
                  have hop := open_found hF4 (hn4.quota.trans HLf.out.quota)
                  rw [show mk logN = (⟨#[108, 111, 103]⟩ : ByteArray) from rfl, show (((7 : UInt8).toNat : Nat) : Int) = 7 from rfl] at hop
                  have HF4 := Lib.hid (And.intro hs4 (And.intro hn4 (And.intro hF4.has hro4)))
                  clear hs4 hn4 hF4 hro4
                  go_wp2_with fail
                  refine hop.mono ?_
                  rintro e w5 ⟨d5, Z, lg5, u5, id5, rfl, hs5, hYZ, hd5, hn5, hZ5, hlg5, hlog5, hsf5, hO5⟩
                  clear hop
                  obtain ⟨hs4, hn4, hhas, hro4⟩ := HF4.out
                  generalize scanRecs 7 (bytesOf d4 logN) = G at *
                  have hold4 : ∀ y, y < w.heap.size → Y1 y := HLf.out.old
                  have hb4 : Below w.heap.size w w4 := same_below hs4 HLf.out.below.size hold4 HLf.out.below rfl
                  have hb5 : Below w.heap.size w w5 := same_below hs5 hb4.size hold4 hb4 rfl
                  have hrw4 := HLf.out.rows.same hs4
                  have hrows5 : RowsY Z w.heap.size w5 (.slice aa an ac) rs := (hrw4.same hs5).more hYZ
                  have hap5 : ∀ b, Value.ownBlock (.slice aa an ac) = some b → b < lg5 := fun b hb => by
                    obtain ⟨vs, h, _⟩ := hrw4
                    have := (h.lt b hb).2
                    omega
                  have han := (Mat.at HLf.out.rows.mat).1
                  have hcn := HLf.out.cnt
                  have hac : an ≤ ac := by
                    obtain ⟨vs, h, _⟩ := HLf.out.rows
                    rcases h.2 with ⟨e, _⟩ | ⟨g, cap, cur, e, _, _, h3, _⟩
                    · cases e; exact Nat.le_refl _
                    · cases e; omega
                  have hq5 : d5.quota = 16777216 := hn5.quota.trans (hn4.quota.trans HLf.out.quota)
                  have hk5 : d5.clock ≤ 40 + 40 * i + 30 := by have h1 := hn5.clock; have h2 := hn4.clock; have h3 := HLf.out.clock; omega
                  have hj5 : d5.deeds ≤ 40 + 40 * i + 30 := by have h1 := hn5.deeds; have h2 := hn4.deeds; have h3 := HLf.out.deeds; omega
                  obtain ⟨ga, gc, rfl, _⟩ := hsf5.mat
                  have hG60 : G.length ≤ 1000000 := by
                    rcases hhas with ⟨t, _, h2, h3⟩ | ⟨h2, h3⟩
                    · rw [h3, List.length_take]; omega
                    · rw [h3]; have := (hro4 h2).2.1; omega
                  have hst := starts_c s hsf5.mat hrows5.mat hac hG60
                  have H5 := Lib.hid (And.intro hb5 (And.intro hrows5 (And.intro hap5 (And.intro hd5 (And.intro hO5 (And.intro hlog5 (And.intro hZ5 hYZ)))))))
                  have H6 := Lib.hid (And.intro hq5 (And.intro hk5 (And.intro hj5 (And.intro hhas (And.intro hsf5 (And.intro hs5 hro4))))))
                  have HAN := Lib.hid (And.intro han (And.intro hcn hG60))
                  clear hs5 hYZ hd5 hn5 hZ5 hlg5 hlog5 hsf5 hO5 hs4 hn4 hhas hro4 hold4 hb4 hb5 hrw4 hrows5 hap5 hq5 hk5 hj5 HF4 han hcn hG60
                  generalize hgl : G.length = gl at *
                  have HGL := Lib.hid hgl
                  clear hgl
                  by_cases hB : (s ≤ gl ∧ gl ≤ rs.length ∧ G = rs.take gl)
                  · have hgn : gl ≤ an := by rw [HAN.out.1]; exact hB.2.1
                    rw [show decide (s ≤ gl ∧ gl ≤ rs.length ∧ G = rs.take gl) = true from decide_eq_true hB] at hst
                    have HBB := Lib.hid hB
                    clear hB
                    go_wp2_with fail
                    refine hst.mono ?_
                    rintro e w6 ⟨rfl, hb6⟩
                    clear hst
                    have hsy := sync_found (vo := .slice oa on oc) (c := i) (fun y hy => H5.out.2.2.2.2.2.2.2 y (HLf.out.old y hy)) (H5.out.1.trans (hb6.mono H5.out.1.size)) (H5.out.2.2.2.2.2.1.below hb6) H5.out.2.2.2.2.2.2.1 (va := .slice aa gl ac) (rs := G) (fun b hb => by have := H5.out.2.2.1 b (by cases aa <;> exact hb); omega)
                      (by rw [HBB.out.2.2]; exact (H5.out.2.1.take hgn).same (Same.of_below hb6)) (by rw [HGL.out]; have := HAN.out.1; have := HAN.out.2.1; omega) (fun r hr => by rw [HBB.out.2.2] at hr; exact HLf.out.short r (List.mem_of_mem_take hr)) H6.out.1 H6.out.2.1 H6.out.2.2.1 (H5.out.2.2.2.1.keep hb6) H5.out.2.2.2.2.1 (by omega)
                    rw [HGL.out] at hsy
                    clear hb6
                    go_wp2_with fail
                    refine hsy.mono ?_
                    rintro e w7 ⟨rfl, hR7⟩
                    clear hsy
                    have HR7 := Lib.hid hR7
                    clear hR7
                    go_wp2
                    go_roundw
                    case rel => exact ⟨i + 1, by omega, by go_num, lg5, rfl, aa, gl, ac, rfl, gl, rfl, oa, on, oc, rfl, false, rfl, HR7⟩
                    case measure => simp [intOf]; omega
                  · exfalso
                    rcases H6.out.2.2.2.1 with ⟨t, h1, h2, h3⟩ | ⟨h, _⟩
                    · have hl : gl = t := by rw [← HGL.out, h3, List.length_take]; omega
                      exact hB (by rw [hl]; exact ⟨h1, h2, h3⟩)
                    · cases h
              · have hdn := down_ok HPh.out.my.1
                rw [← HWR.out] at hdn
                go_wp2_with fail
                refine hdn.mono ?_
                rintro e w4 ⟨rfl, rfl⟩
                clear hdn
                cases hup : d0.up with
                | true =>
                  go_wp2
                  rw [HWR.out]
                  go_roundw
                  case rel => exact ⟨i + 1, by omega, by go_num, lg, rfl, aa, an, ac, rfl, s, rfl, oa, on, oc, rfl, true, rfl, HIDLE⟩
                  case measure => simp [intOf]; omega
                | false =>
                  go_wp2
                  rw [HWR.out]
                  go_roundw
                  case rel => exact ⟨i + 1, by omega, by go_num, lg, rfl, aa, an, ac, rfl, s, rfl, oa, on, oc, rfl, true, rfl, HIDLE⟩
                  case measure => simp [intOf]; omega
            · have ht1 : (wrap64 (xw.tmod 6 + 6)).tmod 6 = 4 := ht
              clear ht
              cases may
              · have hT4 : TRow W (.slice a3 tl n3) x.ts := HT3.out.same (Y := fun _ => True) (Same.of_below (HBW.out.trans (HBX.out.mono HBW.out.size))) (fun _ _ => trivial)
                have hre := restart_round (n := xn) HLf.out HPh.out (by omega) hT4 (fun y hy => HLf.out.old y (HT3.out.lt hy)) (by rw [HTL.out]; exact ht2)
                rw [← HWR.out] at hre
                clear hT4
                go_wp2_with fail
                refine hre.mono ?_
                rintro e w4 ⟨⟨v4, rfl⟩, d4, o4, hs4, hn4, hF4, hro4⟩
                clear hre
                rw [HWR.out] at hs4
                have hop := open_found hF4 (hn4.quota.trans HLf.out.quota)
                rw [show mk logN = (⟨#[108, 111, 103]⟩ : ByteArray) from rfl, show (((7 : UInt8).toNat : Nat) : Int) = 7 from rfl] at hop
                have HF4 := Lib.hid (And.intro hs4 (And.intro hn4 (And.intro hF4.has hro4)))
                clear hs4 hn4 hF4 hro4
                go_wp2_with fail
                refine hop.mono ?_
                rintro e w5 ⟨d5, Z, lg5, u5, id5, rfl, hs5, hYZ, hd5, hn5, hZ5, hlg5, hlog5, hsf5, hO5⟩
                clear hop
                have HLG := Lib.hid hlg5
                obtain ⟨hs4, hn4, hhas, hro4⟩ := HF4.out
                generalize scanRecs 7 (bytesOf d4 logN) = G at *
                have hold4 : ∀ y, y < w.heap.size → Y1 y := HLf.out.old
                have hb4 : Below w.heap.size w w4 := same_below hs4 HLf.out.below.size hold4 HLf.out.below rfl
                have hb5 : Below w.heap.size w w5 := same_below hs5 hb4.size hold4 hb4 rfl
                have hrw4 := HLf.out.rows.same hs4
                have hrows5 : RowsY Z w.heap.size w5 (.slice aa an ac) rs := (hrw4.same hs5).more hYZ
                have hap5 : ∀ b, Value.ownBlock (.slice aa an ac) = some b → b < lg5 := fun b hb => by
                  obtain ⟨vs, h, _⟩ := hrw4
                  have := (h.lt b hb).2
                  omega
                have han := (Mat.at HLf.out.rows.mat).1
                have hcn := HLf.out.cnt
                have hac : an ≤ ac := by
                  obtain ⟨vs, h, _⟩ := HLf.out.rows
                  rcases h.2 with ⟨e, _⟩ | ⟨g, cap, cur, e, _, _, h3, _⟩
                  · cases e; exact Nat.le_refl _
                  · cases e; omega
                have hq5 : d5.quota = 16777216 := hn5.quota.trans (hn4.quota.trans HLf.out.quota)
                have hk5 : d5.clock ≤ 40 + 40 * i + 30 := by have h1 := hn5.clock; have h2 := hn4.clock; have h3 := HLf.out.clock; omega
                have hj5 : d5.deeds ≤ 40 + 40 * i + 30 := by have h1 := hn5.deeds; have h2 := hn4.deeds; have h3 := HLf.out.deeds; omega
                obtain ⟨ga, gc, rfl, _⟩ := hsf5.mat
                have hG60 : G.length ≤ 1000000 := by
                  rcases hhas with ⟨t, _, h2, h3⟩ | ⟨h2, h3⟩
                  · rw [h3, List.length_take]; omega
                  · rw [h3]; have := (hro4 h2).2.1; omega
                have hst := starts_c s hsf5.mat hrows5.mat hac hG60
                have H5 := Lib.hid (And.intro hb5 (And.intro hrows5 (And.intro hap5 (And.intro hd5 (And.intro hO5 (And.intro hlog5 (And.intro hZ5 hYZ)))))))
                have H6 := Lib.hid (And.intro hq5 (And.intro hk5 (And.intro hj5 (And.intro hhas (And.intro hsf5 (And.intro hs5 hro4))))))
                have HAN := Lib.hid (And.intro han (And.intro hcn hG60))
                clear hs5 hYZ hd5 hn5 hZ5 hlg5 hlog5 hsf5 hO5 hs4 hn4 hhas hro4 hold4 hb4 hb5 hrw4 hrows5 hap5 hq5 hk5 hj5 HF4 han hcn hG60
                generalize hgl : G.length = gl at *
                have HGL := Lib.hid hgl
                clear hgl
                by_cases hB : (s ≤ gl ∧ gl ≤ rs.length ∧ G = rs.take gl)
                · have hgn : gl ≤ an := by rw [HAN.out.1]; exact hB.2.1
                  rw [show decide (s ≤ gl ∧ gl ≤ rs.length ∧ G = rs.take gl) = true from decide_eq_true hB] at hst
                  have HBB := Lib.hid hB
                  clear hB
                  go_wp2_with fail
                  refine hst.mono ?_
                  rintro e w6 ⟨rfl, hb6⟩
                  clear hst
                  have hsy := sync_found (vo := .slice oa on oc) (c := i) (fun y hy => H5.out.2.2.2.2.2.2.2 y (HLf.out.old y hy)) (H5.out.1.trans (hb6.mono H5.out.1.size)) (H5.out.2.2.2.2.2.1.below hb6) H5.out.2.2.2.2.2.2.1 (va := .slice aa gl ac) (rs := G) (fun b hb => by have := H5.out.2.2.1 b (by cases aa <;> exact hb); omega)
                    (by rw [HBB.out.2.2]; exact (H5.out.2.1.take hgn).same (Same.of_below hb6)) (by rw [HGL.out]; have := HAN.out.1; have := HAN.out.2.1; omega) (fun r hr => by rw [HBB.out.2.2] at hr; exact HLf.out.short r (List.mem_of_mem_take hr)) H6.out.1 H6.out.2.1 H6.out.2.2.1 (H5.out.2.2.2.1.keep hb6) H5.out.2.2.2.2.1 (by omega)
                  rw [HGL.out] at hsy
                  clear hb6
                  go_wp2_with fail
                  refine hsy.mono ?_
                  rintro e w7 ⟨rfl, hR7⟩
                  clear hsy
                  have HR7 := Lib.hid hR7
                  clear hR7
                  go_wp2
                  go_roundw
                  case rel => exact ⟨i + 1, by omega, by go_num, lg5, rfl, aa, gl, ac, rfl, gl, rfl, oa, on, oc, rfl, false, rfl, HR7⟩
                  case measure => simp [intOf]; omega
                · exfalso
                  rcases H6.out.2.2.2.1 with ⟨t, h1, h2, h3⟩ | ⟨h, _⟩
                  · have hl : gl = t := by rw [← HGL.out, h3, List.length_take]; omega
                    exact hB (by rw [hl]; exact ⟨h1, h2, h3⟩)
                  · cases h
              · have hT4 : TRow W (.slice a3 tl n3) x.ts := HT3.out.same (Y := fun _ => True) (Same.of_below (HBW.out.trans (HBX.out.mono HBW.out.size))) (fun _ _ => trivial)
                have hre := restart_round (n := xn) HLf.out HPh.out (by omega) hT4 (fun y hy => HLf.out.old y (HT3.out.lt hy)) (by rw [HTL.out]; exact ht2)
                rw [← HWR.out] at hre
                clear hT4
                go_wp2_with fail
                refine hre.mono ?_
                rintro e w4 ⟨⟨v4, rfl⟩, d4, o4, hs4, hn4, hF4, hro4⟩
                clear hre
                rw [HWR.out] at hs4
                have hop := open_found hF4 (hn4.quota.trans HLf.out.quota)
                rw [show mk logN = (⟨#[108, 111, 103]⟩ : ByteArray) from rfl, show (((7 : UInt8).toNat : Nat) : Int) = 7 from rfl] at hop
                have HF4 := Lib.hid (And.intro hs4 (And.intro hn4 (And.intro hF4.has hro4)))
                clear hs4 hn4 hF4 hro4
                go_wp2_with fail
                refine hop.mono ?_
                rintro e w5 ⟨d5, Z, lg5, u5, id5, rfl, hs5, hYZ, hd5, hn5, hZ5, hlg5, hlog5, hsf5, hO5⟩
                clear hop
                have HLG := Lib.hid hlg5
                obtain ⟨hs4, hn4, hhas, hro4⟩ := HF4.out
                generalize scanRecs 7 (bytesOf d4 logN) = G at *
                have hold4 : ∀ y, y < w.heap.size → Y1 y := HLf.out.old
                have hb4 : Below w.heap.size w w4 := same_below hs4 HLf.out.below.size hold4 HLf.out.below rfl
                have hb5 : Below w.heap.size w w5 := same_below hs5 hb4.size hold4 hb4 rfl
                have hrw4 := HLf.out.rows.same hs4
                have hrows5 : RowsY Z w.heap.size w5 (.slice aa an ac) rs := (hrw4.same hs5).more hYZ
                have hap5 : ∀ b, Value.ownBlock (.slice aa an ac) = some b → b < lg5 := fun b hb => by
                  obtain ⟨vs, h, _⟩ := hrw4
                  have := (h.lt b hb).2
                  omega
                have han := (Mat.at HLf.out.rows.mat).1
                have hcn := HLf.out.cnt
                have hac : an ≤ ac := by
                  obtain ⟨vs, h, _⟩ := HLf.out.rows
                  rcases h.2 with ⟨e, _⟩ | ⟨g, cap, cur, e, _, _, h3, _⟩
                  · cases e; exact Nat.le_refl _
                  · cases e; omega
                have hq5 : d5.quota = 16777216 := hn5.quota.trans (hn4.quota.trans HLf.out.quota)
                have hk5 : d5.clock ≤ 40 + 40 * i + 30 := by have h1 := hn5.clock; have h2 := hn4.clock; have h3 := HLf.out.clock; omega
                have hj5 : d5.deeds ≤ 40 + 40 * i + 30 := by have h1 := hn5.deeds; have h2 := hn4.deeds; have h3 := HLf.out.deeds; omega
                obtain ⟨ga, gc, rfl, _⟩ := hsf5.mat
                have hG60 : G.length ≤ 1000000 := by
                  rcases hhas with ⟨t, _, h2, h3⟩ | ⟨h2, h3⟩
                  · rw [h3, List.length_take]; omega
                  · rw [h3]; have := (hro4 h2).2.1; omega
                have hst := starts_c s hsf5.mat hrows5.mat hac hG60
                have H5 := Lib.hid (And.intro hb5 (And.intro hrows5 (And.intro hap5 (And.intro hd5 (And.intro hO5 (And.intro hlog5 (And.intro hZ5 hYZ)))))))
                have H6 := Lib.hid (And.intro hq5 (And.intro hk5 (And.intro hj5 (And.intro hhas (And.intro hsf5 (And.intro hs5 hro4))))))
                have HAN := Lib.hid (And.intro han (And.intro hcn hG60))
                clear hs5 hYZ hd5 hn5 hZ5 hlg5 hlog5 hsf5 hO5 hs4 hn4 hhas hro4 hold4 hb4 hb5 hrw4 hrows5 hap5 hq5 hk5 hj5 HF4 han hcn hG60
                generalize hgl : G.length = gl at *
                have HGL := Lib.hid hgl
                clear hgl
                by_cases hB : (s ≤ gl ∧ gl ≤ rs.length ∧ G = rs.take gl)
                · have hgn : gl ≤ an := by rw [HAN.out.1]; exact hB.2.1
                  rw [show decide (s ≤ gl ∧ gl ≤ rs.length ∧ G = rs.take gl) = true from decide_eq_true hB] at hst
                  have HBB := Lib.hid hB
                  clear hB
                  go_wp2_with fail
                  refine hst.mono ?_
                  rintro e w6 ⟨rfl, hb6⟩
                  clear hst
                  have hsy := sync_found (vo := .slice oa on oc) (c := i) (fun y hy => H5.out.2.2.2.2.2.2.2 y (HLf.out.old y hy)) (H5.out.1.trans (hb6.mono H5.out.1.size)) (H5.out.2.2.2.2.2.1.below hb6) H5.out.2.2.2.2.2.2.1 (va := .slice aa gl ac) (rs := G) (fun b hb => by have := H5.out.2.2.1 b (by cases aa <;> exact hb); omega)
                    (by rw [HBB.out.2.2]; exact (H5.out.2.1.take hgn).same (Same.of_below hb6)) (by rw [HGL.out]; have := HAN.out.1; have := HAN.out.2.1; omega) (fun r hr => by rw [HBB.out.2.2] at hr; exact HLf.out.short r (List.mem_of_mem_take hr)) H6.out.1 H6.out.2.1 H6.out.2.2.1 (H5.out.2.2.2.1.keep hb6) H5.out.2.2.2.2.1 (by omega)
                  rw [HGL.out] at hsy
                  clear hb6
                  go_wp2_with fail
                  refine hsy.mono ?_
                  rintro e w7 ⟨rfl, hR7⟩
                  clear hsy
                  have HR7 := Lib.hid hR7
                  clear hR7
                  go_wp2
                  go_roundw
                  case rel => exact ⟨i + 1, by omega, by go_num, lg5, rfl, aa, gl, ac, rfl, gl, rfl, oa, on, oc, rfl, false, rfl, HR7⟩
                  case measure => simp [intOf]; omega
                · rw [show decide (s ≤ gl ∧ gl ≤ rs.length ∧ G = rs.take gl) = false from decide_eq_false hB] at hst
                  have hGo : G = o4 := by
                    rcases H6.out.2.2.2.1 with ⟨t, h1, h2, h3⟩ | ⟨_, h⟩
                    · have hl : gl = t := by rw [← HGL.out, h3, List.length_take]; omega
                      exact absurd (by rw [hl]; exact ⟨h1, h2, h3⟩) hB
                    · exact h
                  have hoo := H6.out.2.2.2.2.2.2 (by first | rfl | trivial)
                  have hoY : RowsY Z w.heap.size w5 (.slice oa on oc) G := by rw [hGo]; exact (hoo.1.same H6.out.2.2.2.2.2.1).more H5.out.2.2.2.2.2.2.2
                  have honl := (Mat.at hoY.mat).1
                  rw [HGL.out] at honl
                  subst honl
                  have hapo : ∀ b, Value.ownBlock (.slice oa on oc) = some b → b ≠ lg5 := fun b hb => by
                    obtain ⟨vs, h, _⟩ := hoo.1
                    have h1 := (h.lt b hb).2
                    have h2 := HLG.out
                    omega
                  clear hB
                  go_wp2_with fail
                  refine hst.mono ?_
                  rintro e w6 ⟨rfl, hb6⟩
                  clear hst
                  have hsm := same_c (Mat.below H6.out.2.2.2.2.1.mat hb6) (Mat.below hoY.mat hb6) (by have := HAN.out.2.2; omega)
                  rw [show decide (G = G) = true from decide_eq_true rfl] at hsm
                  have HO := Lib.hid (And.intro hoY (And.intro hapo (And.intro hoo.2 hGo)))
                  have HB6 := Lib.hid hb6
                  clear hoY hapo hoo hb6 hGo
                  go_wp2_with fail
                  refine hsm.mono ?_
                  rintro e w7 ⟨rfl, hb7⟩
                  clear hsm
                  have hb67 := HB6.out.trans (hb7.mono HB6.out.size)
                  have hsy := sync_found (vo := .slice oa on oc) (c := i) (fun y hy => H5.out.2.2.2.2.2.2.2 y (HLf.out.old y hy)) (H5.out.1.trans (hb67.mono H5.out.1.size)) (H5.out.2.2.2.2.2.1.below hb67) H5.out.2.2.2.2.2.2.1 (va := .slice oa on oc) (rs := G) HO.out.2.1
                    (HO.out.1.same (Same.of_below hb67)) (by rw [HO.out.2.2.2]; exact HO.out.2.2.1.1) (fun r hr => by rw [HO.out.2.2.2] at hr; exact HO.out.2.2.1.2 r hr) H6.out.1 H6.out.2.1 H6.out.2.2.1 (H5.out.2.2.2.1.keep hb67) H5.out.2.2.2.2.1 (by omega)
                  rw [HGL.out] at hsy
                  clear hb7 hb67
                  go_wp2_with fail
                  refine hsy.mono ?_
                  rintro e w8 ⟨rfl, hR8⟩
                  clear hsy
                  have HR8 := Lib.hid hR8
                  clear hR8
                  go_wp2
                  go_roundw
                  case rel => exact ⟨i + 1, by omega, by go_num, lg5, rfl, oa, on, oc, rfl, on, rfl, oa, on, oc, rfl, false, rfl, HR8⟩
                  case measure => simp [intOf]; omega
            · have ht1 : (wrap64 (xw.tmod 6 + 6)).tmod 6 = 5 := ht
              clear ht
              have harm := arm_round hr1 HLf.out HPh.out
              rw [← HWR.out] at harm
              go_wp2_with fail
              refine harm.mono ?_
              rintro e w4 ⟨⟨v, rfl⟩, hR4⟩
              have HR4 := Lib.hid hR4
              clear harm hR4
              go_wp2
              go_roundw
              case rel => exact ⟨i + 1, by omega, by go_num, lg, rfl, aa, an, ac, rfl, s, rfl, oa, on, oc, rfl, may, rfl, HR4⟩
              case measure => simp [intOf]; omega
          · go_wp2
            go_ret
            exact ⟨rfl, HBW.out.alloc HBW.out.size _⟩
        · go_wp2
          go_ret
          exact ⟨rfl, HBW.out.alloc HBW.out.size _⟩
      · obtain rfl : i = n := by omega
        obtain ⟨Y, d, rs, hL, _⟩ := HR.out
        have HBW := Lib.hid hL.below
        clear hL
        have haw := awake5_c wr
        go_wp2_with fail
        refine haw.mono ?_
        rintro e w4 ⟨rfl, hb4⟩
        clear haw
        go_wp2
        go_ret
        exact ⟨rfl, HBW.out.trans (hb4.mono HBW.out.size)⟩
  · go_enter Tryz.func3, Tryz.ntmps3
    go_wp2
    go_ret
    exact ⟨rfl, Below.refl _ _⟩
end Go.Proofs.YtfmelhcpccghdaaGreat.Rl
