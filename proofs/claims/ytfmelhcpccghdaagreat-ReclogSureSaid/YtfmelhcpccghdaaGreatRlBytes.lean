/-
  reclog's HEAD AND FRAME, AND ROWS OF BYTES.
-/
import Derived.Test.YtfmelhcpccghdaaGreatLogD
import Derived.Test.YtfmelhcpccghdaaGreatLie
import Derived.Test.YtfmelhcpccghdaaGreatCrcW
import Derived.Test.YtfmelhcpccghdaaGreatPk
import Derived.ArgAppend
namespace Go.Proofs.YtfmelhcpccghdaaGreat.Rl
open Go.RowKit Go.Maps

variable {w : World}

/-- a slice of bytes, at a plain address -/
structure Bt (w : World) (a : Option Addr) (n c : Nat) (l : List UInt8) : Prop where
  len : n = l.length
  cap : n ≤ c
  nil : a = none → c = 0
  cells : l = [] ∨ ∃ b o, a = some ⟨b, o, none⟩ ∧ b < w.heap.size ∧ ∀ j u, l[j]? = some u → w.cell? ⟨b, o + j, none⟩ = some (.int .u8 u.toNat)

theorem Bt.kept {a : Option Addr} {n c : Nat} {l : List UInt8} (h : Bt w a n c l) {w' : World} (hs : w.heap.size ≤ w'.heap.size) (hb : ∀ b o, a = some ⟨b, o, none⟩ → b < w.heap.size → w'.heap[b]? = w.heap[b]?) : Bt w' a n c l := by
  refine ⟨h.len, h.cap, h.nil, ?_⟩
  rcases h.cells with h1 | ⟨b, o, h1, h2, h3⟩
  · exact .inl h1
  · exact .inr ⟨b, o, h1, Nat.lt_of_lt_of_le h2 hs, fun j u hj => by rw [World.cell?_of_block (w := w) (a := ⟨b, o + j, none⟩) (hb b o h1 h2)]; exact h3 j u hj⟩
theorem Bt.below {a : Option Addr} {n c : Nat} {l : List UInt8} (h : Bt w a n c l) {w' : World} (hb : Below w.heap.size w w') : Bt w' a n c l := h.kept hb.size fun b _ _ hlt => hb.block b hlt
theorem bytesV_at {l : List UInt8} {j : Nat} {u : Value} (h : (bytesV l)[j]? = some u) : ∃ x, l[j]? = some x ∧ u = .int .u8 x.toNat := by
  simp only [bytesV, List.getElem?_map, Option.map_eq_some_iff] at h
  obtain ⟨x, h1, h2⟩ := h
  exact ⟨x, h1, h2.symm⟩
theorem Bt.row {a : Option Addr} {n c : Nat} {l : List UInt8} (h : Bt w a n c l) : BRow w (.slice a n c) l := by
  have hn := h.len
  subst hn
  cases a with
  | none =>
    have hc := h.nil rfl
    have h0 : l.length = 0 := by have := h.cap; omega
    left
    rw [hc, h0]
    exact ⟨rfl, List.eq_nil_of_length_eq_zero h0⟩
  | some a =>
    right
    refine ⟨a, c, rfl, fun h0 => ?_, fun j u hj => ?_⟩
    · rcases h.cells with h1 | ⟨b, o, h1, h2, _⟩
      · exact absurd h1 h0
      · cases h1; exact h2
    · obtain ⟨x, hx, rfl⟩ := bytesV_at hj
      rcases h.cells with h1 | ⟨b, o, h1, _, h3⟩
      · rw [h1] at hx; simp at hx
      · cases h1
        rw [Go.WideShapes.add_plain]
        exact h3 j x hx
theorem bt_of_row {a : Option Addr} {n c : Nat} {l : List UInt8} (h : BRow w (.slice a n c) l) (hc : n ≤ c) : Bt w a n c l := by
  rcases h with ⟨e, rfl⟩ | ⟨a', c', e, hlt, hcell⟩
  · cases e
    exact ⟨rfl, hc, fun _ => rfl, .inl rfl⟩
  · cases e
    refine ⟨rfl, hc, fun e => (by cases e), ?_⟩
    cases l with
    | nil => exact .inl rfl
    | cons x r =>
      right
      obtain ⟨b, o, sp⟩ := a'
      have h0 := hcell 0 (.int .u8 x.toNat) rfl
      have hsp : sp = none := by
        have := World.cell?_spot h0
        simpa [Addr.add] using this
      subst hsp
      refine ⟨b, o, rfl, hlt (by simp), fun j u hj => ?_⟩
      have := hcell j (.int .u8 u.toNat) (by simp only [bytesV, List.getElem?_map, hj]; rfl)
      rwa [Go.WideShapes.add_plain] at this
theorem Bt.owned {base : Nat} {a : Option Addr} {n c : Nat} {l : List UInt8} (h : w.ownsRow base 5 1 (.slice a n c) n (bytesV l)) : Bt w a n c l := by
  have hn : n = l.length := by have := h.1; rw [bytesV_length] at this; omega
  refine bt_of_row (row_bytes (base := base) (by rw [← hn]; exact h)) ?_
  rcases h.2 with ⟨e, h0⟩ | ⟨g, cap, cur, e, _, _, hle, _⟩
  · omega
  · cases e; exact hle

/-- the same, of the capacity nothing said -/
structure Bq (w : World) (a : Option Addr) (n c : Nat) (l : List UInt8) : Prop where
  len : n = l.length
  nil : a = none → c = 0
  cells : l = [] ∨ ∃ b o, a = some ⟨b, o, none⟩ ∧ b < w.heap.size ∧ ∀ j u, l[j]? = some u → w.cell? ⟨b, o + j, none⟩ = some (.int .u8 u.toNat)
theorem Bt.q {a : Option Addr} {n c : Nat} {l : List UInt8} (h : Bt w a n c l) : Bq w a n c l := ⟨h.len, h.nil, h.cells⟩
theorem Bq.below {a : Option Addr} {n c : Nat} {l : List UInt8} (h : Bq w a n c l) {w' : World} (hb : Below w.heap.size w w') : Bq w' a n c l := by
  refine ⟨h.len, h.nil, ?_⟩
  rcases h.cells with h1 | ⟨b, o, h1, h2, h3⟩
  · exact .inl h1
  · exact .inr ⟨b, o, h1, Nat.lt_of_lt_of_le h2 hb.size, fun j u hj => (hb.cell (p := ⟨b, o + j, none⟩) h2).trans (h3 j u hj)⟩
theorem bq_of_row {a : Option Addr} {n c : Nat} {l : List UInt8} (h : BRow w (.slice a n c) l) : Bq w a n c l := by
  rcases h with ⟨e, rfl⟩ | ⟨a', c', e, hlt, hcell⟩
  · cases e
    exact ⟨rfl, fun _ => rfl, .inl rfl⟩
  · cases e
    have h := bt_of_row (w := w) (a := some a') (n := l.length) (c := max l.length c) (l := l) (.inr ⟨a', _, rfl, hlt, hcell⟩) (Nat.le_max_left _ _)
    exact ⟨rfl, fun e => (by cases e), h.cells⟩

theorem nb_getD (l : List UInt8) (i : Nat) : (nb l).getD i 0 = (l.getD i 0).toNat := by
  unfold nb
  rw [List.getD_eq_getElem?_getD, List.getD_eq_getElem?_getD, List.getElem?_map]
  cases l[i]? <;> rfl
theorem Bq.pk {a : Option Addr} {n c : Nat} {l : List UInt8} (h : Bq w a n c l) : Pk.Row w a (nb l) := by
  rcases h.cells with h1 | ⟨b, o, h1, h2, h3⟩
  · left; rw [h1]; rfl
  · right
    refine ⟨b, o, h1, h2, fun i hi => ?_⟩
    rw [nb_length] at hi
    rw [nb_getD]
    have := h3 i l[i] (List.getElem?_eq_getElem hi)
    rw [this, List.getD_eq_getElem?_getD, List.getElem?_eq_getElem hi]
    rfl
theorem Bq.cr {a : Option Addr} {n c : Nat} {l : List UInt8} (h : Bq w a n c l) : Cr.Row w a (nb l) := h.pk
theorem Bt.pk {a : Option Addr} {n c : Nat} {l : List UInt8} (h : Bt w a n c l) : Pk.Row w a (nb l) := h.q.pk
theorem Bt.cr {a : Option Addr} {n c : Nat} {l : List UInt8} (h : Bt w a n c l) : Cr.Row w a (nb l) := h.q.pk
theorem bytesV_nb (l : List UInt8) : Pk.bytesV (nb l) = bytesV l := by simp [Pk.bytesV, bytesV, nb]
theorem le_nb (n : Nat) : Pk.le n 4 = nb (le4 n) := by
  simp [Pk.le, nb, le4, List.range_succ]

set_option maxRecDepth 100000 in
set_option maxHeartbeats 400000 in
theorem head_c (k : UInt8) (w : World) : Calls Tryz.prog 31 #[.int .u8 k.toNat] w fun e w' => ∃ a c, e = .returned (.slice a 8 c) ∧ w'.ownsRow w.heap.size 5 1 (.slice a 8 c) 8 (bytesV (head k)) ∧ Below w.heap.size w w' := by
  have kc := fun (w : World) (C : Array Value) (n c : Nat) => Lib.run_convert_bytes_const (P := Tryz.prog) w 31 5 C n c Tryz.underlying31 Tryz.underlying5
  obtain ⟨i0, hi, hz0, hz1, hz2⟩ := info_parts info5
  obtain ⟨w1, hw1⟩ : ∃ W, w.alloc (.cells #[.int .u8 66, .int .u8 76, .int .u8 87, .int .u8 49] 5 (4, 5)) = W := ⟨_, rfl⟩
  obtain ⟨w2, hw2⟩ : ∃ W, w1.alloc (.cells #[.int .u8 k.toNat, .int .u8 0, .int .u8 0, .int .u8 0] 5) = W := ⟨_, rfl⟩
  have z1 : w1.heap.size = w.heap.size + 1 := by rw [← hw1]; simp
  have hb1 : Below w.heap.size w w1 := by rw [← hw1]; exact below_alloc _ _
  have hb2 : Below w.heap.size w w2 := by rw [← hw2]; exact hb1.alloc (by omega) _
  have e1 : w1.heap[w.heap.size]? = some (.cells #[.int .u8 66, .int .u8 76, .int .u8 87, .int .u8 49] 5 (4, 5)) := by rw [← hw1]; exact heap_alloc_new _ _
  have e2 : w2.heap[w1.heap.size]? = some (.cells #[.int .u8 k.toNat, .int .u8 0, .int .u8 0, .int .u8 0] 5) := by rw [← hw2]; exact heap_alloc_new _ _
  have e1' : w2.heap[w.heap.size]? = some (.cells #[.int .u8 66, .int .u8 76, .int .u8 87, .int .u8 49] 5 (4, 5)) := by rw [← hw2, Below.heap_alloc _ _ _ (by omega)]; exact e1
  obtain ⟨v', w', hrun, hown, hg⟩ := run_append_arg_grows (P := Tryz.prog) w2 31 31 5 i0 (.int .u8 0) 1 1 Tryz.underlying31 hi hz0 hz1 hz2 rfl (by decide)
    ⟨w.heap.size, 0, none⟩ 4 4 [.int .u8 66, .int .u8 76, .int .u8 87, .int .u8 49] rfl (World.news_of_block (cs := #[.int .u8 66, .int .u8 76, .int .u8 87, .int .u8 49]) e1')
    ⟨w1.heap.size, 0, none⟩ 4 4 [.int .u8 k.toNat, .int .u8 0, .int .u8 0, .int .u8 0] rfl (World.news_of_block (cs := #[.int .u8 k.toNat, .int .u8 0, .int .u8 0, .int .u8 0]) e2) (by omega) (by unfold maxLen; omega) (by omega)
  have hown' : w'.ownsRow w.heap.size 5 1 v' 8 (bytesV (head k)) := Pk.owns_mono hown (by have := hb2.size; omega)
  have hb : Below w.heap.size w w' := hb2.trans ⟨hg.os, hg.tape, hg.output, hg.size, fun k hk => hg.block k (by have := hb2.size; omega) (by simp)⟩
  obtain ⟨a, c, rfl⟩ := row_len hown'
  have HO := Lib.hid hown'
  have HB := Lib.hid hb
  clear hown hown' hg hb hb1 hb2 e1 e2 e1' hi hz0 hz1 hz2 z1
  go_enter Tryz.func31, Tryz.ntmps31
  go_wp2_with (at_builtin; refine wpList_append_app rfl _ _ rfl rfl _ _ _ rfl rfl hrun ?_)
  go_ret
  exact ⟨_, _, rfl, HO.out, HB.out⟩
end Go.Proofs.YtfmelhcpccghdaaGreat.Rl

/-! reclog's FRAME, AND WHAT IT SCANS. -/
namespace Go.Proofs.YtfmelhcpccghdaaGreat.Rl
open Go.RowKit Go.Maps

variable {w : World}

set_option maxHeartbeats 2000000 in
theorem frame_long {a : Option Addr} {n c : Nat} (hl : 4096 < n) : Calls Tryz.prog 26 #[.slice a n c] w fun e w' => e = .returned (.tuple #[.slice none 0 0, .int .i64 3]) ∧ w = w' := by
  go_enter Tryz.func26, Tryz.ntmps26
  go_wp2
  go_ret2
  exact ⟨rfl, rfl⟩

set_option maxRecDepth 100000 in
set_option maxHeartbeats 4000000 in
theorem frame_c {a : Option Addr} {n c : Nat} {l : List UInt8} (h : Bq w a n c l) (hl : n ≤ 4096) :
    Calls Tryz.prog 26 #[.slice a n c] w fun e w' => ∃ a' c', e = .returned (.tuple #[.slice a' (8 + n) c', .int .i64 0]) ∧ w'.ownsRow w.heap.size 5 1 (.slice a' (8 + n) c') (8 + n) (bytesV (frame l)) ∧ Below w.heap.size w w' := by
  have H := Lib.hid h
  have h1 := Pk.u32_any none 0 0 [] n w (by omega) (Lib.hid rfl) (.inl rfl) (by omega)
  clear h
  go_enter Tryz.func26, Tryz.ntmps26
  go_wp2_with fail
  refine h1.mono ?_
  rintro e w1 ⟨a1, n1, c1, rfl, hown1, hb1⟩
  clear h1
  obtain ⟨a1', c1', e1, hn1, hr1, _⟩ := Pk.row_owned hown1
  cases e1
  have hs := Cr.sum_any a n c (nb l) w1 (nb_lt l) (by rw [nb_length, ← H.out.len]; omega) (by rw [nb_length]; exact H.out.len) (H.out.below hb1).cr
  have hn1' : n1 = 4 := by rw [hn1]; simp [Pk.le_length]
  subst hn1'
  have HN := Lib.hid hn1
  have HR1 := Lib.hid hr1
  have HB1 := Lib.hid hb1
  clear hown1 hn1 hr1 hb1
  go_wp2_with fail
  refine hs.mono ?_
  rintro e w2 ⟨rfl, hb2⟩
  clear hs
  have h2 := Pk.u32_any a1 4 c1 ([] ++ Pk.le n 4) (Cr.Crc.sum (nb l)) w2 (Cr.Crc.more_lt _ _) HN (HR1.out.below hb2) (by omega)
  have HB2 := Lib.hid (HB1.out.trans (hb2.mono HB1.out.size))
  clear hb2 HR1
  go_wp2_with fail
  refine h2.mono ?_
  rintro e w3 ⟨a3, n3, c3, rfl, hown3, hb3⟩
  clear h2
  have hn3 : n3 = 8 := by
    have := hown3.1
    rw [Pk.bytesV_length] at this
    simp [Pk.le_length] at this
    omega
  subst hn3
  have HB3 := Lib.hid (HB2.out.trans (hb3.mono HB2.out.size))
  have hr := (H.out.below HB3.out).pk
  have hsz := hb3.size
  clear hb3
  go_wp2_with (at_builtin; refine Pk.wpList_append_bytes rfl _ _ rfl w2.heap.size _ 8 _ rfl hown3 a n c (nb l) rfl (by rw [nb_length]; exact H.out.len) H.out.nil hr _ rfl (by omega) hsz ?_; intro a4 n4 c4 w4 hown4 Hn4 _ hr4 _ hb4)
  have hn4 : n4 = 8 + n := by rw [Hn4.out]; simp [Pk.le_length, nb_length, H.out.len]; omega
  subst hn4
  have he : [] ++ Pk.le n 4 ++ Pk.le (Cr.Crc.sum (nb l)) 4 ++ nb l = nb (frame l) := by
    rw [le_nb, le_nb, List.nil_append, List.append_assoc, ← nb_append, ← nb_append]
    show nb (le4 n ++ (le4 (csum l) ++ l)) = _
    unfold frame
    rw [H.out.len]
  rw [he, bytesV_nb] at hown4
  go_ret2
  exact ⟨a4, c4, rfl, Pk.owns_mono hown4 HB2.out.size, HB3.out.trans (hb4.mono (by have := HB2.out.size; omega))⟩
end Go.Proofs.YtfmelhcpccghdaaGreat.Rl

/-! ROWS OF RECORDS THAT THE CALL HAS MADE; bytes that are compared. -/
namespace Go.Proofs.YtfmelhcpccghdaaGreat.Rl
open Go.RowKit Go.Maps

variable {w : World}

/-- rows of bytes of the call's own -/
def Rows (base : Nat) (w : World) (v : Value) (rs : List (List UInt8)) : Prop :=
  ∃ vs : List Value, w.ownsRow base 31 1 v rs.length vs ∧ ∀ (j : Nat) (r : List UInt8), rs[j]? = some r → ∃ u, vs[j]? = some u ∧ w.ownsRow base 5 1 u r.length (bytesV r)

theorem rows_nil (base : Nat) (w : World) : Rows base w (.slice none 0 0) [] := ⟨[], World.ownsRow_nil _ _ _ _, fun j r hj => by cases hj⟩
theorem Rows.val {base : Nat} {v : Value} {rs : List (List UInt8)} (h : Rows base w v rs) : ∃ a c, v = .slice a rs.length c := by
  obtain ⟨vs, h, _⟩ := h
  exact row_len h
theorem owns_mono1 {w : World} {b b' : Nat} {e : TypeId} {size : Nat} {v : Value} {n : Nat} {xs : List Value} (h : w.ownsRow b e size v n xs) (hb : b' ≤ b) : w.ownsRow b' e size v n xs := by
  refine ⟨h.1, ?_⟩
  rcases h.2 with h | ⟨g, cap, cur, h1, h2, h3⟩
  · exact .inl h
  · exact .inr ⟨g, cap, cur, h1, by omega, h3⟩
theorem Rows.mono {base base' : Nat} {v : Value} {rs : List (List UInt8)} (h : Rows base w v rs) (hb : base' ≤ base) : Rows base' w v rs := by
  obtain ⟨vs, h1, h2⟩ := h
  refine ⟨vs, owns_mono1 h1 hb, fun j r hj => ?_⟩
  obtain ⟨u, h3, h4⟩ := h2 j r hj
  exact ⟨u, h3, owns_mono1 h4 hb⟩
theorem Rows.keptBy {base : Nat} {v : Value} {rs : List (List UInt8)} (h : Rows base w v rs) {w' : World} (hb : ∀ k, base ≤ k → k < w.heap.size → w'.heap[k]? = w.heap[k]?) : Rows base w' v rs := by
  obtain ⟨vs, h1, h2⟩ := h
  refine ⟨vs, row_kept h1 fun k hk => hb k (h1.lt k hk).1 (h1.lt k hk).2, fun j r hj => ?_⟩
  obtain ⟨u, h3, h4⟩ := h2 j r hj
  exact ⟨u, h3, row_kept h4 fun k hk => hb k (h4.lt k hk).1 (h4.lt k hk).2⟩
theorem Rows.below {base : Nat} {v : Value} {rs : List (List UInt8)} (h : Rows base w v rs) {w' : World} (hb : Below w.heap.size w w') : Rows base w' v rs := h.keptBy fun k _ hk => hb.block k hk
theorem Rows.mat {base : Nat} {v : Value} {rs : List (List UInt8)} (h : Rows base w v rs) : Mat w v rs := by
  obtain ⟨vs, h1, h2⟩ := h
  obtain ⟨a, c, rfl⟩ := row_len h1
  refine ⟨a, c, rfl, fun j r hj => ?_⟩
  obtain ⟨u, h3, h4⟩ := h2 j r hj
  have hlt := (List.getElem?_eq_some_iff.1 hj).1
  rcases h1.2 with ⟨_, h0⟩ | ⟨g, cap, cur, e, _, hg, _⟩
  · omega
  · cases e
    refine ⟨g, 0, u, rfl, lt_of_some hg, ?_, row_bytes h4⟩
    have := h1.cells (g := g) rfl j u h3
    rwa [Go.WideShapes.add_plain] at this

theorem infoRow : (Tryz.prog.info? 31).map (fun i => (i.zero, i.size, i.bytes)) = some (some (.slice none 0 0), 1, 24) := by kernel_rfl

theorem wpList_append_rows {w w2 : World} {ops : Array Oper} {rest : List Oper} {o : Oper} {a : Act} {Q : Exit → Act → World → Prop} (hgd : o.guard = none) (s x : Operand)
    (ho : o.op = .call { callee := .builtin .append, args := #[s, x], argTypes := #[28, 28] }) (hty : o.type = 28) (v1 v2 v : Value) (hs : a.eval s = v1) (hx : a.eval x = v2)
    (hrun : (Builtin.append_ #[28, 28] 28 #[v1, v2]).run Tryz.prog w = .ok v w2) (h : wpList Tryz.prog ops Q rest (a.put o.dst v) w2) : wpList Tryz.prog ops Q (o :: rest) a w := by
  refine wpList_plain hgd fun K hK => ?_
  unfold Oper.wp
  simp [execOp, ho, hty, resolve, invoke, builtin, hs, hx, hrun, Result.andThen]
  exact hK _ _ h

/-- a record more -/
theorem rows_app {base base' : Nat} {a : Option Addr} {c : Nat} {u : Value} {rs : List (List UInt8)} {r : List UInt8} (h : Rows base w (.slice a rs.length c) rs) (hu : w.ownsRow base' 5 1 u r.length (bytesV r)) (hbb : base ≤ base') (hbs : base ≤ w.heap.size) (hn : rs.length ≤ 1000000) :
    ∃ a' c' w', (Builtin.append_ #[28, 28] 28 #[.slice a rs.length c, .slice (some ⟨w.heap.size, 0, none⟩) 1 1]).run Tryz.prog (w.alloc (.cells #[u] 31)) = .ok (.slice a' (rs.length + 1) c') w' ∧ Rows base w' (.slice a' (rs.length + 1) c') (rs ++ [r]) ∧ Below base w w' := by
  obtain ⟨i0, hi, hz0, hz1, hz2⟩ := info_parts infoRow
  obtain ⟨vs, h1, h2⟩ := h
  obtain ⟨w1, hw1⟩ : ∃ W, w.alloc (.cells #[u] 31) = W := ⟨_, rfl⟩
  have hb1 : Below w.heap.size w w1 := by rw [← hw1]; exact below_alloc _ _
  have e1 : w1.heap[w.heap.size]? = some (.cells #[u] 31 (0, 0)) := by rw [← hw1]; exact heap_alloc_new _ _
  rw [hw1]
  have h11 := row_kept (w' := w1) h1 fun k hk => hb1.block k (h1.lt k hk).2
  have huo : ∀ x ∈ [u], x.oneCell' = true := by
    intro x hx
    rw [List.mem_singleton] at hx
    subst hx
    obtain ⟨ua, uc, rfl⟩ := row_len hu
    rfl
  obtain ⟨v', w', hrun, hown, hg, _⟩ := run_append_own (P := Tryz.prog) w1 base 28 28 31 i0 (.slice none 0 0) 1 24 Tryz.underlying28 hi hz0 hz1 hz2 rfl (by decide) _ _ vs h11 ⟨w.heap.size, 0, none⟩ 1 1 [u] rfl (World.news_of_block (cs := #[u]) e1) huo (by unfold maxLen; omega) (by omega) (by have := hb1.size; omega)
  obtain ⟨a', c', rfl⟩ := row_len hown
  have hg5 : ∀ (k : Nat) (v : Value) (n : Nat) (xs : List Value) (b : Nat), w1.ownsRow b 5 1 v n xs → v.ownBlock = some k → w'.heap[k]? = w1.heap[k]? := by
    intro k v n xs b hv hk
    refine hg.block k (hv.lt k hk).2 fun e => ?_
    obtain ⟨cur, hc⟩ := row_elem hv hk
    obtain ⟨cur2, hc2⟩ := row_elem h11 e.symm
    rw [hc] at hc2
    cases hc2
  refine ⟨a', c', w', hrun, ⟨vs ++ [u], ?_, fun j x hj => ?_⟩, ?_⟩
  · rw [List.length_append]
    exact hown
  · have hvl : vs.length = rs.length := by have := h1.1; omega
    by_cases hjl : j < rs.length
    · rw [List.getElem?_append_left hjl] at hj
      obtain ⟨y, h3, h4⟩ := h2 j x hj
      have h4' := row_kept (w' := w1) h4 fun k hk => hb1.block k (h4.lt k hk).2
      exact ⟨y, by rw [List.getElem?_append_left (by omega)]; exact h3, row_kept h4' fun k hk => hg5 k _ _ _ _ h4' hk⟩
    · rw [List.getElem?_append_right (by omega)] at hj
      have hj0 : j - rs.length = 0 := by
        have := (List.getElem?_eq_some_iff.1 hj).1
        simp at this
        omega
      rw [hj0] at hj
      simp at hj
      subst hj
      have hu' := row_kept (w' := w1) hu fun k hk => hb1.block k (hu.lt k hk).2
      exact ⟨u, by rw [List.getElem?_append_right (by omega), hvl, hj0]; rfl, owns_mono1 (row_kept hu' fun k hk => hg5 k _ _ _ _ hu' hk) hbb⟩
  · exact (hb1.mono hbs).trans ⟨hg.os, hg.tape, hg.output, hg.size, fun k hk => hg.block k (by have := hb1.size; omega) fun e => by have := (h11.lt k e.symm).1; omega⟩

set_option maxHeartbeats 1000000 in
theorem equal_c {va vb : Value} {A B : List UInt8} (ha : BRow w va A) (hb : BRow w vb B) : Calls Tryz.prog 82 #[va, vb] w fun e w' => e = .returned (.bool (decide (A = B))) ∧ w = w' := by
  have ca := conv_b ha
  have cb := conv_b hb
  by_cases h : A = B
  · subst h
    rw [show decide (A = A) = true from decide_eq_true rfl]
    clear ha hb
    go_enter Tryz.func82, Tryz.ntmps82
    go_wp2
    go_ret
    exact ⟨rfl, rfl⟩
  · have hz : ((mk A).toList == (mk B).toList) = false := by rw [mk_toList, mk_toList]; exact beq_false_of_ne h
    rw [show decide (A = B) = false from decide_eq_false h]
    clear h ha hb
    go_enter Tryz.func82, Tryz.ntmps82
    go_wp2
    go_ret
    exact ⟨rfl, rfl⟩

theorem Bt.take {a : Option Addr} {n c : Nat} {l : List UInt8} (h : Bt w a n c l) {m : Nat} (hm : m ≤ n) : Bt w a m c (l.take m) := by
  have hl := h.len
  refine ⟨by rw [List.length_take]; omega, by have := h.cap; omega, h.nil, ?_⟩
  rcases h.cells with h1 | ⟨b, o, h1, h2, h3⟩
  · left; rw [h1, List.take_nil]
  · refine .inr ⟨b, o, h1, h2, fun j u hj => h3 j u ?_⟩
    rw [List.getElem?_take] at hj
    split at hj
    · exact hj
    · cases hj

set_option maxHeartbeats 1000000 in
/-- bytes.HasPrefix, of a prefix that is not longer -/
theorem hasPrefix_c {a b : Option Addr} {n c m k : Nat} {l p : List UInt8} (hs : Bt w a n c l) (hp : Bt w b m k p) (hm : m ≤ n) : Calls Tryz.prog 68 #[.slice a n c, .slice b m k] w fun e w' => e = .returned (.bool (decide (l.take m = p))) ∧ w = w' := by
  have he := equal_c (hs.take hm).row hp.row
  have hc := hs.cap
  clear hs hp
  go_enter Tryz.func68, Tryz.ntmps68
  go_wp2_with fail
  refine he.mono ?_
  rintro e w1 ⟨rfl, rfl⟩
  go_wp2
  go_ret
  exact ⟨rfl, rfl⟩
end Go.Proofs.YtfmelhcpccghdaaGreat.Rl
