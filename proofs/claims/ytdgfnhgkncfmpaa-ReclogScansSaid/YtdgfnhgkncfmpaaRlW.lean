/-
  reclog's HEAD AND FRAME, AND ROWS OF BYTES.
-/
import Derived.Test.YtdgfnhgkncfmpaaLogD
import Derived.Test.YtdgfnhgkncfmpaaLie
import Derived.Test.YtdgfnhgkncfmpaaCrcW
import Derived.Test.YtdgfnhgkncfmpaaPkMeth
import Derived.ArgAppend
namespace Go.Proofs.Ytdgfnhgkncfmpaa.Rl
open Go.RowKit Go.Maps

variable {w : World}

/-- a slice of bytes, at a plain address -/
structure Bt (w : World) (a : Option Addr) (n c : Nat) (l : List UInt8) : Prop where
  len : n = l.length
  cap : n ≤ c
  nil : a = none → c = 0
  cells : l = [] ∨ ∃ b o, a = some ⟨b, o, none⟩ ∧ b < w.heap.size ∧ ∀ j u, l[j]? = some u → w.cell? ⟨b, o + j, none⟩ = some (.int .u8 u.toNat)

theorem Bt.kept {a : Option Addr} {n c : Nat} {l : List UInt8} (h : Bt w a n c l) {w' : World} (hs : w.heap.size ≤ w'.heap.size) (hb : ∀ b o, a = some ⟨b, o, none⟩ → b < w.heap.size → w'.heap[b]? = w.heap[b]?) : Bt w' a n c l := by
  refine ⟨h.len, h.cap, h.nil, ?_⟩
  rcases h.cells with h1 | ⟨b, o, h1, h2, h3⟩
  · exact .inl h1
  · exact .inr ⟨b, o, h1, Nat.lt_of_lt_of_le h2 hs, fun j u hj => by rw [World.cell?_of_block (w := w) (a := ⟨b, o + j, none⟩) (hb b o h1 h2)]; exact h3 j u hj⟩
theorem Bt.below {a : Option Addr} {n c : Nat} {l : List UInt8} (h : Bt w a n c l) {w' : World} (hb : Below w.heap.size w w') : Bt w' a n c l := h.kept hb.size fun b _ _ hlt => hb.block b hlt
theorem bytesV_at {l : List UInt8} {j : Nat} {u : Value} (h : (bytesV l)[j]? = some u) : ∃ x, l[j]? = some x ∧ u = .int .u8 x.toNat := by
  simp only [bytesV, List.getElem?_map, Option.map_eq_some_iff] at h
  obtain ⟨x, h1, h2⟩ := h
  exact ⟨x, h1, h2.symm⟩
theorem Bt.row {a : Option Addr} {n c : Nat} {l : List UInt8} (h : Bt w a n c l) : BRow w (.slice a n c) l := by
  have hn := h.len
  subst hn
  cases a with
  | none =>
    have hc := h.nil rfl
    have h0 : l.length = 0 := by have := h.cap; omega
    left
    rw [hc, h0]
    exact ⟨rfl, List.eq_nil_of_length_eq_zero h0⟩
  | some a =>
    right
    refine ⟨a, c, rfl, fun h0 => ?_, fun j u hj => ?_⟩
    · rcases h.cells with h1 | ⟨b, o, h1, h2, _⟩
      · exact absurd h1 h0
      · cases h1; exact h2
    · obtain ⟨x, hx, rfl⟩ := bytesV_at hj
      rcases h.cells with h1 | ⟨b, o, h1, _, h3⟩
      · rw [h1] at hx; simp at hx
      · cases h1
        rw [Go.WideShapes.add_plain]
        exact h3 j x hx
theorem bt_of_row {a : Option Addr} {n c : Nat} {l : List UInt8} (h : BRow w (.slice a n c) l) (hc : n ≤ c) : Bt w a n c l := by
  rcases h with ⟨e, rfl⟩ | ⟨a', c', e, hlt, hcell⟩
  · cases e
    exact ⟨rfl, hc, fun _ => rfl, .inl rfl⟩
  · cases e
    refine ⟨rfl, hc, fun e => (by cases e), ?_⟩
    cases l with
    | nil => exact .inl rfl
    | cons x r =>
      right
      obtain ⟨b, o, sp⟩ := a'
      have h0 := hcell 0 (.int .u8 x.toNat) rfl
      have hsp : sp = none := by
        have := World.cell?_spot h0
        simpa [Addr.add] using this
      subst hsp
      refine ⟨b, o, rfl, hlt (by simp), fun j u hj => ?_⟩
      have := hcell j (.int .u8 u.toNat) (by simp only [bytesV, List.getElem?_map, hj]; rfl)
      rwa [Go.WideShapes.add_plain] at this
theorem Bt.owned {base : Nat} {a : Option Addr} {n c : Nat} {l : List UInt8} (h : w.ownsRow base 5 1 (.slice a n c) n (bytesV l)) : Bt w a n c l := by
  have hn : n = l.length := by have := h.1; rw [bytesV_length] at this; omega
  refine bt_of_row (row_bytes (base := base) (by rw [← hn]; exact h)) ?_
  rcases h.2 with ⟨e, h0⟩ | ⟨g, cap, cur, e, _, _, hle, _⟩
  · omega
  · cases e; exact hle

/-- the same, of the capacity nothing said -/
structure Bq (w : World) (a : Option Addr) (n c : Nat) (l : List UInt8) : Prop where
  len : n = l.length
  nil : a = none → c = 0
  cells : l = [] ∨ ∃ b o, a = some ⟨b, o, none⟩ ∧ b < w.heap.size ∧ ∀ j u, l[j]? = some u → w.cell? ⟨b, o + j, none⟩ = some (.int .u8 u.toNat)
theorem Bt.q {a : Option Addr} {n c : Nat} {l : List UInt8} (h : Bt w a n c l) : Bq w a n c l := ⟨h.len, h.nil, h.cells⟩
theorem Bq.below {a : Option Addr} {n c : Nat} {l : List UInt8} (h : Bq w a n c l) {w' : World} (hb : Below w.heap.size w w') : Bq w' a n c l := by
  refine ⟨h.len, h.nil, ?_⟩
  rcases h.cells with h1 | ⟨b, o, h1, h2, h3⟩
  · exact .inl h1
  · exact .inr ⟨b, o, h1, Nat.lt_of_lt_of_le h2 hb.size, fun j u hj => (hb.cell (p := ⟨b, o + j, none⟩) h2).trans (h3 j u hj)⟩
theorem bq_of_row {a : Option Addr} {n c : Nat} {l : List UInt8} (h : BRow w (.slice a n c) l) : Bq w a n c l := by
  rcases h with ⟨e, rfl⟩ | ⟨a', c', e, hlt, hcell⟩
  · cases e
    exact ⟨rfl, fun _ => rfl, .inl rfl⟩
  · cases e
    have h := bt_of_row (w := w) (a := some a') (n := l.length) (c := max l.length c) (l := l) (.inr ⟨a', _, rfl, hlt, hcell⟩) (Nat.le_max_left _ _)
    exact ⟨rfl, fun e => (by cases e), h.cells⟩

theorem nb_getD (l : List UInt8) (i : Nat) : (nb l).getD i 0 = (l.getD i 0).toNat := by
  unfold nb
  rw [List.getD_eq_getElem?_getD, List.getD_eq_getElem?_getD, List.getElem?_map]
  cases l[i]? <;> rfl
theorem Bq.pk {a : Option Addr} {n c : Nat} {l : List UInt8} (h : Bq w a n c l) : Pk.Row w a (nb l) := by
  rcases h.cells with h1 | ⟨b, o, h1, h2, h3⟩
  · left; rw [h1]; rfl
  · right
    refine ⟨b, o, h1, h2, fun i hi => ?_⟩
    rw [nb_length] at hi
    rw [nb_getD]
    have := h3 i l[i] (List.getElem?_eq_getElem hi)
    rw [this, List.getD_eq_getElem?_getD, List.getElem?_eq_getElem hi]
    rfl
theorem Bq.cr {a : Option Addr} {n c : Nat} {l : List UInt8} (h : Bq w a n c l) : Cr.Row w a (nb l) := h.pk
theorem Bt.pk {a : Option Addr} {n c : Nat} {l : List UInt8} (h : Bt w a n c l) : Pk.Row w a (nb l) := h.q.pk
theorem Bt.cr {a : Option Addr} {n c : Nat} {l : List UInt8} (h : Bt w a n c l) : Cr.Row w a (nb l) := h.q.pk
theorem bytesV_nb (l : List UInt8) : Pk.bytesV (nb l) = bytesV l := by simp [Pk.bytesV, bytesV, nb]
theorem le_nb (n : Nat) : Pk.le n 4 = nb (le4 n) := by
  simp [Pk.le, nb, le4, List.range_succ]

set_option maxRecDepth 100000 in
set_option maxHeartbeats 400000 in
theorem head_c (k : UInt8) (w : World) : Calls Try.prog 27 #[.int .u8 k.toNat] w fun e w' => ∃ a c, e = .returned (.slice a 8 c) ∧ w'.ownsRow w.heap.size 5 1 (.slice a 8 c) 8 (bytesV (head k)) ∧ Below w.heap.size w w' := by
  have kc := fun (w : World) (C : Array Value) (n c : Nat) => Lib.run_convert_bytes_const (P := Try.prog) w 23 5 C n c Try.underlying23 Try.underlying5
  obtain ⟨i0, hi, hz0, hz1, hz2⟩ := info_parts info5
  obtain ⟨w1, hw1⟩ : ∃ W, w.alloc (.cells #[.int .u8 66, .int .u8 76, .int .u8 87, .int .u8 49] 5 (4, 5)) = W := ⟨_, rfl⟩
  obtain ⟨w2, hw2⟩ : ∃ W, w1.alloc (.cells #[.int .u8 k.toNat, .int .u8 0, .int .u8 0, .int .u8 0] 5) = W := ⟨_, rfl⟩
  have z1 : w1.heap.size = w.heap.size + 1 := by rw [← hw1]; simp
  have hb1 : Below w.heap.size w w1 := by rw [← hw1]; exact below_alloc _ _
  have hb2 : Below w.heap.size w w2 := by rw [← hw2]; exact hb1.alloc (by omega) _
  have e1 : w1.heap[w.heap.size]? = some (.cells #[.int .u8 66, .int .u8 76, .int .u8 87, .int .u8 49] 5 (4, 5)) := by rw [← hw1]; exact heap_alloc_new _ _
  have e2 : w2.heap[w1.heap.size]? = some (.cells #[.int .u8 k.toNat, .int .u8 0, .int .u8 0, .int .u8 0] 5) := by rw [← hw2]; exact heap_alloc_new _ _
  have e1' : w2.heap[w.heap.size]? = some (.cells #[.int .u8 66, .int .u8 76, .int .u8 87, .int .u8 49] 5 (4, 5)) := by rw [← hw2, heap_alloc_old _ _ _ (by omega)]; exact e1
  obtain ⟨v', w', hrun, hown, hg⟩ := run_append_arg_grows (P := Try.prog) w2 23 23 5 i0 (.int .u8 0) 1 1 Try.underlying23 hi hz0 hz1 hz2 rfl (by decide)
    ⟨w.heap.size, 0, none⟩ 4 4 [.int .u8 66, .int .u8 76, .int .u8 87, .int .u8 49] rfl (World.news_of_block (cs := #[.int .u8 66, .int .u8 76, .int .u8 87, .int .u8 49]) e1')
    ⟨w1.heap.size, 0, none⟩ 4 4 [.int .u8 k.toNat, .int .u8 0, .int .u8 0, .int .u8 0] rfl (World.news_of_block (cs := #[.int .u8 k.toNat, .int .u8 0, .int .u8 0, .int .u8 0]) e2) (by omega) (by unfold maxLen; omega) (by omega)
  have hown' : w'.ownsRow w.heap.size 5 1 v' 8 (bytesV (head k)) := Pk.owns_mono hown (by have := hb2.size; omega)
  have hb : Below w.heap.size w w' := hb2.trans ⟨hg.os, hg.tape, hg.output, hg.size, fun k hk => hg.block k (by have := hb2.size; omega) (by simp)⟩
  obtain ⟨a, c, rfl⟩ := row_len hown'
  have HO := Lib.hid hown'
  have HB := Lib.hid hb
  clear hown hown' hg hb hb1 hb2 e1 e2 e1' hi hz0 hz1 hz2 z1
  go_enter Try.func27, Try.ntmps27
  go_wp2_with (at_builtin; refine wpList_append_app rfl _ _ rfl rfl _ _ _ rfl rfl hrun ?_)
  go_ret
  exact ⟨_, _, rfl, HO.out, HB.out⟩
end Go.Proofs.Ytdgfnhgkncfmpaa.Rl
