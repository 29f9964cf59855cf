/-
  runs.Write, WALKED: its closures, its two ways through a run's parts.
-/
import Derived.Test.YtdijpoemimebmaaRnEach
import Derived.Deep.RegionHeld3
import Derived.RegionTactic
import Derived.ChangeAlike
namespace Go.Proofs.Ytdijpoemimebmaa.Rn
open Go.RowKit
open Go.Proofs.Ytdijpoemimebmaa.Cr

/-- nothing that was there has turned but these blocks -/
structure Off (C : Nat → Prop) (w w' : World) : Prop where
  os : w'.os = w.os
  tape : w'.tape = w.tape
  output : w'.output = w.output
  size : w.heap.size ≤ w'.heap.size
  block : ∀ k, k < w.heap.size → ¬ C k → w'.heap[k]? = w.heap[k]?

theorem Off.below {C : Nat → Prop} {B : Nat} {w w' : World} (h : Off C w w') (hB : ∀ k, C k → B ≤ k) (hs : B ≤ w.heap.size) : Below B w w' :=
  ⟨h.os, h.tape, h.output, h.size, fun k hk => h.block k (by omega) fun hc => by have := hB k hc; omega⟩

theorem one_cell {w : World} {p : Nat} {u : Value} {t : TypeId} (h : w.heap[p]? = some (.cells #[u] t (0, 0))) : w.cell? ⟨p, 0, Option.none⟩ = some u ∧ w.frozen? ⟨p, 0, Option.none⟩ = false := by
  simp [World.cell?, World.frozen?, h]

theorem lt_some {w : World} {p : Nat} {o : Obj} (h : w.heap[p]? = some o) : p < w.heap.size := by
  rcases Nat.lt_or_ge p w.heap.size with h' | h'
  · exact h'
  · rw [Array.getElem?_eq_none h'] at h; cases h

theorem set_one {w : World} {p : Nat} {u v : Value} {t : TypeId} (h : w.heap[p]? = some (.cells #[u] t (0, 0))) : (w.setCell ⟨p, 0, Option.none⟩ v).heap[p]? = some (.cells #[v] t (0, 0)) := by
  have := Pk.set_block (j := 0) (u := v) h
  simpa using this

theorem set_other {w : World} {p q : Nat} {j : Nat} {v : Value} (h : q ≠ p) : (w.setCell ⟨p, j, Option.none⟩ v).heap[q]? = w.heap[q]? := Below.heap_setCell _ _ _ _ h

theorem off_set {w : World} {p j : Nat} {v : Value} {C : Nat → Prop} (h : C p) : Off C w (w.setCell ⟨p, j, Option.none⟩ v) :=
  ⟨rfl, rfl, rfl, by simp [World.setCell], fun k _ hk => set_other fun e => hk (e ▸ h)⟩

theorem Off.trans {C : Nat → Prop} {a b c : World} (h : Off C a b) (k : Off C b c) : Off C a c :=
  ⟨k.os.trans h.os, k.tape.trans h.tape, k.output.trans h.output, Nat.le_trans h.size k.size, fun i hi hc => (k.block i (Nat.lt_of_lt_of_le hi h.size) hc).trans (h.block i hi hc)⟩

/-! the first way: is a time negative, how long is the record -/
def Two (W : World) (p q : Nat) (b : Bool) (n : Nat) : Prop := W.heap[p]? = some (.cells #[.bool b] 4 (0, 0)) ∧ W.heap[q]? = some (.cells #[.int .i64 (n : Int)] 3 (0, 0))

theorem clT {W : World} {p q : Nat} {b : Bool} {n : Nat} {s : ByteArray} (h : Two W p q b n) (hn : n ≤ 1000000000) (hs : s.size ≤ 1000000000) :
    Calls Try.prog 25 (#[.string s] ++ #[.pointer (some ⟨q, 0, Option.none⟩)]) W fun e W' => (∃ z, e = .returned z) ∧ Two W' p q b (n + (2 + s.size)) ∧ Off (fun k => k = p ∨ k = q) W W' := by
  obtain ⟨h4, h5⟩ := h
  obtain ⟨c5, f5⟩ := one_cell h5
  have hne : p ≠ q := by rintro rfl; rw [h4] at h5; simp at h5
  have H4 := Lib.hid h4
  have H5 := Lib.hid h5
  clear h4 h5
  simp only [List.append_toArray, List.cons_append, List.nil_append]
  go_enter Try.func25, Try.ntmps25
  go_wp2_with fail
  go_end0
  refine ⟨⟨_, rfl⟩, ⟨(set_other hne).trans H4.out, ?_⟩, off_set (.inr rfl)⟩
  refine (set_one H5.out).trans ?_
  simp

theorem clC {W : World} {p q : Nat} {b : Bool} {n : Nat} {m : Int} (h : Two W p q b n) (hn : n ≤ 1000000000) :
    Calls Try.prog 27 (#[.int .i64 m] ++ #[.pointer (some ⟨q, 0, Option.none⟩)]) W fun e W' => (∃ z, e = .returned z) ∧ Two W' p q b (n + 4) ∧ Off (fun k => k = p ∨ k = q) W W' := by
  obtain ⟨h4, h5⟩ := h
  obtain ⟨c5, f5⟩ := one_cell h5
  have hne : p ≠ q := by rintro rfl; rw [h4] at h5; simp at h5
  have H4 := Lib.hid h4
  have H5 := Lib.hid h5
  clear h4 h5
  simp only [List.append_toArray, List.cons_append, List.nil_append]
  go_enter Try.func27, Try.ntmps27
  go_wp2_with fail
  go_end0
  refine ⟨⟨_, rfl⟩, ⟨(set_other hne).trans H4.out, ?_⟩, off_set (.inr rfl)⟩
  refine (set_one H5.out).trans ?_
  simp

theorem two_end {W : World} {p q : Nat} {b b' : Bool} {n : Nat} {v : Int} (h4 : W.heap[p]? = some (.cells #[.bool b] 4 (0, 0))) (h5 : W.heap[q]? = some (.cells #[.int .i64 (n : Int)] 3 (0, 0))) (hne : p ≠ q) (hv : v = (n : Int) + 8) :
    Two (((W.setCell ⟨p, 0, Option.none⟩ (.bool b')).setCell ⟨q, 0, Option.none⟩ (.int .i64 v)).drew) p q b' (n + 8) ∧ Off (fun k => k = p ∨ k = q) W (((W.setCell ⟨p, 0, Option.none⟩ (.bool b')).setCell ⟨q, 0, Option.none⟩ (.int .i64 v)).drew) := by
  subst hv
  have hB := (off_set (w := W) (p := p) (j := 0) (v := .bool b') (C := fun k => k = p ∨ k = q) (.inl rfl)).trans (off_set (p := q) (j := 0) (v := .int .i64 ((n : Int) + 8)) (.inr rfl))
  refine ⟨⟨(set_other hne).trans (set_one h4), ?_⟩, ⟨hB.os, hB.tape, hB.output, hB.size, hB.block⟩⟩
  refine (set_one ((set_other hne.symm).trans h5)).trans ?_
  simp

set_option maxHeartbeats 1000000 in
theorem clM {W : World} {p q : Nat} {b : Bool} {n : Nat} {t : Int} (h : Two W p q b n) (hn : n ≤ 1000000000) :
    Calls Try.prog 26 (#[.int .i64 t] ++ #[.pointer (some ⟨p, 0, Option.none⟩), .pointer (some ⟨q, 0, Option.none⟩)]) W fun e W' => (∃ z, e = .returned z) ∧ Two W' p q (b || decide (t < 0)) (n + 8) ∧ Off (fun k => k = p ∨ k = q) W W' := by
  obtain ⟨h4, h5⟩ := h
  obtain ⟨c4, f4⟩ := one_cell h4
  obtain ⟨c5, f5⟩ := one_cell h5
  have hne : p ≠ q := by rintro rfl; rw [h4] at h5; simp at h5
  have hnq : q ≠ p := hne.symm
  have H4 := Lib.hid h4
  have H5 := Lib.hid h5
  clear h4 h5
  simp only [List.append_toArray, List.cons_append, List.nil_append]
  cases b
  · by_cases ht : t < 0
    · rw [decide_eq_true ht]
      go_enter Try.func26, Try.ntmps26
      go_wp2_with fail
      go_region
      go_end0
      exact ⟨⟨_, rfl⟩, two_end H4.out H5.out hne rfl⟩
    · rw [Bool.false_or]
      go_enter Try.func26, Try.ntmps26
      go_wp2_with fail
      go_region
      go_end0
      exact ⟨⟨_, rfl⟩, two_end H4.out H5.out hne rfl⟩
  · go_enter Try.func26, Try.ntmps26
    go_wp2_with fail
    go_region
    go_end0
    exact ⟨⟨_, rfl⟩, two_end H4.out H5.out hne rfl⟩

/-- the first way's state -/
def Inv1 (w1 : World) (p b4 b5 : Nat) (r : Run) (vi vf : Value) (ps : List Part) (W : World) : Prop :=
  W.heap[p]? = some (.cells (runC r vi vf) 33 (0, 0)) ∧ Two W b4 b5 (neg ps) (8 + size ps) ∧ Off (fun k => k = b4 ∨ k = b5) w1 W

theorem InRow.kept {w w' : World} {v : Value} {L : List In} (h : InRow w v L) (hs : w.heap.size ≤ w'.heap.size) (hb : ∀ k, k < w.heap.size → w'.heap[k]? = w.heap[k]?) : InRow w' v L := by
  obtain ⟨a, c, e, h1, h2, h3⟩ := h
  refine ⟨a, c, e, h1, h2, ?_⟩
  rcases h3 with h | ⟨b, off, e, hlt, hc⟩
  · exact .inl h
  · refine .inr ⟨b, off, e, by omega, fun i x hi => ?_⟩
    obtain ⟨x0, x1⟩ := hc i x hi
    exact ⟨(cell_of_block (hb b hlt)).trans x0, (cell_of_block (hb b hlt)).trans x1⟩

theorem FdRow.kept {w w' : World} {v : Value} {L : List Int} (h : FdRow w v L) (hs : w.heap.size ≤ w'.heap.size) (hb : ∀ k, k < w.heap.size → w'.heap[k]? = w.heap[k]?) : FdRow w' v L := by
  obtain ⟨a, c, e, h1, h2, h3⟩ := h
  refine ⟨a, c, e, h1, h2, ?_⟩
  rcases h3 with h | ⟨b, off, e, hlt, hc⟩
  · exact .inl h
  · refine .inr ⟨b, off, e, by omega, fun i x hi => ?_⟩
    exact (cell_of_block (hb b hlt)).trans (hc i x hi)

theorem InRow.below {w w' : World} {v : Value} {L : List In} (h : InRow w v L) (hb : Below w.heap.size w w') : InRow w' v L := h.kept hb.size hb.block
theorem FdRow.below {w w' : World} {v : Value} {L : List Int} (h : FdRow w v L) (hb : Below w.heap.size w w') : FdRow w' v L := h.kept hb.size hb.block

theorem box_of {w0 W : World} {p : Nat} {r : Run} {vi vf : Value} (h : W.heap[p]? = some (.cells (runC r vi vf) 33 (0, 0))) (hi : InRow w0 vi r.ins) (hf : FdRow w0 vf r.found) (hb : Below w0.heap.size w0 W) : Box W p r vi vf := by
  refine ⟨?_, ?_, ?_, ?_, ?_, ?_, hi.below hb, hf.below hb⟩ <;> simp [World.cell?, h, runC]

theorem size_pre {r : Run} {ps post : List Part} {x : Part} (h : parts r = ps ++ x :: post) : size ps + psz x ≤ size (parts r) := by
  rw [h, size_app]
  simp [size]

theorem neg_pre {r : Run} {ps post : List Part} {x : Part} (h : parts r = ps ++ x :: post) (hn : neg (parts r) = false) : pneg x = false := by
  rw [h, neg_app] at hn
  simp only [Bool.or_eq_false_iff] at hn
  have := hn.2
  simp [neg] at this
  exact this.1

theorem size_snoc (ps : List Part) (x : Part) : size (ps ++ [x]) = size ps + psz x := by simp [size]
theorem neg_snoc (ps : List Part) (x : Part) : neg (ps ++ [x]) = (neg ps || pneg x) := by simp [neg]
theorem bytes_snoc (ps : List Part) (x : Part) : bytes (ps ++ [x]) = bytes ps ++ pb x := by simp [bytes]

section
variable {w0 w1 : World} {p b4 b5 : Nat} {r : Run} {vi vf : Value}

theorem inv1_step {ps : List Part} {x : Part} {W W' : World} (h : Inv1 w1 p b4 b5 r vi vf ps W) (n : Nat) (b : Bool) (hn : n = 8 + size ps + psz x) (hb : b = (neg ps || pneg x)) (h2 : Two W' b4 b5 b n) (ho : Off (fun k => k = b4 ∨ k = b5) W W') :
    Inv1 w1 p b4 b5 r vi vf (ps ++ [x]) W' ∧ ∀ k, k < W.heap.size → ¬ (k = b4 ∨ k = b5) → W'.heap[k]? = W.heap[k]? := by
  subst hn hb
  obtain ⟨h1, hT, hB⟩ := h
  have n4 : p ≠ b4 := by rintro rfl; have := hT.1; rw [h1] at this; simp [runC] at this
  have n5 : p ≠ b5 := by rintro rfl; have := hT.2; rw [h1] at this; simp [runC] at this
  refine ⟨⟨(ho.block p (lt_some h1) (by simp [n4, n5])).trans h1, ?_, hB.trans ho⟩, ho.block⟩
  rw [neg_snoc, size_snoc, ← Nat.add_assoc]
  exact h2

theorem does1T (hsz : size (parts r) ≤ 100000000) :
    Does 25 #[.pointer (some ⟨b5, 0, Option.none⟩)] r pv (Inv1 w1 p b4 b5 r vi vf) (fun _ k => k = b4 ∨ k = b5) isT := by
  refine ⟨fun x W => by simp only [List.append_toArray, List.cons_append, List.nil_append]; rfl, fun ps x post W hx hp hI => ?_⟩
  cases x with
  | T s =>
    have hs := size_pre hp
    simp only [psz] at hs
    refine (clT hI.2.1 (by omega) (by omega)).mono fun e W' ⟨hz, hT, hO⟩ => ⟨hz, inv1_step (x := .T s) hI _ _ (by simp [psz]) (by simp [pneg]) hT hO⟩
  | M t => cases hx
  | C n => cases hx

theorem does1M (hsz : size (parts r) ≤ 100000000) :
    Does 26 #[.pointer (some ⟨b4, 0, Option.none⟩), .pointer (some ⟨b5, 0, Option.none⟩)] r pv (Inv1 w1 p b4 b5 r vi vf) (fun _ k => k = b4 ∨ k = b5) isM := by
  refine ⟨fun x W => by simp only [List.append_toArray, List.cons_append, List.nil_append]; rfl, fun ps x post W hx hp hI => ?_⟩
  cases x with
  | M t =>
    have hs := size_pre hp
    simp only [psz] at hs
    refine (clM (t := t) hI.2.1 (by omega)).mono fun e W' ⟨hz, hT, hO⟩ => ⟨hz, inv1_step (x := .M t) hI _ _ (by simp [psz]) (by simp [pneg]) hT hO⟩
  | T t => cases hx
  | C n => cases hx

theorem does1C (hsz : size (parts r) ≤ 100000000) :
    Does 27 #[.pointer (some ⟨b5, 0, Option.none⟩)] r pv (Inv1 w1 p b4 b5 r vi vf) (fun _ k => k = b4 ∨ k = b5) isC := by
  refine ⟨fun x W => by simp only [List.append_toArray, List.cons_append, List.nil_append]; rfl, fun ps x post W hx hp hI => ?_⟩
  cases x with
  | C m =>
    have hs := size_pre hp
    simp only [psz] at hs
    refine (clC (m := (m : Int)) hI.2.1 (by omega)).mono fun e W' ⟨hz, hT, hO⟩ => ⟨hz, inv1_step (x := .C m) hI _ _ (by simp [psz]) (by simp [pneg]) hT hO⟩
  | T t => cases hx
  | M n => cases hx

/-- the first way through a run's parts -/
theorem first_way {w : World} (hni : r.ins.length ≤ 1000000) (hnf : r.found.length ≤ 1000000) (hsz : size (parts r) ≤ 100000000) (hi : InRow w0 vi r.ins) (hf : FdRow w0 vf r.found) (hb : Below w0.heap.size w0 w) (h2 : Two w b4 b5 false 8) (h4 : w0.heap.size ≤ b4) (h5 : w0.heap.size ≤ b5) :
    Calls Try.prog 24 #[.agg (runC r vi vf), .func (.func 25) #[] #[.pointer (some ⟨b5, 0, Option.none⟩)], .func (.func 26) #[] #[.pointer (some ⟨b4, 0, Option.none⟩), .pointer (some ⟨b5, 0, Option.none⟩)], .func (.func 27) #[] #[.pointer (some ⟨b5, 0, Option.none⟩)]] w
      fun e w' => (∃ z, e = .returned z) ∧ Two w' b4 b5 (negR r) (sizeR r) ∧ Below w0.heap.size w0 w' ∧ Off (fun k => k = b4 ∨ k = b5) w w' := by
  have b4l := lt_some h2.1
  have b5l := lt_some h2.2
  refine (each_c (Inv := Inv1 w w.heap.size b4 b5 r vi vf) (Ch := fun _ k => k = b4 ∨ k = b5) hni hnf (does1T hsz) (does1M hsz) (does1C hsz) ?_ ?_ ?_).mono ?_
  · rintro ps W C ⟨h1, hT, hO⟩
    have l4 := lt_some hT.1
    have l5 := lt_some hT.2
    have hk : ∀ k, k < W.heap.size → (W.alloc (.cells C 59)).heap[k]? = W.heap[k]? := fun k hk => Below.heap_alloc _ _ k hk
    refine ⟨⟨(hk _ (lt_some h1)).trans h1, ⟨(hk _ l4).trans hT.1, (hk _ l5).trans hT.2⟩, hO.trans ⟨rfl, rfl, rfl, by simp, fun k hkk _ => hk k hkk⟩⟩, ?_⟩
    omega
  · rintro ps W ⟨h1, hT, hO⟩
    exact box_of h1 hi hf (hb.trans (hO.below (fun k hk => by rcases hk with rfl | rfl <;> assumption) hb.size))
  · have hk : ∀ k, k < w.heap.size → (w.alloc (.cells (runC r vi vf) 33)).heap[k]? = w.heap[k]? := fun k hk => Below.heap_alloc _ _ k hk
    exact ⟨heap_alloc_new w _, ⟨(hk _ b4l).trans h2.1, (hk _ b5l).trans h2.2⟩, ⟨rfl, rfl, rfl, by simp, fun k hkk _ => hk k hkk⟩⟩
  · rintro e w' ⟨hz, h1, hT, hO⟩
    exact ⟨hz, hT, hb.trans (hO.below (fun k hk => by rcases hk with rfl | rfl <;> assumption) hb.size), hO⟩
end
end Go.Proofs.Ytdijpoemimebmaa.Rn
