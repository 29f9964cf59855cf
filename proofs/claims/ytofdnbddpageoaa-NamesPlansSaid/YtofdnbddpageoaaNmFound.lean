/-
  AN OUTPUT's RECORD: the closure that reads a name's number.
-/
import Derived.Test.YtofdnbddpageoaaNmName
namespace Go.Proofs.Ytofdnbddpageoaa.Nm
open Go.RowKit Go.Maps

/-- where takeOutput stands: its boxes, the reader, the book's names -/
structure Kn (W : World) (p r g b2 b3 b5 : Nat) (a1 : Option Addr) (n c1 : Nat) (f : Bool) (l : List Nat) (bad : Bool) : Prop where
  rd : Pk.Rd W r g l bad
  h2 : W.heap[b2]? = some (.cells #[.pointer (some ⟨p, 0, Option.none⟩)] 24 (0, 0))
  h3 : W.heap[b3]? = some (.cells #[.pointer (some ⟨r, 0, Option.none⟩)] 82 (0, 0))
  h5 : W.heap[b5]? = some (.cells #[.bool f] 4 (0, 0))
  nm : W.cell? ⟨p, 0, Option.none⟩ = some (.slice a1 n c1)
  pl : p < W.heap.size
  lt : ∀ x ∈ l, x < 256
  len : l.length ≤ 1000000
  pr : p ≠ r
  p5 : p ≠ b5
  g5 : g ≠ b5

section
variable {W W' : World} {p r g b2 b3 b5 : Nat} {a1 : Option Addr} {n c1 : Nat} {f : Bool} {l : List Nat} {bad : Bool}
theorem Kn.r2 (h : Kn W p r g b2 b3 b5 a1 n c1 f l bad) : b2 ≠ r := fun e => by
  obtain ⟨_, _, v, hv, _⟩ := h.rd
  exact ne_type h.h2 hv (by decide) e
theorem Kn.r3 (h : Kn W p r g b2 b3 b5 a1 n c1 f l bad) : b3 ≠ r := fun e => by
  obtain ⟨_, _, v, hv, _⟩ := h.rd
  exact ne_type h.h3 hv (by decide) e
theorem Kn.r5 (h : Kn W p r g b2 b3 b5 a1 n c1 f l bad) : b5 ≠ r := fun e => by
  obtain ⟨_, _, v, hv, _⟩ := h.rd
  exact ne_type h.h5 hv (by decide) e
theorem Kn.e25 (h : Kn W p r g b2 b3 b5 a1 n c1 f l bad) : b2 ≠ b5 := fun e => ne_type h.h2 h.h5 (by decide) e
theorem Kn.e35 (h : Kn W p r g b2 b3 b5 a1 n c1 f l bad) : b3 ≠ b5 := fun e => ne_type h.h3 h.h5 (by decide) e

/-- the reader has moved on -/
theorem Kn.read (h : Kn W p r g b2 b3 b5 a1 n c1 f l bad) {l' : List Nat} {bad' : Bool} (hr : Pk.Rd W' r g l' bad') (ho : Pk.Only r W W') (hlt : ∀ x ∈ l', x < 256) (hl : l'.length ≤ 1000000) : Kn W' p r g b2 b3 b5 a1 n c1 f l' bad' :=
  ⟨hr, (ho.block _ (lt_some h.h2) h.r2).trans h.h2, (ho.block _ (lt_some h.h3) h.r3).trans h.h3, (ho.block _ (lt_some h.h5) h.r5).trans h.h5, (cell_of_block (ho.block _ h.pl h.pr)).trans h.nm, Nat.lt_of_lt_of_le h.pl ho.size, hlt, hl, h.pr, h.p5, h.g5⟩

/-- something else has turned -/
theorem Kn.keep (h : Kn W p r g b2 b3 b5 a1 n c1 f l bad) (hs : W.heap.size ≤ W'.heap.size) (hb : ∀ k, k = p ∨ k = r ∨ k = g ∨ k = b2 ∨ k = b3 ∨ k = b5 → W'.heap[k]? = W.heap[k]?) : Kn W' p r g b2 b3 b5 a1 n c1 f l bad := by
  obtain ⟨h1, h2, v, h3, h4⟩ := h.rd
  refine ⟨⟨h1, Nat.lt_of_lt_of_le h2 hs, v, (hb r (by simp)).trans h3, ?_⟩, (hb b2 (by simp)).trans h.h2, (hb b3 (by simp)).trans h.h3, (hb b5 (by simp)).trans h.h5, (cell_of_block (hb p (by simp))).trans h.nm, Nat.lt_of_lt_of_le h.pl hs, h.lt, h.len, h.pr, h.p5, h.g5⟩
  rcases h4 with h4 | ⟨off, c, e, hc, hcell⟩
  · exact .inl h4
  · exact .inr ⟨off, c, e, hc, fun i hi => (cell_of_block (hb g (by simp))).trans (hcell i hi)⟩

theorem Kn.set (h : Kn W p r g b2 b3 b5 a1 n c1 f l bad) (f' : Bool) : Kn (W.setCell ⟨b5, 0, Option.none⟩ (.bool f')) p r g b2 b3 b5 a1 n c1 f' l bad := by
  have hk : ∀ k, k ≠ b5 → (W.setCell ⟨b5, 0, Option.none⟩ (.bool f')).heap[k]? = W.heap[k]? := fun k hk => Below.heap_setCell _ _ _ _ (fun e => hk e)
  have hz : (W.setCell ⟨b5, 0, Option.none⟩ (.bool f')).heap.size = W.heap.size := by simp [World.setCell]
  obtain ⟨h1, h2, v, h3, h4⟩ := h.rd
  refine ⟨⟨h1, by rw [hz]; exact h2, v, (hk r (fun e => h.r5 e.symm)).trans h3, ?_⟩, (hk b2 h.e25).trans h.h2, (hk b3 h.e35).trans h.h3, box_set h.h5 _, (cell_of_block (hk p h.p5)).trans h.nm, by rw [hz]; exact h.pl, h.lt, h.len, h.pr, h.p5, h.g5⟩
  rcases h4 with h4 | ⟨off, c, e, hc, hcell⟩
  · exact .inl h4
  · exact .inr ⟨off, c, e, hc, fun i hi => (cell_of_block (hk g h.g5)).trans (hcell i hi)⟩
end

set_option maxRecDepth 100000 in
set_option maxHeartbeats 4000000 in
theorem known_c {W : World} {p r g b2 b3 b5 : Nat} {a1 : Option Addr} {n c1 : Nat} {f : Bool} {l : List Nat} {bad : Bool} (h : Kn W p r g b2 b3 b5 a1 n c1 f l bad) :
    Calls Try.prog 51 #[.pointer (some ⟨b3, 0, Option.none⟩), .pointer (some ⟨b5, 0, Option.none⟩), .pointer (some ⟨b2, 0, Option.none⟩)] W fun e W' => e = .returned (.int .i64 ((Pk.rdN 4 l : Nat) : Int)) ∧ Kn W' p r g b2 b3 b5 a1 n c1 (f && decide (Pk.rdN 4 l < n)) (Pk.rdL 4 l) (Pk.rdB 4 l bad) ∧ Mod (fun k => k = r ∨ k = b5) W W' := by
  have hu := Pk.u32r_any r g l bad W h.rd h.len h.lt
  obtain ⟨c3, -⟩ := one_cell h.h3
  have hN := Pk.rdN_lt 4 h.lt
  have H := Lib.hid h
  have HL := Lib.hid (show ∀ x ∈ Pk.rdL 4 l, x < 256 from Pk.rdL_lt 4 h.lt)
  have HL2 := Lib.hid (show (Pk.rdL 4 l).length ≤ 1000000 from Nat.le_trans (Pk.rdL_le 4 l) h.len)
  obtain ⟨N, hNN⟩ : ∃ N, Pk.rdN 4 l = N := ⟨_, rfl⟩
  obtain ⟨l2, hl2⟩ : ∃ l2, Pk.rdL 4 l = l2 := ⟨_, rfl⟩
  obtain ⟨bd, hbd⟩ : ∃ bd, Pk.rdB 4 l bad = bd := ⟨_, rfl⟩
  rw [hNN, hl2, hbd] at hu
  rw [hNN] at hN
  rw [hl2] at HL HL2
  rw [hNN, hl2, hbd]
  clear hNN hl2 hbd h
  go_enter Try.func51, Try.ntmps51
  go_wp2_with fail
  refine hu.mono ?_
  rintro e w1 ⟨rfl, hr1, ho1⟩
  have k1 := H.out.read hr1 ho1 HL.out HL2.out
  obtain ⟨d2, -⟩ := one_cell k1.h2
  obtain ⟨d5, f5⟩ := one_cell k1.h5
  have dn := k1.nm
  have M1 := Lib.hid (show Mod (fun k => k = r ∨ k = b5) W w1 from ⟨ho1.os, ho1.tape, ho1.output, ho1.size, fun k hk hn => ho1.block k hk fun e => hn (.inl e)⟩)
  have K1 := Lib.hid k1
  clear hu hr1 ho1 k1 c3 H
  cases f with
  | true =>
    by_cases hlt : N < n
    · have hlt' : (N : Int) < (n : Int) := by omega
      have HD : Hid (decide (N < n) = true) := Lib.hid (decide_eq_true hlt)
      go_wp2_with fail
      go_ret
      exact ⟨rfl, by rw [HD.out]; exact K1.out.set true, M1.out.trans2 (Mod.set w1 (.inr rfl) 0 _)⟩
    · have hlt' : ¬ (N : Int) < (n : Int) := by omega
      have HD : Hid (decide (N < n) = false) := Lib.hid (decide_eq_false hlt)
      go_wp2_with fail
      go_ret
      exact ⟨rfl, by rw [HD.out]; exact K1.out.set false, M1.out.trans2 (Mod.set w1 (.inr rfl) 0 _)⟩
  | false =>
    go_wp2_with fail
    go_ret
    exact ⟨rfl, K1.out.set false, M1.out.trans2 (Mod.set w1 (.inr rfl) 0 _)⟩
end Go.Proofs.Ytofdnbddpageoaa.Nm

/-! WHAT WAS FOUND IS PUT IN A BOOK: what stands behind the store. -/
namespace Go.Proofs.Ytofdnbddpageoaa.Nm
open Go.RowKit Go.Maps

theorem map_set_ptr (Q : List (Option Nat)) (i q : Nat) : (Q.set i (some q)).map ptrO = (Q.map ptrO).set i (.pointer (some ⟨q, 0, Option.none⟩)) := by
  rw [List.map_set]
  rfl

theorem bk_found {S : Nat → Prop} {W : World} {p i g3 c3 : Nat} {B : Bo} {v1 v2 v : Value} {Q : List (Option Nat)} {fd : Fd} (h : Bk S W p B v1 v2 (.slice (some ⟨g3, 0, Option.none⟩) B.F.length c3) Q) (hi : i < B.F.length)
    (hv : W.ownsRow 0 3 1 v fd.nums.length (intV fd.nums)) (hn : (∀ n ∈ fd.nums, n < B.N.length) ∧ fd.time < 4611686018427387904 ∧ fd.nums.length ≤ 1000000) :
    Bk (fun k => S k ∨ k = W.heap.size ∨ v.ownBlock = some k) ((W.alloc (.cells #[.int .i64 (fd.time : Int), v] 106)).setCell ⟨g3, i, Option.none⟩ (.pointer (some ⟨W.heap.size, 0, Option.none⟩))) p ⟨B.N, B.F.set i (some fd)⟩ v1 v2 (.slice (some ⟨g3, 0, Option.none⟩) B.F.length c3) (Q.set i (some W.heap.size)) ∧
      Mod S W ((W.alloc (.cells #[.int .i64 (fd.time : Int), v] 106)).setCell ⟨g3, i, Option.none⟩ (.pointer (some ⟨W.heap.size, 0, Option.none⟩))) := by
  obtain ⟨W0, hW0⟩ : ∃ W0, W.alloc (.cells #[.int .i64 (fd.time : Int), v] 106) = W0 := ⟨_, rfl⟩
  have b0 : Below W.heap.size W W0 := by rw [← hW0]; exact Pk.below_alloc _ _
  have z0 : W0.heap.size = W.heap.size + 1 := by rw [← hW0]; exact Array.size_push _
  have q0 : W0.heap[W.heap.size]? = some (.cells #[.int .i64 (fd.time : Int), v] 106 (0, 0)) := by rw [← hW0]; exact heap_alloc_new _ _
  have hgb : (Value.slice (some ⟨g3, 0, Option.none⟩) B.F.length c3).ownBlock = some g3 := rfl
  have hg3 := (h.found.lt g3 hgb).2
  obtain ⟨_, cur3, hc3⟩ := owns_block h.found hgb
  have f0 := owns_below h.found b0
  obtain ⟨s1, g1⟩ := f0.stored i (.pointer (some ⟨W.heap.size, 0, Option.none⟩))
  rw [hW0]
  obtain ⟨W1, hW1⟩ : ∃ W1, W0.setCell ⟨g3, i, Option.none⟩ (.pointer (some ⟨W.heap.size, 0, Option.none⟩)) = W1 := ⟨_, rfl⟩
  rw [hW1] at s1 g1 ⊢
  have hk : ∀ k, k < W.heap.size → k ≠ g3 → W1.heap[k]? = W.heap[k]? := fun k hk hne => (g1.block k (by omega) (fun e => hne (Option.some.inj e))).trans (b0.block k hk)
  have hmod : Mod S W W1 := ⟨g1.os.trans b0.os, g1.tape.trans b0.tape, g1.output.trans b0.output, Nat.le_trans b0.size g1.size, fun k hkk hs => hk k hkk (by rintro rfl; exact hs (h.foundS _ hgb))⟩
  have kc : ∀ (k : Nat) (C : Array Value) (t : TypeId), W.heap[k]? = some (.cells C t (0, 0)) → t ≠ 85 → W1.heap[k]? = W.heap[k]? := fun k C t hc ht => hk k (lt_some hc) (fun e => ne_type hc hc3 ht e)
  have ko : ∀ {u : Value} {e : TypeId} {n : Nat} {xs : List Value}, W.ownsRow 0 e 1 u n xs → e ≠ 85 → W1.ownsRow 0 e 1 u n xs := fun {u e n xs} hu he => owns_kept hu fun g hg => by
    obtain ⟨_, cur, hc⟩ := owns_block hu hg
    exact kc g _ _ hc he
  have q1 : W1.heap[W.heap.size]? = some (.cells #[.int .i64 (fd.time : Int), v] 106 (0, 0)) := (g1.block _ (by omega) (fun e => by have := Option.some.inj e; omega)).trans q0
  refine ⟨⟨(kc p _ _ h.box (by decide)).trans h.box, .inl h.inS, ko h.names (by decide), fun k hk' => .inl (h.namesS k hk'), h.map.kept fun m hm => ?_, fun k hk' => .inl (h.mapS k hk'), ?_, fun k hk' => .inl (h.foundS k hk'), ?_, ?_, fun j hj => ?_, fun j fd' hj => ?_, fun j fd' hj => ?_, h.few, h.short⟩, hmod⟩
  · obtain ⟨es, c, hm2⟩ := h.map.blk hm
    exact hk m (lt_some hm2) (fun e => map_ne hc3 hm2 e.symm)
  · rw [List.length_set, map_set_ptr]
    exact s1
  · simp [h.len]
  · simp [h.qlen]
  · rw [List.getElem?_set] at hj ⊢
    by_cases e : i = j
    · rw [if_pos e, if_pos hi] at hj
      cases hj
    · rw [if_neg e] at hj ⊢
      exact h.no j hj
  · rw [List.getElem?_set] at hj ⊢
    by_cases e : i = j
    · rw [if_pos e, if_pos hi] at hj
      obtain rfl : fd = fd' := by simpa using hj
      rw [if_pos e, if_pos (by rw [h.qlen]; exact hi)]
      exact ⟨_, rfl, .inr (.inl rfl), v, q1, ko hv (by decide), fun k hk' => .inr (.inr hk')⟩
    · rw [if_neg e] at hj ⊢
      obtain ⟨q, h1, h2⟩ := h.yes j fd' hj
      obtain ⟨v', c1, c2, c3'⟩ := h2.ex
      exact ⟨q, h1, .inl h2.inS, v', (kc q _ _ c1 (by decide)).trans c1, ko c2 (by decide), fun k hk' => .inl (c3' k hk')⟩
  · rw [List.getElem?_set] at hj
    by_cases e : i = j
    · rw [if_pos e, if_pos hi] at hj
      obtain rfl : fd = fd' := by simpa using hj
      exact hn
    · rw [if_neg e] at hj
      exact h.nums j fd' hj
end Go.Proofs.Ytofdnbddpageoaa.Nm
