/-
  WHAT WAS FOUND IS PUT IN A BOOK: what stands behind the store.
-/
import Derived.Test.YtmppjlgmopfaeaaNmKnown
namespace Go.Proofs.Ytmppjlgmopfaeaa.Nm
open Go.RowKit Go.Maps

theorem map_set_ptr (Q : List (Option Nat)) (i q : Nat) : (Q.set i (some q)).map ptrO = (Q.map ptrO).set i (.pointer (some ⟨q, 0, Option.none⟩)) := by
  rw [List.map_set]
  rfl

theorem bk_found {S : Nat → Prop} {W : World} {p i g3 c3 : Nat} {B : Bo} {v1 v2 v : Value} {Q : List (Option Nat)} {fd : Fd} (h : Bk S W p B v1 v2 (.slice (some ⟨g3, 0, Option.none⟩) B.F.length c3) Q) (hi : i < B.F.length)
    (hv : W.ownsRow 0 3 1 v fd.nums.length (intV fd.nums)) (hn : (∀ n ∈ fd.nums, n < B.N.length) ∧ fd.time < 4611686018427387904 ∧ fd.nums.length ≤ 1000000) :
    Bk (fun k => S k ∨ k = W.heap.size ∨ v.ownBlock = some k) ((W.alloc (.cells #[.int .i64 (fd.time : Int), v] 106)).setCell ⟨g3, i, Option.none⟩ (.pointer (some ⟨W.heap.size, 0, Option.none⟩))) p ⟨B.N, B.F.set i (some fd)⟩ v1 v2 (.slice (some ⟨g3, 0, Option.none⟩) B.F.length c3) (Q.set i (some W.heap.size)) ∧
      Mod S W ((W.alloc (.cells #[.int .i64 (fd.time : Int), v] 106)).setCell ⟨g3, i, Option.none⟩ (.pointer (some ⟨W.heap.size, 0, Option.none⟩))) := by
  obtain ⟨W0, hW0⟩ : ∃ W0, W.alloc (.cells #[.int .i64 (fd.time : Int), v] 106) = W0 := ⟨_, rfl⟩
  have b0 : Below W.heap.size W W0 := by rw [← hW0]; exact Pk.below_alloc _ _
  have z0 : W0.heap.size = W.heap.size + 1 := by rw [← hW0]; exact Array.size_push _
  have q0 : W0.heap[W.heap.size]? = some (.cells #[.int .i64 (fd.time : Int), v] 106 (0, 0)) := by rw [← hW0]; exact heap_alloc_new _ _
  have hgb : (Value.slice (some ⟨g3, 0, Option.none⟩) B.F.length c3).ownBlock = some g3 := rfl
  have hg3 := (h.found.lt g3 hgb).2
  obtain ⟨_, cur3, hc3⟩ := owns_block h.found hgb
  have f0 := owns_below h.found b0
  obtain ⟨s1, g1⟩ := f0.stored i (.pointer (some ⟨W.heap.size, 0, Option.none⟩))
  rw [hW0]
  obtain ⟨W1, hW1⟩ : ∃ W1, W0.setCell ⟨g3, i, Option.none⟩ (.pointer (some ⟨W.heap.size, 0, Option.none⟩)) = W1 := ⟨_, rfl⟩
  rw [hW1] at s1 g1 ⊢
  have hk : ∀ k, k < W.heap.size → k ≠ g3 → W1.heap[k]? = W.heap[k]? := fun k hk hne => (g1.block k (by omega) (fun e => hne (Option.some.inj e))).trans (b0.block k hk)
  have hmod : Mod S W W1 := ⟨g1.os.trans b0.os, g1.tape.trans b0.tape, g1.output.trans b0.output, Nat.le_trans b0.size g1.size, fun k hkk hs => hk k hkk (by rintro rfl; exact hs (h.foundS _ hgb))⟩
  have kc : ∀ (k : Nat) (C : Array Value) (t : TypeId), W.heap[k]? = some (.cells C t (0, 0)) → t ≠ 85 → W1.heap[k]? = W.heap[k]? := fun k C t hc ht => hk k (lt_some hc) (fun e => ne_type hc hc3 ht e)
  have ko : ∀ {u : Value} {e : TypeId} {n : Nat} {xs : List Value}, W.ownsRow 0 e 1 u n xs → e ≠ 85 → W1.ownsRow 0 e 1 u n xs := fun {u e n xs} hu he => owns_kept hu fun g hg => by
    obtain ⟨_, cur, hc⟩ := owns_block hu hg
    exact kc g _ _ hc he
  have q1 : W1.heap[W.heap.size]? = some (.cells #[.int .i64 (fd.time : Int), v] 106 (0, 0)) := (g1.block _ (by omega) (fun e => by have := Option.some.inj e; omega)).trans q0
  refine ⟨⟨(kc p _ _ h.box (by decide)).trans h.box, .inl h.inS, ko h.names (by decide), fun k hk' => .inl (h.namesS k hk'), h.map.kept fun m hm => ?_, fun k hk' => .inl (h.mapS k hk'), ?_, fun k hk' => .inl (h.foundS k hk'), ?_, ?_, fun j hj => ?_, fun j fd' hj => ?_, fun j fd' hj => ?_, h.few, h.short⟩, hmod⟩
  · obtain ⟨es, c, hm2⟩ := h.map.blk hm
    exact hk m (lt_some hm2) (fun e => map_ne hc3 hm2 e.symm)
  · rw [List.length_set, map_set_ptr]
    exact s1
  · simp [h.len]
  · simp [h.qlen]
  · rw [List.getElem?_set] at hj ⊢
    by_cases e : i = j
    · rw [if_pos e, if_pos hi] at hj
      cases hj
    · rw [if_neg e] at hj ⊢
      exact h.no j hj
  · rw [List.getElem?_set] at hj ⊢
    by_cases e : i = j
    · rw [if_pos e, if_pos hi] at hj
      obtain rfl : fd = fd' := by simpa using hj
      rw [if_pos e, if_pos (by rw [h.qlen]; exact hi)]
      exact ⟨_, rfl, .inr (.inl rfl), v, q1, ko hv (by decide), fun k hk' => .inr (.inr hk')⟩
    · rw [if_neg e] at hj ⊢
      obtain ⟨q, h1, h2⟩ := h.yes j fd' hj
      obtain ⟨v', c1, c2, c3'⟩ := h2.ex
      exact ⟨q, h1, .inl h2.inS, v', (kc q _ _ c1 (by decide)).trans c1, ko c2 (by decide), fun k hk' => .inl (c3' k hk')⟩
  · rw [List.getElem?_set] at hj
    by_cases e : i = j
    · rw [if_pos e, if_pos hi] at hj
      obtain rfl : fd = fd' := by simpa using hj
      exact hn
    · rw [if_neg e] at hj
      exact h.nums j fd' hj
end Go.Proofs.Ytmppjlgmopfaeaa.Nm
