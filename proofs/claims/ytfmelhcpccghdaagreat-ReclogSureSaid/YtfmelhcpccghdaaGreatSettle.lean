/-
  THE FIRST CHANGES ARE SETTLED.
-/
import Derived.Test.YtfmelhcpccghdaaGreatWrite
namespace Go.Proofs.YtfmelhcpccghdaaGreat
open Go.RowKit Go.Maps

variable {X : Nat → Prop} {K : Nat} {w : World} {p : Nat} {q : Pl} {d : Ds}

theorem CRow.take {cs : List Ch} {a : Option Addr} {N cap : Nat} (h : CRow w (.slice a N cap) cs) {m : Nat} (hm : m ≤ N) : CRow w (.slice a m cap) (cs.take m) := by
  obtain ⟨a', cap', e, h⟩ := h
  cases e
  refine ⟨a, cap, by rw [List.length_take, Nat.min_eq_left hm], ?_⟩
  rcases h with rfl | ⟨g, rfl, hl, hc⟩
  · exact .inl (by simp)
  · refine .inr ⟨g, rfl, hl, fun j c hj => hc j c ?_⟩
    rw [List.getElem?_take] at hj
    split at hj
    · exact hj
    · cases hj

theorem settle_end {w1 : World} {m : Nat} (h : DkAt X K w p q d) {n2 : Nat} (hn2 : n2 + d.changes.length ≤ K) (hg : w.grownBy w1 (some q.m2)) (hd : Dir w1 (n2 + (d.changes.take m).length) q.m2 (turns d.sure (d.changes.take m))) :
    Same X w (w1.setCell ⟨p, 7, none⟩ (.slice none 0 0)) ∧ DkAt X K (w1.setCell ⟨p, 7, none⟩ (.slice none 0 0)) p { q with cv := .slice none 0 0 } (settled d m) := by
  obtain ⟨n1, e1, d1⟩ := h.now
  obtain ⟨n2', _, d2⟩ := h.sure
  obtain ⟨es1, ck1, b1⟩ := d1.map
  obtain ⟨es2, ck2, b2⟩ := d2.map
  have l0 := lt_of_some h.root
  have hp2 : p ≠ q.m2 := map_ne h.root b2
  have hroot1 : w1.heap[p]? = some (.cells (rootC d q) 58 (0, 0)) := (hg.block p l0 (by simp; exact hp2)).trans h.root
  have hsz : (w1.setCell ⟨p, 7, none⟩ (.slice none 0 0)).heap.size = w1.heap.size := by simp [World.setCell]
  have o9 : ∀ k, k ≠ p → (w1.setCell ⟨p, 7, none⟩ (.slice none 0 0)).heap[k]? = w1.heap[k]? := fun k hk => Below.heap_setCell _ _ _ _ hk
  have step : ∀ k, k < w.heap.size → k ≠ p → k ≠ q.m2 → (w1.setCell ⟨p, 7, none⟩ (.slice none 0 0)).heap[k]? = w.heap[k]? := fun k hk a b => (o9 k a).trans (hg.block k hk (by simp; exact b))
  refine ⟨(Same.of_grown hg (fun k e => by cases e; exact h.off2)).set _ _ h.offp, ?_⟩
  refine ⟨fun k hk => by rw [hsz]; exact Nat.lt_of_lt_of_le (h.inX k hk) hg.size, h.offp, h.off1, h.off2, fun k hk => by simp [Value.ownBlock] at hk, h.ne, heap_set_same hroot1 7 _, ⟨n1, e1, ?_⟩, ⟨n2 + (d.changes.take m).length, ?_, ?_⟩, World.ownsRow_nil _ _ _ _, (fun c hc => (by cases hc)), fun i hi => ?_, fun i j k hi hj => h.apart i j k (ref_settled hi) (ref_settled hj), h.clock, h.deeds, h.quota⟩
  · exact d1.kept (step _ d1.lt (map_ne h.root b1).symm h.ne)
  · have : (d.changes.take m).length ≤ d.changes.length := List.length_take_le' _ _
    show _ + 0 ≤ K
    omega
  · exact hd.kept (o9 _ hp2.symm)
  · have f := h.file i (ref_settled hi)
    refine ⟨f.off, (step i (lt_of_some f.cells) (kind_ne f.cells h.root (by decide)) (map_ne f.cells b2)).trans f.cells, row_kept f.row fun k hk => ?_, f.rowOff, f.le, f.len⟩
    obtain ⟨cur, hcur⟩ := row_elem f.row hk
    exact step k (lt_of_some hcur) (kind_ne hcur h.root (by decide)) (map_ne hcur b2)

set_option maxHeartbeats 4000000 in
theorem settle_at (h : DkAt X K w p q d) (hK : K ≤ 1000) (n : Int) :
    Calls Tryz.prog 37 #[.pointer (some ⟨p, 0, none⟩), .int .i64 n] w fun e w' => (∃ x, e = .returned x) ∧ Same X w w' ∧ DkAt X K w' p { q with cv := .slice none 0 0 } (settled d n.toNat) := by
  obtain ⟨_, _, _, _, _, _, c6, c7⟩ := h.cells
  obtain ⟨n2, hn2, hdir⟩ := h.sure
  have hcr := row_chs h.chg
  have hf7 := frozen_of h.root 7
  obtain ⟨a, cap, hcv⟩ := row_len h.chg
  obtain ⟨es2, ck2, b2⟩ := hdir.map
  have hpm : p ≠ q.m2 := map_ne h.root b2
  have hcm : ∀ g, q.cv.ownBlock = some g → g ≠ q.m2 := fun g e => by obtain ⟨cur, hcur⟩ := row_elem h.chg e; exact map_ne hcur b2
  obtain ⟨m, hm, hmn, hmx⟩ : ∃ m : Nat, m ≤ d.changes.length ∧ min (max n 0) (d.changes.length : Int) = (m : Int) ∧ d.changes.take n.toNat = d.changes.take m := by
    refine ⟨min n.toNat d.changes.length, Nat.min_le_right _ _, by omega, ?_⟩
    rcases Nat.le_total n.toNat d.changes.length with e | e
    · rw [Nat.min_eq_left e]
    · rw [Nat.min_eq_right e, List.take_length, List.take_of_length_le e]
  have hset : settled d n.toNat = settled d m := by unfold settled; rw [hmx]
  rw [hset]
  rw [hcv] at hcr c7
  have htc := turn_c (w := w.drew) (hdir : Dir w.drew n2 q.m2 d.sure) (hcr.take hm : CRow w.drew (.slice a m cap) (d.changes.take m)) (by rw [List.length_take]; omega) (fun c hc => ⟨by have := (h.short c (List.mem_of_mem_take hc)).1; unfold maxLen; omega, by have := (h.short c (List.mem_of_mem_take hc)).2; unfold maxLen; omega⟩)
    (fun g e => hcm g (by rw [hcv]; cases a <;> simp [Value.ownBlock] at e ⊢; exact e))
  have hNc : d.changes.length ≤ cap := by
    rcases h.chg.2 with ⟨e, h0⟩ | ⟨g, cap', cur, e, _, _, e2, _⟩
    · omega
    · rw [hcv] at e; cases e; exact e2
  have hmc : (m : Int) ≤ (cap : Int) := by omega
  have hm0 : (0 : Int) ≤ (m : Int) := by omega
  have HD := Lib.hid h
  have HN2 := Lib.hid hn2
  clear h hcr hmx hset hdir hcm hn2
  generalize hN : d.changes.length = N at *
  have HNN := Lib.hid hN
  clear hN
  go_enter Tryz.func37, Tryz.ntmps37
  go_wp2_with fail
  go_region_held3 (fun w' => w'.cell? ⟨p, 6, none⟩ = some (.map (some q.m2)) ∧ w'.cell? ⟨p, 7, none⟩ = some (.slice a N cap)) (first | exact ⟨c6, c7⟩ | exact ⟨t6, t7⟩)
    (first
      | (go_at_call 61; refine htc.mono ?_; rintro e w6 ⟨⟨xx, rfl⟩, hd6, hg6⟩; have t6 := hg6.cell c6 (by simp; exact hpm); have t7 := hg6.cell c7 (by simp; exact hpm)))
  have hg6' := grown_undrew hg6
  have tf : w6.frozen? ⟨p, 7, none⟩ = false := (World.frozen?_of_block (a := ⟨p, 7, none⟩) (hg6'.block p (lt_of_some HD.out.root) (by simp; exact hpm))).trans hf7
  clear hmn hmc hm0 hcv
  go_wp2
  go_end0
  have hn2 := HN2.out
  rw [← HNN.out] at hn2
  exact ⟨⟨_, rfl⟩, settle_end HD.out hn2 hg6' hd6⟩
end Go.Proofs.YtfmelhcpccghdaaGreat
