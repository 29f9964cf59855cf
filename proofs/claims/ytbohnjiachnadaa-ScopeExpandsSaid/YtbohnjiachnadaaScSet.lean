/-
  A NEW SCOPE; A Ytbohnjiachnadaa IS SET.
-/
import Derived.Test.YtbohnjiachnadaaScMem
namespace Go.Proofs.Ytbohnjiachnadaa.Sc
open Go.RowKit Go.Maps

theorem nil_map (w : World) : (binOp .eql 69 (.map none) (.map none)).run Try.prog w = .ok (.bool true) w := by rfl
theorem some_map (m : Nat) (w : World) : (binOp .eql 69 (.map (some m)) (.map none)).run Try.prog w = .ok (.bool false) w := by rfl

set_option maxHeartbeats 1000000 in
theorem new_c (up : Option Nat) (w : World) : Calls Try.prog 28 #[ptr up] w fun e w' => e = .returned (.pointer (some ⟨w.heap.size, 0, none⟩)) ∧ w' = w.alloc (.cells #[.map none, ptr up] 71) := by
  obtain ⟨a, ha⟩ : ∃ a, ptr up = .pointer a := ⟨_, rfl⟩
  rw [ha]
  clear ha
  go_enter Try.func28, Try.ntmps28
  go_wp2
  go_ret
  exact ⟨rfl, rfl⟩

theorem node_new (up : Option Nat) (w : World) (h : ∀ q, up = some q → q < w.heap.size) : Node (w.alloc (.cells #[.map none, ptr up] 71)) 0 w.heap.size (.map none) up (fun _ => none) :=
  ⟨heap_alloc_new w _, .inl ⟨rfl, rfl⟩, h⟩

set_option maxHeartbeats 1000000 in
theorem set_nil (l t : Bs) (w : World) : Calls Try.prog 22 #[.pointer none, .string (mk l), .string (mk t)] w fun e w' => e = .returned (.int .i64 15) ∧ w = w' := by
  go_enter Try.func22, Try.ntmps22
  go_wp2
  go_ret
  exact ⟨rfl, rfl⟩

set_option maxHeartbeats 1000000 in
theorem set_bad (p : Nat) (l t : Bs) (hl : l.length ≤ 1000000) (h : nameB l = false) (w : World) : Calls Try.prog 22 #[.pointer (some ⟨p, 0, none⟩), .string (mk l), .string (mk t)] w fun e w' => e = .returned (.int .i64 5) ∧ w = w' := by
  have hn := name_c l hl w
  rw [h] at hn
  clear h
  go_enter Try.func22, Try.ntmps22
  go_wp2_with (refine hn.mono ?_; rintro e w1 ⟨rfl, rfl⟩)
  go_ret
  exact ⟨rfl, rfl⟩

/-- behind the setting -/
structure SetQ (w w' : World) (n p : Nat) (mv : Value) (up : Option Nat) (f : Bs → Option Bs) (l t : Bs) (mv' : Value) : Prop where
  node : Node w' (n + 1) p mv' up (upd f l t)
  off : Off (fun k => k = p ∨ mapBlk mv = some k) w w'
  new : mv' = mv ∨ ∃ m, mapBlk mv' = some m ∧ w.heap.size ≤ m

theorem grown_off {w w' : World} {C : Nat → Prop} {m : Nat} (h : w.grownBy w' (some m)) (hC : C m) : Off C w w' :=
  ⟨h.os, h.tape, h.output, h.size, fun k hk hc => h.block k hk fun e => hc (by cases e; exact hC)⟩

set_option maxHeartbeats 4000000 in
theorem set_c {w : World} {n p : Nat} {mv : Value} {up : Option Nat} {f : Bs → Option Bs} (h : Node w n p mv up f) (hn : n ≤ 1000000) (l t : Bs) (hl : l.length ≤ 1000000) (hname : nameB l = true) :
    Calls Try.prog 22 #[.pointer (some ⟨p, 0, none⟩), .string (mk l), .string (mk t)] w fun e w' => e = .returned (.int .i64 0) ∧ ∃ mv', SetQ w w' n p mv up f l t mv' := by
  have hnm := name_c l hl w
  rw [hname] at hnm
  clear hname
  obtain ⟨c0, c1, f0⟩ := h.cells
  have hlm : l.length ≤ maxLen := by unfold maxLen; omega
  have hpl := lt_some h.box
  have HH := Lib.hid h
  rcases h.map with ⟨rfl, rfl⟩ | ⟨m, rfl, hd⟩
  · have hs0 : (w.setCell ⟨p, 0, none⟩ (.map (some w.heap.size))).heap.size = w.heap.size := by simp [World.setCell]
    have hal : ∀ k, k < w.heap.size → k ≠ p → ((w.setCell ⟨p, 0, none⟩ (.map (some w.heap.size))).alloc (.map #[] 0)).heap[k]? = w.heap[k]? := fun k hk hkp =>
      (Below.heap_alloc _ _ k (by omega)).trans (set_other hkp)
    have hb1 : ((w.setCell ⟨p, 0, none⟩ (.map (some w.heap.size))).alloc (.map #[] 0)).heap[p]? = some (.cells #[.map (some w.heap.size), ptr up] 71 (0, 0)) := by
      have := set_block (j := 0) (u := .map (some w.heap.size)) h.box
      exact (Below.heap_alloc _ _ p (by omega)).trans (by simpa using this)
    have hd1 : Dir ((w.setCell ⟨p, 0, none⟩ (.map (some w.heap.size))).alloc (.map #[] 0)) 0 w.heap.size (fun _ => none) := by
      have := Dir.made (w.setCell ⟨p, 0, none⟩ (.map (some w.heap.size)))
      rw [hs0] at this
      exact this
    have hsA : ((w.setCell ⟨p, 0, none⟩ (.map (some w.heap.size))).alloc (.map #[] 0)).heap.size = w.heap.size + 1 := by simp
    obtain ⟨w', hrun, hd2, hg, hsz⟩ := hd1.put (by unfold maxLen; omega) hlm t
    have hoff : Off (fun k => k = p ∨ mapBlk (.map none) = some k) w w' := by
      refine ⟨hg.os, hg.tape, hg.output, by have := hg.size; omega, fun k hk hc => ?_⟩
      have h1 : k ≠ p := fun e => hc (.inl e)
      exact (hg.block k (by omega) (by simp; omega)).trans (hal k hk h1)
    have hnode : Node w' 1 p (.map (some w.heap.size)) up (upd (fun _ => none) l t) :=
      ⟨(hg.block p (by omega) (by simp; omega)).trans hb1, .inr ⟨_, rfl, hd2⟩, h.low⟩
    have HQ := Lib.hid (show SetQ w w' n p (.map none) up (fun _ => none) l t (.map (some w.heap.size)) from
      ⟨⟨hnode.box, by
        rcases hnode.map with ⟨e, _⟩ | ⟨m, e, D, hD, r⟩
        · cases e
        · exact .inr ⟨m, e, D, hD.mono (by omega), r⟩, hnode.low⟩, hoff, .inr ⟨_, rfl, Nat.le_refl _⟩⟩)
    have d0 : ((w.setCell ⟨p, 0, none⟩ (.map (some w.heap.size))).alloc (.map #[] 0)).cell? ⟨p, 0, none⟩ = some (.map (some w.heap.size)) := by
      simp [World.cell?, hb1]
    obtain ⟨e0, g0⟩ : (w.alloc (.map #[] 0)).cell? ⟨p, 0, none⟩ = some (.map none) ∧ (w.alloc (.map #[] 0)).frozen? ⟨p, 0, none⟩ = false := by
      simp [World.cell?, World.frozen?, Below.heap_alloc w (.map #[] 0) p hpl, h.box]
    unfold held at hrun
    have hcmp := nil_map w
    have hmm := @run_makeMap Try.prog
    clear h hb1 hd1 hd2 hg hsz hoff hnode hal hs0 hsA
    go_enter Try.func22, Try.ntmps22
    go_wp2_with (refine hnm.mono ?_; rintro e w1 ⟨rfl, rfl⟩)
    go_ret
    exact ⟨rfl, _, HQ.out⟩
  · obtain ⟨w', hrun, hd2, hg, hsz⟩ := hd.put (by unfold maxLen; omega) hlm t
    have hpm : p ≠ m := by
      rintro rfl
      obtain ⟨es, c, hc⟩ := hd.map
      rw [h.box] at hc
      cases hc
    have HQ := Lib.hid (show SetQ w w' n p (.map (some m)) up f l t (.map (some m)) from
      ⟨⟨(hg.block p hpl (by simp; omega)).trans h.box, .inr ⟨_, rfl, hd2⟩, h.low⟩, grown_off hg (.inr rfl), .inl rfl⟩)
    unfold held at hrun
    have hcmp := some_map m w
    clear h hd hd2 hg hsz hpm
    go_enter Try.func22, Try.ntmps22
    go_wp2_with (refine hnm.mono ?_; rintro e w1 ⟨rfl, rfl⟩)
    go_ret
    exact ⟨rfl, _, HQ.out⟩
end Go.Proofs.Ytbohnjiachnadaa.Sc
