/-
  A RUN THAT SHARES NOTHING (runs.own), WALKED.
-/
import Derived.Test.YtdijpoemimebmaaFdClone
import Derived.Test.YtdijpoemimebmaaRgLate
import Derived.Test.YtdijpoemimebmaaRnBk
import Derived.Test.YtdijpoemimebmaaRefWr
namespace Go.Proofs.Ytdijpoemimebmaa.Rn
open Go.RowKit
open Go.Proofs.Ytdijpoemimebmaa.Cr

/-- own's two boxes -/
structure OW (w W : World) (r : Run) (vi vf : Value) : Prop where
  h1 : W.heap[w.heap.size]? = some (.cells (runC r vi vf) 33 (0, 0))
  h2 : W.heap[w.heap.size + 1]? = some (.cells #[.string ⟨#[]⟩, .string ⟨#[]⟩, .int .i64 0, .int .i64 0, .slice Option.none 0 0, .slice Option.none 0 0] 33 (0, 0))
  bel : Below w.heap.size w W

structure OO (w W : World) (r : Run) (vi vf : Value) : Prop where
  ow : OW w W r vi vf
  ins : W.ownsRow (w.heap.size + 2) 59 2 vi r.ins.length (inV r.ins)
  fds : W.ownsRow (w.heap.size + 2) 3 1 vf r.found.length (tV r.found)

section
variable {w W W1 : World} {r : Run} {vi vf ui uf : Value}
theorem OW.siz (h : OW w W r vi vf) : w.heap.size + 2 ≤ W.heap.size := lt_some h.h2
theorem OW.next (h : OW w W r vi vf) (hb : Below W.heap.size W W1) : OW w W1 r vi vf := by
  have := h.siz
  exact ⟨(hb.block _ (by omega)).trans h.h1, (hb.block _ (by omega)).trans h.h2, h.bel.trans (hb.mono h.bel.size)⟩
theorem OO.next (h : OO w W r vi vf) (hb : Below W.heap.size W W1) : OO w W1 r vi vf := ⟨h.ow.next hb, owns_below h.ins hb, owns_below h.fds hb⟩

/-- the two texts are set as they were -/
theorem OW.texts (h : OW w W r vi vf) : OW w ((W.setCell ⟨w.heap.size, 0, Option.none⟩ (.string r.out)).setCell ⟨w.heap.size, 1, Option.none⟩ (.string r.cmd)) r vi vf := by
  refine ⟨?_, (set_other (by omega)).trans ((set_other (by omega)).trans h.h2), h.bel.trans ⟨rfl, rfl, rfl, by simp [World.setCell], fun k hk => (set_other (by omega)).trans (set_other (by omega))⟩⟩
  have := Pk.set_block (j := 1) (u := .string r.cmd) (Pk.set_block (j := 0) (u := .string r.out) h.h1)
  simpa [runC] using this

theorem texts_two (h : OW w W r vi vf) : ((W.setCell ⟨w.heap.size, 0, Option.none⟩ (.string r.out)).cell? ⟨w.heap.size, 0, Option.none⟩ = some (.string r.out) ∧ (W.setCell ⟨w.heap.size, 0, Option.none⟩ (.string r.out)).cell? ⟨w.heap.size, 1, Option.none⟩ = some (.string r.cmd)) ∧
    (((W.setCell ⟨w.heap.size, 0, Option.none⟩ (.string r.out)).setCell ⟨w.heap.size, 1, Option.none⟩ (.string r.cmd)).cell? ⟨w.heap.size, 0, Option.none⟩ = some (.string r.out) ∧ ((W.setCell ⟨w.heap.size, 0, Option.none⟩ (.string r.out)).setCell ⟨w.heap.size, 1, Option.none⟩ (.string r.cmd)).cell? ⟨w.heap.size, 1, Option.none⟩ = some (.string r.cmd)) := by
  have e1 := Pk.set_block (j := 0) (u := .string r.out) h.h1
  have e2 := Pk.set_block (j := 1) (u := .string r.cmd) e1
  refine ⟨?_, ?_⟩
  · simp only [World.cell?, e1]; simp [runC]
  · simp only [World.cell?, e2]; simp [runC]

/-- the two lists are set -/
theorem OW.lists (h : OW w W r vi vf) (hi : W.ownsRow (w.heap.size + 2) 59 2 ui r.ins.length (inV r.ins)) (hf : W.ownsRow (w.heap.size + 2) 3 1 uf r.found.length (tV r.found)) :
    OO w ((W.setCell ⟨w.heap.size, 4, Option.none⟩ ui).setCell ⟨w.heap.size, 5, Option.none⟩ uf) r ui uf := by
  refine ⟨⟨?_, (set_other (by omega)).trans ((set_other (by omega)).trans h.h2), h.bel.trans ⟨rfl, rfl, rfl, by simp [World.setCell], fun k hk => (set_other (by omega)).trans (set_other (by omega))⟩⟩, owns_kept hi fun k hk => ?_, owns_kept hf fun k hk => ?_⟩
  · have := Pk.set_block (j := 5) (u := uf) (Pk.set_block (j := 4) (u := ui) h.h1)
    simpa [runC] using this
  · have := (hi.lt k hk).1
    exact (set_other (by omega)).trans (set_other (by omega))
  · have := (hf.lt k hk).1
    exact (set_other (by omega)).trans (set_other (by omega))

theorem own_same {base e k g n c j : Nat} {u : Value} {xs : List Value} (h : W.ownsRow base e k (.slice (some ⟨g, 0, Option.none⟩) n c) n xs) (hx : xs[j]? = some u) :
    (W.setCell ⟨g, j, Option.none⟩ u).ownsRow base e k (.slice (some ⟨g, 0, Option.none⟩) n c) n xs := by
  refine ⟨h.1, .inr ?_⟩
  rcases h.2 with ⟨e, _⟩ | ⟨g', cap, cur, e, hb, hg, hle, hm, hsz, htake⟩
  · cases e
  · cases e
    refine ⟨g, c, cur.setIfInBounds j u, rfl, hb, Pk.set_block hg, hle, hm, by simpa using hsz, ?_⟩
    rw [Array.toList_setIfInBounds, List.take_set, htake]
    obtain ⟨hj, he⟩ := List.getElem?_eq_some_iff.1 hx
    rw [← he]
    exact List.set_getElem_self hj

/-- a name is set as it was -/
theorem OO.name {g k j : Nat} {u : Value} (h : OO w W r (.slice (some ⟨g, 0, Option.none⟩) r.ins.length k) vf) (hx : (inV r.ins)[j]? = some u) :
    OO w (W.setCell ⟨g, j, Option.none⟩ u) r (.slice (some ⟨g, 0, Option.none⟩) r.ins.length k) vf := by
  have hg := h.ins.lt g rfl
  refine ⟨⟨(set_other (by omega)).trans h.ow.h1, (set_other (by omega)).trans h.ow.h2, h.ow.bel.trans ⟨rfl, rfl, rfl, by simp [World.setCell], fun k hk => set_other (by omega)⟩⟩, own_same h.ins hx, owns_kept h.fds fun k hk => set_other ?_⟩
  rintro rfl
  obtain ⟨_, c1, x1⟩ := owns_block h.ins (v := .slice (some ⟨k, 0, Option.none⟩) r.ins.length _) rfl
  obtain ⟨_, c2, x2⟩ := owns_block h.fds hk
  exact ne_type x1 x2 (by decide) rfl
end

theorem name_two {w W : World} {r : Run} {vf : Value} {g k j k4 : Nat} {u n t : Value} (h : OO w W r (.slice (some ⟨g, 0, Option.none⟩) r.ins.length k) vf) (hx : (inV r.ins)[j]? = some u) (h4 : W.heap[k4]? = some (.cells #[n, t] 59 (0, 0))) (hne : g ≠ k4) :
    (W.cell? ⟨w.heap.size, 4, Option.none⟩ = some (.slice (some ⟨g, 0, Option.none⟩) r.ins.length k) ∧ W.cell? ⟨k4, 0, Option.none⟩ = some n) ∧ ((W.setCell ⟨g, j, Option.none⟩ u).cell? ⟨w.heap.size, 4, Option.none⟩ = some (.slice (some ⟨g, 0, Option.none⟩) r.ins.length k) ∧ (W.setCell ⟨g, j, Option.none⟩ u).cell? ⟨k4, 0, Option.none⟩ = some n) ∧
    W.cell? ⟨g, j, Option.none⟩ = some u ∧ W.frozen? ⟨g, j, Option.none⟩ = false := by
  have hg := h.ins.lt g rfl
  have c4 : W.cell? ⟨w.heap.size, 4, Option.none⟩ = some (.slice (some ⟨g, 0, Option.none⟩) r.ins.length k) := by simp [World.cell?, h.ow.h1, runC]
  have k0 : W.cell? ⟨k4, 0, Option.none⟩ = some n := by simp [World.cell?, h4]
  refine ⟨⟨c4, k0⟩, ⟨(cell_of_block (j := 4) (set_other (by omega))).trans c4, (cell_of_block (j := 0) (set_other (Ne.symm hne))).trans k0⟩, ?_, World.ownsRow.frozenAt h.ins j⟩
  rcases own_at h.ins with ⟨e, _⟩ | ⟨g', cap, e, _, _, _, hc⟩
  · cases e
  · cases e
    exact hc _ _ hx

theorem own_done {w W : World} {r : Run} {vi vf : Value} (h : OO w W r vi vf) {v0 v1 v2 v3 v4 v5 : Value} : ∃ ui uf, Ending.returned (.agg #[.string r.out, .string r.cmd, .int .i64 r.time, .int .i64 r.mark, vi, vf]) = .returned (.agg (runC r ui uf)) ∧ (six W (w.heap.size + 1) v0 v1 v2 v3 v4 v5).ownsRow w.heap.size 59 2 ui r.ins.length (inV r.ins) ∧ (six W (w.heap.size + 1) v0 v1 v2 v3 v4 v5).ownsRow w.heap.size 3 1 uf r.found.length (tV r.found) ∧ Below w.heap.size w (six W (w.heap.size + 1) v0 v1 v2 v3 v4 v5) := by
  refine ⟨vi, vf, rfl, owns_base (owns_kept h.ins fun k hk => six_other ?_) (by omega), owns_base (owns_kept h.fds fun k hk => six_other ?_) (by omega), h.ow.bel.trans ((six_off (C := fun j => j = w.heap.size + 1) rfl).below (by rintro j rfl; omega) h.ow.bel.size)⟩
  · have := (h.ins.lt k hk).1
    omega
  · have := (h.fds.lt k hk).1
    omega

set_option maxRecDepth 100000 in
set_option maxHeartbeats 8000000 in
theorem own_c {w : World} {r : Run} {vi vf : Value} (hi : InRow w vi r.ins) (hf : FdRow w vf r.found) (hni : r.ins.length ≤ 100000) (hnf : r.found.length ≤ 100000) (ho : r.out.size ≤ 1000000) (hc : r.cmd.size ≤ 1000000) (hns : ∀ x ∈ r.ins, x.name.size ≤ 1000000) :
    Calls Try.prog 54 #[.agg (runC r vi vf)] w fun e w' => ∃ ui uf, e = .returned (.agg (runC r ui uf)) ∧ w'.ownsRow w.heap.size 59 2 ui r.ins.length (inV r.ins) ∧ w'.ownsRow w.heap.size 3 1 uf r.found.length (tV r.found) ∧ Below w.heap.size w w' := by
  obtain ⟨W0, hW0⟩ : ∃ W, (w.alloc (.cells (runC r vi vf) 33)).alloc (.cells #[.string ⟨#[]⟩, .string ⟨#[]⟩, .int .i64 0, .int .i64 0, .slice Option.none 0 0, .slice Option.none 0 0] 33) = W := ⟨_, rfl⟩
  have z1 : (w.alloc (.cells (runC r vi vf) 33)).heap.size = w.heap.size + 1 := Array.size_push _
  have x0 : OW w W0 r vi vf := by
    rw [← hW0]
    refine ⟨?_, ?_, ((Below.refl _ _).alloc (Nat.le_refl _) _).alloc (by rw [z1]; omega) _⟩
    · rw [Below.heap_alloc _ _ _ (by rw [z1]; omega)]
      exact heap_alloc_new _ _
    · rw [← z1]
      exact heap_alloc_new _ _
  have HI := Lib.hid hi
  have HF := Lib.hid hf
  have HNS := Lib.hid hns
  have shI : ∃ a n c, vi = .slice a n c := by obtain ⟨a, c, e, _⟩ := hi; exact ⟨a, _, c, e⟩
  have shF : ∃ a n c, vf = .slice a n c := by obtain ⟨a, c, e, _⟩ := hf; exact ⟨a, _, c, e⟩
  obtain ⟨a1, n1, k1, rfl⟩ := shI
  obtain ⟨a3, n3, k3, rfl⟩ := shF
  have X0 := Lib.hid x0
  have hs1 := cloneS_c r.out W0.drew ho
  unfold runC at hW0 ⊢
  obtain ⟨⟨c0, c1, c2, c3, c4, c5⟩, f0, f1, f2, f3, f4, f5⟩ := six_cells x0.h1
  clear x0 z1 hi hf hns
  go_enter Try.func54, Try.ntmps54
  go_wp2_with fail
  go_region_held3 (fun w' => w'.cell? ⟨w.heap.size, 0, Option.none⟩ = some (.string r.out) ∧ w'.cell? ⟨w.heap.size, 1, Option.none⟩ = some (.string r.cmd))
    (first | exact ⟨c0, c1⟩ | exact m1 | exact m2 | exact m3 | exact m4 | fail)
    (first
      | (go_at_call 74; (with_reducible refine hs1.mono ?_); rintro e V1 ⟨rfl, hb1⟩; have X1 := Lib.hid (X0.out.next (below_of_drew hb1)); obtain ⟨⟨p0, p1, -, -, -, -⟩, -⟩ := six_cells X1.out.h1; have m1 := And.intro p0 p1; have hs2 := cloneS_c r.cmd V1 hc; clear hb1)
      | (go_at_call 74; (with_reducible refine hs2.mono ?_); rintro e V2 ⟨rfl, hb2⟩; have X2 := Lib.hid (X1.out.next hb2); obtain ⟨⟨q0, q1, q2, q3, q4, q5⟩, g0, g1, g2, g3, g4, g5⟩ := six_cells X2.out.h1; have m2 := And.intro q0 q1; obtain ⟨m3, m4⟩ := texts_two X2.out; clear hb2))
  have X3 := Lib.hid X2.out.texts
  clear c0 c1 c2 c3 c4 c5 f0 f1 f2 f3 f4 f5 p0 p1 m1 m2 m3 m4 q0 q1 q2 q3 q4 q5 g0 g1 g2 g3 g4 g5 X1 X2 hs1 hs2 hW0
  generalize (V2.setCell ⟨w.heap.size, 0, Option.none⟩ (.string r.out)).setCell ⟨w.heap.size, 1, Option.none⟩ (.string r.cmd) = V3 at *
  go_wp2_with fail
  have hi3 := HI.out.below X3.out.bel
  have hf3 := HF.out.below X3.out.bel
  have hq1 := cloneI_c (w := V3.drew) hni (hi3.below (below_drew (Below.refl V3.heap.size V3)))
  obtain ⟨⟨-, -, -, -, c4, c5⟩, -⟩ := six_cells X3.out.h1
  have HI3 := Lib.hid hi3
  have HF3 := Lib.hid hf3
  clear hi3 hf3
  refine wp_region_noPanic ?_
  refine Lt.wp_region_late [7, 8, 9] (fun w' => w'.cell? ⟨w.heap.size, 4, Option.none⟩ = some (.slice a1 n1 k1) ∧ w'.cell? ⟨w.heap.size, 5, Option.none⟩ = some (.slice a3 n3 k3)) (by kernel_rfl) ?_
  refine Lt.wpAnyL_take (i := 0) (v := ?_) [7, 8, 9] rfl (by kernel_rfl) (by kernel_rfl) (by kernel_rfl) (by kernel_rfl) (by kernel_rfl) (by kernel_rfl) (fun _ _ _ h => h) (Or.inl ⟨by rfl, ?_⟩) ⟨c4, c5⟩ ?_
  rotate_left 1
  · intro w hSw
    try dsimp only at hSw
    go_simp
    first | done | with_reducible rfl
  try simp only [Act.put, List.setIfInBounds_toArray, List.set_cons_zero, List.set_cons_succ]
  refine Lt.wpAnyL_take (i := 1) (v := ?_) [7, 8, 9] rfl (by kernel_rfl) (by kernel_rfl) (by kernel_rfl) (by kernel_rfl) (by kernel_rfl) (by kernel_rfl) (fun _ _ _ h => h) (Or.inl ⟨by rfl, ?_⟩) ⟨c4, c5⟩ ?_
  rotate_left 1
  · intro w hSw
    try dsimp only at hSw
    go_simp
    first | done | with_reducible rfl
  try simp only [Act.put, List.setIfInBounds_toArray, List.set_cons_zero, List.set_cons_succ]
  refine Lt.wpAnyL_take (i := 3) (v := ?_) [7, 8, 9] rfl (by kernel_rfl) (by kernel_rfl) (by kernel_rfl) (by kernel_rfl) (by kernel_rfl) (by kernel_rfl) (fun _ _ _ h => h) (Or.inl ⟨by rfl, ?_⟩) ⟨c4, c5⟩ ?_
  rotate_left 1
  · intro w hSw
    try dsimp only at hSw
    go_simp
    first | done | with_reducible rfl
  try simp only [Act.put, List.setIfInBounds_toArray, List.set_cons_zero, List.set_cons_succ]
  refine Lt.wpAnyL_take (i := 4) (v := ?_) [7, 8, 9] rfl (by kernel_rfl) (by kernel_rfl) (by kernel_rfl) (by kernel_rfl) (by kernel_rfl) (by kernel_rfl) (fun _ _ _ h => h) (Or.inl ⟨by rfl, ?_⟩) ⟨c4, c5⟩ ?_
  rotate_left 1
  · intro w hSw
    try dsimp only at hSw
    go_simp
    first | done | with_reducible rfl
  try simp only [Act.put, List.setIfInBounds_toArray, List.set_cons_zero, List.set_cons_succ]
  refine Lt.wpAnyL_next (i := 2) (by kernel_rfl) rfl (fun K hK => ?_)
  go_simp
  go_at_call 75
  refine hq1.mono ?_
  rintro e V4 ⟨ia, ik, rfl, hoi, hb4⟩
  have hb4' : Below V3.heap.size V3 V4 := below_of_drew hb4
  have X4 := Lib.hid (X3.out.next hb4')
  have HOI := Lib.hid (owns_base hoi X3.out.siz)
  have hq2 := cloneF_c (w := V4) hnf (HF3.out.below hb4')
  obtain ⟨⟨-, -, -, -, d4, d5⟩, -⟩ := six_cells X4.out.h1
  clear hq1 hoi hb4 hb4'
  refine hK.out _ _ (fun _ => ⟨d4, d5⟩) ?_
  clear hK K
  try simp only [Act.put, List.setIfInBounds_toArray, List.set_cons_zero, List.set_cons_succ]
  refine Lt.wpAnyL_take (i := 6) (v := ?_) [7, 8, 9] rfl (by kernel_rfl) (by kernel_rfl) (by kernel_rfl) (by kernel_rfl) (by kernel_rfl) (by kernel_rfl) (fun _ _ _ h => h) (Or.inl ⟨by rfl, ?_⟩) ⟨d4, d5⟩ ?_
  rotate_left 1
  · intro w hSw
    try dsimp only at hSw
    go_simp
    first | done | with_reducible rfl
  try simp only [Act.put, List.setIfInBounds_toArray, List.set_cons_zero, List.set_cons_succ]
  refine Lt.wpAnyL_next (i := 5) (by kernel_rfl) rfl (fun K hK => ?_)
  go_simp
  go_at_call 76
  refine hq2.mono ?_
  rintro e V5 ⟨fa, fk, rfl, hof, hb5⟩
  have X5 := Lib.hid (X4.out.next hb5)
  have HOF := Lib.hid (owns_base hof X4.out.siz)
  have HOI5 := Lib.hid (owns_below HOI.out hb5)
  obtain ⟨⟨e0, e1, e2, e3, e4, e5⟩, g0, g1, g2, g3, g4, g5⟩ := six_cells X5.out.h1
  clear hq2 hof hb5
  refine hK.out _ _ (fun _ => ⟨e4, e5⟩) ?_
  clear hK K
  try simp only [Act.put, List.setIfInBounds_toArray, List.set_cons_zero, List.set_cons_succ]
  refine Lt.wpAnyL_next (i := 7) (by kernel_rfl) rfl (fun K hK => ?_)
  go_simp
  refine hK.out _ _ (fun h => by simp at h) ?_
  clear hK K
  try simp only [Act.put, List.setIfInBounds_toArray, List.set_cons_zero, List.set_cons_succ]
  refine Lt.wpAnyL_next (i := 8) (by kernel_rfl) rfl (fun K hK => ?_)
  go_simp
  refine hK.out _ _ (fun h => by simp at h) ?_
  clear hK K
  try simp only [Act.put, List.setIfInBounds_toArray, List.set_cons_zero, List.set_cons_succ]
  refine Lt.wpAnyL_next (i := 9) (by kernel_rfl) rfl (fun K hK => ?_)
  go_simp
  have X6 := Lib.hid (X5.out.lists HOI5.out HOF.out)
  refine hK.out _ _ (fun h => by simp at h) ?_
  clear hK K
  try simp only [Act.put, List.setIfInBounds_toArray, List.set_cons_zero, List.set_cons_succ]
  refine Lt.wpAnyL_done (by kernel_rfl) ?_ _
  refine NoPanic.normal ?_
  clear c4 c5 d4 d5 e0 e1 e2 e3 e4 e5 g0 g1 g2 g3 g4 g5 X3 X4 X5 HOI HOI5 HOF HI HF HI3 HF3
  generalize (V5.setCell ⟨w.heap.size, 4, Option.none⟩ (.slice ia r.ins.length ik)).setCell ⟨w.heap.size, 5, Option.none⟩ (.slice fa r.found.length fk) = V6 at *
  obtain ⟨⟨c0, c1, c2, c3, c4, c5⟩, -⟩ := six_cells X6.out.ow.h1
  go_wp2_with fail
  go_loopw [24] (fun i wr => ∃ j : Nat, j ≤ r.ins.length ∧ i = .int .i64 j ∧ Hid (OO w wr r (.slice ia r.ins.length ik) (.slice fa r.found.length fk))) (fun i _ => r.ins.length - (intOf i).toNat)
  case atStart => exact ⟨0, Nat.zero_le _, rfl, X6⟩
  case round =>
    obtain ⟨j, hj, rfl, hX⟩ := hrel
    clear X6 c0 c1 c2 c3 c4 c5
    by_cases hlt : j < r.ins.length
    · have hx := List.getElem?_eq_getElem hlt
      have hnm := HNS.out _ (List.getElem_mem hlt)
      obtain ⟨v0, v1⟩ := inV_get r.ins j _ hx
      generalize r.ins[j] = x at *
      have V0 := Lib.hid v0
      rcases own_at hX.out.ins with ⟨e, e2⟩ | ⟨g, cap, e, hgb, hgl, hcap, hcell⟩
      · rw [e2] at hlt; simp at hlt
      cases e
      have x0 := hcell _ _ v0
      have x1 := hcell _ _ v1
      have hi0 : (0 : Int) ≤ (j : Int) := by omega
      have hi1 : (j : Int) < (r.ins.length : Int) := by omega
      clear hcell hx v0 v1
      obtain ⟨V7, hV7⟩ : ∃ V, wr.alloc (.cells #[.string x.name, .int .i64 x.time] 59) = V := ⟨_, rfl⟩
      have hb7 : Below wr.heap.size wr V7 := by rw [← hV7]; exact Pk.below_alloc _ _
      have h4c : V7.heap[wr.heap.size]? = some (.cells #[.string x.name, .int .i64 x.time] 59 (0, 0)) := by rw [← hV7]; exact heap_alloc_new _ _
      have X7 := Lib.hid (hX.out.next hb7)
      have H4 := Lib.hid h4c
      have hl4 := lt_some h4c
      have k0 : V7.cell? ⟨wr.heap.size, 0, Option.none⟩ = some (.string x.name) := by simp [World.cell?, h4c]
      have hs1 := cloneS_c x.name V7.drew hnm
      obtain ⟨⟨-, -, -, -, c4, -⟩, -⟩ := six_cells X7.out.ow.h1
      have hne : g ≠ wr.heap.size := by omega
      clear hb7 h4c
      go_wp2_with fail
      go_region_held3 (fun w' => w'.cell? ⟨w.heap.size, 4, Option.none⟩ = some (.slice (some ⟨g, 0, Option.none⟩) r.ins.length ik) ∧ w'.cell? ⟨wr.heap.size, 0, Option.none⟩ = some (.string x.name))
        (first | exact ⟨c4, k0⟩ | exact m1 | exact m2 | fail)
        (first
          | (go_at_call 74; (with_reducible refine hs1.mono ?_); rintro e V8 ⟨rfl, hb8⟩; have X8 := Lib.hid (X7.out.next (below_of_drew hb8)); have p4 := ((below_of_drew hb8).block _ hl4).trans H4.out; have HE := Lib.hid (X8.out.name V0.out); obtain ⟨m1, m2, y0, yf⟩ := name_two X8.out V0.out p4 hne; clear hb8 p4))
      go_wp2_with fail
      go_roundw
      case rel => exact ⟨j + 1, by omega, by go_num, HE⟩
      case measure => simp [intOf]; omega
    · obtain rfl : j = r.ins.length := by omega
      obtain ⟨⟨c0, c1, c2, c3, c4, c5⟩, -⟩ := six_cells hX.out.ow.h1
      obtain ⟨⟨k0, k1, k2, k3, k4, k5⟩, r0, r1, r2, r3, r4, r5⟩ := six_cells hX.out.ow.h2
      go_wp2_with fail
      obtain ⟨⟨s0', s1', s2', s3', s4', s5'⟩, -⟩ := six_cells (six_same (v0 := .string r.out) (v1 := .string r.cmd) (v2 := .int .i64 r.time) (v3 := .int .i64 r.mark) (v4 := .slice ia r.ins.length ik) (v5 := .slice fa r.found.length fk) hX.out.ow.h2)
      unfold six at s0' s1' s2' s3' s4' s5'
      refine bodyPost_ret (v := .agg #[.string r.out, .string r.cmd, .int .i64 r.time, .int .i64 r.mark, .slice ia r.ins.length ik, .slice fa r.found.length fk]) (by simp [results, Try.f54, go_sem, s0', s1', s2', s3', s4', s5']) rfl ?_
      exact own_done hX.out
end Go.Proofs.Ytdijpoemimebmaa.Rn
