/-
  Open, where there is no disk.
-/
import Derived.Test.YtfmelhcpccghdaaNoneW2
namespace Go.Proofs.Ytfmelhcpccghdaa.Rl
open Go.RowKit Go.Maps

variable {w : World} {nm : List UInt8} {k : UInt8}

set_option maxRecDepth 100000 in
set_option maxHeartbeats 4000000 in
theorem dropSpare_nil {lp : Nat} (c0 : w.cell? ⟨lp, 0, none⟩ = some (.pointer none)) (c1 : w.cell? ⟨lp, 1, none⟩ = some (.string (mk nm))) (hnm : nm.length ≤ 900000) :
    Calls Try.prog 23 #[.pointer (some ⟨lp, 0, none⟩)] w fun e w' => e = .returned (.int .i64 8) ∧ Below w.heap.size w w' := by
  have hlt : lp < w.heap.size := Pk.lt_of_cell c0
  have hpA := spare_c (w := w.drew) (lp := lp) (nm := nm) c1 (by omega)
  have hpB := spare_c (w := (w.alloc (.cells #[.int .i64 0, .int .i64 0] 37)).drew) (lp := lp) (nm := nm) (alloc_cell _ c1) (by omega)
  have hbB := below_alloc w (.cells #[.int .i64 0, .int .i64 0] 37)
  have hsA : Calls Try.prog 9 #[.pointer none, .string (mk (newN nm))] w.drew fun e w' => e = .returned (.tuple #[.agg #[.int .i64 0, .int .i64 0], .int .i64 8]) ∧ Below w.heap.size w w' ∧ w'.cell? ⟨lp, 0, none⟩ = some (.pointer none) ∧ w'.cell? ⟨lp, 1, none⟩ = some (.string (mk nm)) ∧ w'.heap.size ≠ lp := (stat_nil w.drew (newN nm)).mono fun e w' ⟨h1, h3⟩ => by
    have hB : Below w.heap.size w w' := ⟨h3.os, h3.tape, h3.output, h3.size, h3.block⟩
    exact ⟨h1, hB, (hB.cell (p := ⟨lp, 0, none⟩) hlt).trans c0, (hB.cell (p := ⟨lp, 1, none⟩) hlt).trans c1, fun e => by have h5 := hB.size; omega⟩
  have hsB : Calls Try.prog 9 #[.pointer none, .string (mk (newN nm))] (w.alloc (.cells #[.int .i64 0, .int .i64 0] 37)).drew fun e w' => e = .returned (.tuple #[.agg #[.int .i64 0, .int .i64 0], .int .i64 8]) ∧ Below w.heap.size w w' ∧ w'.cell? ⟨lp, 0, none⟩ = some (.pointer none) ∧ w'.cell? ⟨lp, 1, none⟩ = some (.string (mk nm)) ∧ w'.cell? ⟨w.heap.size, 0, none⟩ = some (.int .i64 0) ∧ w'.cell? ⟨w.heap.size, 1, none⟩ = some (.int .i64 0) ∧ w'.frozen? ⟨w.heap.size, 0, none⟩ = false ∧ w'.frozen? ⟨w.heap.size, 1, none⟩ = false := (stat_nil _ (newN nm)).mono fun e w' ⟨h1, h3⟩ => by
    have hb0 : Below w.heap.size w (w.alloc (.cells #[.int .i64 0, .int .i64 0] 37)).drew := ⟨hbB.os, hbB.tape, hbB.output, hbB.size, hbB.block⟩
    have hB := hb0.trans (h3.mono hb0.size)
    have hl2 : w.heap.size < (w.alloc (.cells #[.int .i64 0, .int .i64 0] 37)).drew.heap.size := by show _ < (w.alloc _).heap.size; simp
    have hbk := h3.block w.heap.size hl2
    exact ⟨h1, hB, (hB.cell (p := ⟨lp, 0, none⟩) hlt).trans c0, (hB.cell (p := ⟨lp, 1, none⟩) hlt).trans c1,
      (h3.cell (p := ⟨w.heap.size, 0, none⟩) hl2).trans (cell_at_new w _ _ 0 _ rfl), (h3.cell (p := ⟨w.heap.size, 1, none⟩) hl2).trans (cell_at_new w _ _ 1 _ rfl),
      (World.frozen?_of_block (a := ⟨w.heap.size, 0, none⟩) hbk).trans (frozen_of (heap_alloc_new w _) 0), (World.frozen?_of_block (a := ⟨w.heap.size, 1, none⟩) hbk).trans (frozen_of (heap_alloc_new w _) 1)⟩
  have hne : w.heap.size ≠ lp := by omega
  clear hbB
  go_enter Try.func23, Try.ntmps23
  go_wp2_with fail
  go_region_held3 (fun w' => w'.cell? ⟨lp, 0, none⟩ = some (.pointer none) ∧ w'.cell? ⟨lp, 1, none⟩ = some (.string (mk nm)))
    (first | exact ⟨c0, c1⟩ | exact ⟨alloc_cell _ c0, alloc_cell _ c1⟩ | exact ⟨m0, m1⟩ | exact ⟨alloc_cell _ m0, alloc_cell _ m1⟩ | exact ⟨set_blk hne (set_blk hne m0), set_blk hne (set_blk hne m1)⟩ | exact ⟨set_blk hn6 (set_blk hn6 (alloc_cell _ m0)), set_blk hn6 (set_blk hn6 (alloc_cell _ m1))⟩ | fail)
    (first
      | (go_at_call 38; (first | (with_reducible refine hpA.mono ?_) | (with_reducible refine hpB.mono ?_)); rintro e w5 ⟨rfl, rfl⟩)
      | (go_at_call 9; (with_reducible refine hsA.mono ?_); rintro e w6 ⟨rfl, hb6, m0, m1, hn6⟩)
      | (go_at_call 9; (with_reducible refine hsB.mono ?_); rintro e w6 ⟨rfl, hb6, m0, m1, x0, x1, z0, z1⟩))
  · have hBF : Below w.heap.size w (w6.alloc (.cells #[.int .i64 0, .int .i64 0] 37)) := hb6.alloc hb6.size _
    clear m0 m1 hn6 hsA hsB hpA hpB
    generalize w6.alloc (.cells #[.int .i64 0, .int .i64 0] 37) = WF at *
    rename_i hHeld
    obtain ⟨f0, f1⟩ := hHeld
    have hlt2 : lp < WF.heap.size := Pk.lt_of_cell f0
    have hrm : Calls Try.prog 49 #[.pointer none, .string (mk (newN nm))] WF.drew fun e w' => e = .returned (.int .i64 8) ∧ Below w.heap.size w w' ∧ w'.cell? ⟨lp, 0, none⟩ = some (.pointer none) ∧ w'.cell? ⟨lp, 1, none⟩ = some (.string (mk nm)) := (Remove_nil (newN nm) WF.drew).mono fun e w' ⟨h1, h3⟩ => by
      have h4 : Below WF.heap.size WF w' := ⟨h3.os, h3.tape, h3.output, h3.size, h3.block⟩
      exact ⟨h1, hBF.trans (h4.mono hBF.size), (h4.cell (p := ⟨lp, 0, none⟩) hlt2).trans f0, (h4.cell (p := ⟨lp, 1, none⟩) hlt2).trans f1⟩
    clear hlt2
    have hsp := spare_c (w := WF.drew) (lp := lp) (nm := nm) f1 (by omega)
    clear hBF
    go_wp2_with fail
    go_region_held3 (fun w' => w'.cell? ⟨lp, 0, none⟩ = some (.pointer none) ∧ w'.cell? ⟨lp, 1, none⟩ = some (.string (mk nm)))
      (first | exact ⟨f0, f1⟩ | exact ⟨g0, g1⟩ | fail)
      (first
        | (go_at_call 38; (with_reducible refine hsp.mono ?_); rintro e w5 ⟨rfl, rfl⟩)
        | (go_at_call 49; (with_reducible refine hrm.mono ?_); rintro e w7 ⟨rfl, hb7, g0, g1⟩))
    go_wp2
    go_ret
    exact ⟨rfl, hb7⟩
  · have hBF : Below w.heap.size w ((w6.setCell ⟨w.heap.size, 0, none⟩ (.int .i64 0)).setCell ⟨w.heap.size, 1, none⟩ (.int .i64 0)) := (hb6.setCell (Nat.le_refl _) _).setCell (Nat.le_refl _) _
    clear m0 m1 x0 x1 z0 z1 hsA hsB hpA hpB
    generalize (w6.setCell ⟨w.heap.size, 0, none⟩ (.int .i64 0)).setCell ⟨w.heap.size, 1, none⟩ (.int .i64 0) = WF at *
    rename_i hHeld
    obtain ⟨f0, f1⟩ := hHeld
    have hlt2 : lp < WF.heap.size := Pk.lt_of_cell f0
    have hrm : Calls Try.prog 49 #[.pointer none, .string (mk (newN nm))] WF.drew fun e w' => e = .returned (.int .i64 8) ∧ Below w.heap.size w w' ∧ w'.cell? ⟨lp, 0, none⟩ = some (.pointer none) ∧ w'.cell? ⟨lp, 1, none⟩ = some (.string (mk nm)) := (Remove_nil (newN nm) WF.drew).mono fun e w' ⟨h1, h3⟩ => by
      have h4 : Below WF.heap.size WF w' := ⟨h3.os, h3.tape, h3.output, h3.size, h3.block⟩
      exact ⟨h1, hBF.trans (h4.mono hBF.size), (h4.cell (p := ⟨lp, 0, none⟩) hlt2).trans f0, (h4.cell (p := ⟨lp, 1, none⟩) hlt2).trans f1⟩
    clear hlt2
    have hsp := spare_c (w := WF.drew) (lp := lp) (nm := nm) f1 (by omega)
    clear hBF
    go_wp2_with fail
    go_region_held3 (fun w' => w'.cell? ⟨lp, 0, none⟩ = some (.pointer none) ∧ w'.cell? ⟨lp, 1, none⟩ = some (.string (mk nm)))
      (first | exact ⟨f0, f1⟩ | exact ⟨g0, g1⟩ | fail)
      (first
        | (go_at_call 38; (with_reducible refine hsp.mono ?_); rintro e w5 ⟨rfl, rfl⟩)
        | (go_at_call 49; (with_reducible refine hrm.mono ?_); rintro e w7 ⟨rfl, hb7, g0, g1⟩))
    go_wp2
    go_ret
    exact ⟨rfl, hb7⟩
  · have hBF : Below w.heap.size w ((w6.setCell ⟨w.heap.size, 0, none⟩ (.int .i64 0)).setCell ⟨w.heap.size, 1, none⟩ (.int .i64 0)) := (hb6.setCell (Nat.le_refl _) _).setCell (Nat.le_refl _) _
    clear m0 m1 x0 x1 z0 z1 hsA hsB hpA hpB
    generalize (w6.setCell ⟨w.heap.size, 0, none⟩ (.int .i64 0)).setCell ⟨w.heap.size, 1, none⟩ (.int .i64 0) = WF at *
    rename_i hHeld
    obtain ⟨f0, f1⟩ := hHeld
    have hlt2 : lp < WF.heap.size := Pk.lt_of_cell f0
    have hrm : Calls Try.prog 49 #[.pointer none, .string (mk (newN nm))] WF.drew fun e w' => e = .returned (.int .i64 8) ∧ Below w.heap.size w w' ∧ w'.cell? ⟨lp, 0, none⟩ = some (.pointer none) ∧ w'.cell? ⟨lp, 1, none⟩ = some (.string (mk nm)) := (Remove_nil (newN nm) WF.drew).mono fun e w' ⟨h1, h3⟩ => by
      have h4 : Below WF.heap.size WF w' := ⟨h3.os, h3.tape, h3.output, h3.size, h3.block⟩
      exact ⟨h1, hBF.trans (h4.mono hBF.size), (h4.cell (p := ⟨lp, 0, none⟩) hlt2).trans f0, (h4.cell (p := ⟨lp, 1, none⟩) hlt2).trans f1⟩
    clear hlt2
    have hsp := spare_c (w := WF.drew) (lp := lp) (nm := nm) f1 (by omega)
    clear hBF
    go_wp2_with fail
    go_region_held3 (fun w' => w'.cell? ⟨lp, 0, none⟩ = some (.pointer none) ∧ w'.cell? ⟨lp, 1, none⟩ = some (.string (mk nm)))
      (first | exact ⟨f0, f1⟩ | exact ⟨g0, g1⟩ | fail)
      (first
        | (go_at_call 38; (with_reducible refine hsp.mono ?_); rintro e w5 ⟨rfl, rfl⟩)
        | (go_at_call 49; (with_reducible refine hrm.mono ?_); rintro e w7 ⟨rfl, hb7, g0, g1⟩))
    go_wp2
    go_ret
    exact ⟨rfl, hb7⟩

set_option maxRecDepth 100000 in
set_option maxHeartbeats 4000000 in
theorem open_nil (hnm : nm.length ≤ 900000) (k : UInt8) (w : World) :
    Calls Try.prog 7 #[.pointer none, .string (mk nm), .int .u8 k.toNat] w fun e w' => e = .returned (.tuple #[.pointer none, .slice none 0 0, .int .i64 8]) ∧ Below w.heap.size w w' := by
  have hcl := clone_c (mk nm) w (by rw [mk_size]; omega)
  go_enter Try.func7, Try.ntmps7
  go_wp2_with fail
  refine hcl.mono ?_
  rintro e w1 ⟨rfl, hb1⟩
  clear hcl
  have HB1 := Lib.hid hb1
  clear hb1
  obtain ⟨b, hb⟩ : ∃ b, w1.heap.size = b := ⟨_, rfl⟩
  obtain ⟨W0, hW0⟩ : ∃ W, (((w1.alloc (.cells #[.pointer none, .string (mk nm), .int .u8 k.toNat] 59)).alloc (.cells #[.pointer (some ⟨b, 0, none⟩)] 30)).alloc (.cells #[.slice none 0 0] 31)).alloc (.cells #[.func (.func 23) #[.pointer (some ⟨b, 0, none⟩)] #[], .func (.func 24) #[] #[.pointer (some ⟨b + 1, 0, none⟩), .pointer (some ⟨b + 1 + 1, 0, none⟩)]] 47) = W := ⟨_, rfl⟩
  have h0 : Below w1.heap.size w1 W0 := by rw [← hW0]; exact (((below_alloc w1 _).alloc (by simp) _).alloc (by simp; omega) _).alloc (by simp; omega) _
  have g0 : W0.heap[b]? = some (.cells #[.pointer none, .string (mk nm), .int .u8 k.toNat] 59 (0, 0)) := by
    rw [← hW0, Below.heap_alloc _ _ _ (by simp; omega), Below.heap_alloc _ _ _ (by simp; omega), Below.heap_alloc _ _ _ (by simp; omega), ← hb]; exact heap_alloc_new _ _
  have g3 : W0.heap[b + 1 + 1 + 1]? = some (.cells #[.func (.func 23) #[.pointer (some ⟨b, 0, none⟩)] #[], .func (.func 24) #[] #[.pointer (some ⟨b + 1, 0, none⟩), .pointer (some ⟨b + 1 + 1, 0, none⟩)]] 47 (0, 0)) := by
    rw [← hW0]
    have := heap_alloc_new (((w1.alloc (.cells #[.pointer none, .string (mk nm), .int .u8 k.toNat] 59)).alloc (.cells #[.pointer (some ⟨b, 0, none⟩)] 30)).alloc (.cells #[.slice none 0 0] 31)) (.cells #[.func (.func 23) #[.pointer (some ⟨b, 0, none⟩)] #[], .func (.func 24) #[] #[.pointer (some ⟨b + 1, 0, none⟩), .pointer (some ⟨b + 1 + 1, 0, none⟩)]] 47)
    rwa [World.size_alloc, World.size_alloc, World.size_alloc, hb] at this
  have hBW : Below w.heap.size w W0 := HB1.out.trans (h0.mono HB1.out.size)
  have hl0 : W0.cell? ⟨b, 0, none⟩ = some (.pointer none) := by simp only [World.cell?, g0]; rfl
  have hl1 : W0.cell? ⟨b, 1, none⟩ = some (.string (mk nm)) := by simp only [World.cell?, g0]; rfl
  have ha0 : W0.cell? ⟨b + 1 + 1 + 1, 0, none⟩ = some (.func (.func 23) #[.pointer (some ⟨b, 0, none⟩)] #[]) := by simp only [World.cell?, g3]; rfl
  have hint := inTurn_c (w := W0) (a := b + 1 + 1 + 1) (n := 2) (c := 2) (R := fun j W => j = 0 ∧ W = W0) (E := fun m W => m = 8 ∧ Below W0.heap.size W0 W) (by omega)
    (fun j W hj ⟨e1, e2⟩ => by
      subst e1 e2
      exact ⟨_, _, _, ha0, fun W' => rfl, (dropSpare_nil hl0 hl1 hnm).mono fun e W' ⟨he, hb⟩ => ⟨8, he, fun h => absurd h (by decide), fun _ => ⟨rfl, hb⟩⟩⟩) ⟨rfl, rfl⟩
  rw [← hW0, ← hb] at hint
  have HBW := Lib.hid hBW
  have HE := Lib.hid (And.intro hW0 hb)
  clear hl0 hl1 ha0 g0 g3 h0 hBW hW0 hb
  go_wp2_with fail
  refine hint.mono ?_
  rintro e w3 ⟨m, rfl, hR, hE⟩
  clear hint
  by_cases hm : m = 0
  · exact absurd (hR hm).1 (by decide)
  · obtain ⟨rfl, hb3⟩ := hE hm
    rw [HE.out.2, HE.out.1] at hb3
    have HF := Lib.hid (HBW.out.trans (hb3.mono HBW.out.size))
    clear hR hE hm hb3
    go_wp2
    go_ret3
    exact ⟨rfl, HF.out⟩
end Go.Proofs.Ytfmelhcpccghdaa.Rl
