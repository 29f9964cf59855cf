/-
  A DISK THAT IS NOT THERE: each deed tells that it is down.
-/
import Derived.Test.YtfmelhcpccghdaaGreatMeth
import Derived.Test.YtfmelhcpccghdaaGreatRestart
namespace Go.Proofs.YtfmelhcpccghdaaGreat
open Go.RowKit Go.Maps

variable {w : World}

set_option maxHeartbeats 2000000 in
theorem deed_nil (F : Fn) (cs : Array Value) (a : Option Addr) (n c : Nat) (w : World) : Calls Tryz.prog 42 #[.pointer none, .func F #[] cs, .slice a n c] w fun e w' => e = .returned (.int .i64 8) ∧ Below w.heap.size w w' := by
  go_enter Tryz.func42, Tryz.ntmps42
  go_wp2_with (go_at_call 13; refine (down_nil _).mono ?_; rintro e w' ⟨rfl, rfl⟩)
  go_ret
  exact ⟨rfl, Below.refl _ _⟩

theorem deedNil_weak {W w2 : World} {F : Fn} {cs : Array Value} {a : Option Addr} {n c : Nat} (hB : Below w.heap.size w W) (hB2 : Below w2.heap.size w2 W) :
    Calls Tryz.prog 42 #[.pointer none, .func F #[] cs, .slice a n c] W fun e w' => (e = .returned (.int .i64 8) ∧ Below w.heap.size w w') ∧ ∀ a : Addr, w.heap.size ≤ a.block → a.block < w2.heap.size → w'.cell? a = w2.cell? a := by
  refine (deed_nil F cs a n c W).mono ?_
  rintro e w' ⟨rfl, hb⟩
  exact ⟨⟨rfl, hB.trans (hb.mono hB.size)⟩, fun a _ h2 => (hb.cell (Nat.lt_of_lt_of_le h2 hB2.size)).trans (hB2.cell h2)⟩

theorem nilOrders {w2 : World} {l : List UInt8} {G n : Nat} {cs C : Array Value} (hB : Below w.heap.size w w2) :
    (Calls Tryz.prog 42 #[.pointer none, .func (.func 77) #[] #[.pointer (some ⟨w2.heap.size, 0, none⟩), .pointer (some ⟨w2.heap.size + 1, 0, none⟩), .pointer (some ⟨w2.heap.size + 1 + 1, 0, none⟩)],
        .slice (some ⟨(boxed3 w2.drew (.pointer none) 23 (.string (mk l)) 9 (.func (.func G) #[] cs) 93).heap.size, 0, none⟩) n n]
      ((boxed3 w2.drew (.pointer none) 23 (.string (mk l)) 9 (.func (.func G) #[] cs) 93).alloc (.cells C 9)) fun e w' =>
        (e = .returned (.int .i64 8) ∧ Below w.heap.size w w') ∧ ∀ a : Addr, w.heap.size ≤ a.block → a.block < w2.heap.size → w'.cell? a = w2.cell? a) ∧
    (Calls Tryz.prog 42 #[.pointer none, .func (.func 77) #[] #[.pointer (some ⟨w2.heap.size + 1, 0, none⟩), .pointer (some ⟨w2.heap.size + 1 + 1, 0, none⟩), .pointer (some ⟨w2.heap.size + 1 + 1 + 1, 0, none⟩)],
        .slice (some ⟨w2.heap.size, 0, none⟩) n n]
      (boxed3 (w2.alloc (.cells C 9)).drew (.pointer none) 23 (.string (mk l)) 9 (.func (.func G) #[] cs) 93) fun e w' =>
        (e = .returned (.int .i64 8) ∧ Below w.heap.size w w') ∧ ∀ a : Addr, w.heap.size ≤ a.block → a.block < w2.heap.size → w'.cell? a = w2.cell? a) := by
  have hw2 := hB.size
  constructor
  · obtain ⟨e3, hB3, k3, k4, k5⟩ := boxed3_cells w2.drew (.pointer none) 23 (.string (mk l)) 9 (.func (.func G) #[] cs) 93
    generalize boxed3 w2.drew (.pointer none) 23 (.string (mk l)) 9 (.func (.func G) #[] cs) 93 = w3 at *
    have hB3' : Below w2.heap.size w2 w3 := ⟨hB3.os, hB3.tape, hB3.output, hB3.size, hB3.block⟩
    have hB4 : Below w2.heap.size w2 (w3.alloc (.cells C 9)) := hB3'.trans ((below_alloc w3 _).mono hB3'.size)
    exact deedNil_weak (hB.trans (hB4.mono hw2)) hB4
  · obtain ⟨e3, hB3, k3, k4, k5⟩ := boxed3_cells (w2.alloc (.cells C 9)).drew (.pointer none) 23 (.string (mk l)) 9 (.func (.func G) #[] cs) 93
    generalize boxed3 (w2.alloc (.cells C 9)).drew (.pointer none) 23 (.string (mk l)) 9 (.func (.func G) #[] cs) 93 = w3 at *
    have hB3' : Below (w2.alloc (.cells C 9)).heap.size (w2.alloc (.cells C 9)) w3 := ⟨hB3.os, hB3.tape, hB3.output, hB3.size, hB3.block⟩
    have hB4 : Below w2.heap.size w2 w3 := (below_alloc w2 _).trans (hB3'.mono (by simp))
    exact deedNil_weak (hB.trans (hB4.mono hw2)) hB4

set_option maxRecDepth 100000 in
set_option maxHeartbeats 4000000 in
theorem Remove_nil (l : List UInt8) (w : World) :
    Calls Tryz.prog 48 #[.pointer none, .string (mk l)] w fun e w' => e = .returned (.int .i64 8) ∧ Below w.heap.size w w' := by
  obtain ⟨w2, hw2⟩ : ∃ W, (w.alloc (.cells #[.pointer none] 23)).alloc (.cells #[.string (mk l)] 9) = W := ⟨_, rfl⟩
  have k0 : w2.cell? ⟨w.heap.size, 0, none⟩ = some (.pointer none) := by subst hw2; exact alloc_cell _ (cell_at_new _ _ _ _ _ rfl)
  have k1 : w2.cell? ⟨w.heap.size + 1, 0, none⟩ = some (.string (mk l)) := by
    subst hw2
    have := cell_at_new (w.alloc (.cells #[.pointer none] 23)) #[.string (mk l)] 9 0 _ rfl
    rw [World.size_alloc] at this
    exact this
  have e2 : w2.heap.size = w.heap.size + 1 + 1 := by subst hw2; simp
  have hB2 : Below w.heap.size w w2 := by subst hw2; exact (below_alloc w _).alloc (by simp) _
  have s0 : w.heap.size < w2.heap.size := by omega
  have s1 : w.heap.size + 1 < w2.heap.size := by omega
  have hd := nilOrders (w2 := w2) (l := l) (G := 67) (cs := #[.pointer (some ⟨w.heap.size, 0, none⟩), .pointer (some ⟨w.heap.size + 1, 0, none⟩)]) (C := #[.string (mk l)]) (n := 1) hB2
  obtain ⟨hdA, hdB⟩ := hd
  have HW2 := Lib.hid hw2
  clear hw2 hB2
  have hS : w.heap.size ≤ w.heap.size + 1 := Nat.le_succ _
  clear e2
  generalize hB : w.heap.size = B at *
  have bx := fun W : World => (boxed3_cells W (.pointer none) 23 (.string (mk l)) 9 (.func (.func 67) #[] #[.pointer (some ⟨B, 0, none⟩), .pointer (some ⟨B + 1, 0, none⟩)]) 93).2.1
  have BX := Lib.hid bx
  have HBB := Lib.hid hB
  clear bx
  go_enter Tryz.func48, Tryz.ntmps48
  go_wp2_with fail
  clear hB
  rw [HW2.out]
  go_region_held3 (fun w' => w'.cell? ⟨B, 0, none⟩ = some (.pointer none) ∧ w'.cell? ⟨B + 1, 0, none⟩ = some (.string (mk l)))
    (first | exact ⟨k0, k1⟩ | exact ⟨m0, m1⟩ | exact ⟨alloc_cell _ k0, alloc_cell _ k1⟩ | exact ⟨alloc_cell _ m0, alloc_cell _ m1⟩ | exact ⟨n0, n1⟩ | fail)
    (first
      | (go_at_call 57; (with_reducible refine (onFile_c none (mk l) (.func 67) #[.pointer (some ⟨B, 0, none⟩), .pointer (some ⟨B + 1, 0, none⟩)] w2.drew).mono ?_); rintro e w5 ⟨rfl, rfl⟩;
          have m0 := ((BX.out w2.drew).cell (p := ⟨B, 0, none⟩) s0).trans k0;
          have m1 := ((BX.out w2.drew).cell (p := ⟨B + 1, 0, none⟩) s1).trans k1)
      | (go_at_call 57; (with_reducible refine (onFile_c none (mk l) (.func 67) #[.pointer (some ⟨B, 0, none⟩), .pointer (some ⟨B + 1, 0, none⟩)] (w2.alloc (.cells #[.string (mk l)] 9)).drew).mono ?_); rintro e w5 ⟨rfl, rfl⟩;
          have m0 := ((BX.out (w2.alloc (.cells #[.string (mk l)] 9)).drew).cell (p := ⟨B, 0, none⟩) (lt_alloc _ s0)).trans (alloc_cell _ k0);
          have m1 := ((BX.out (w2.alloc (.cells #[.string (mk l)] 9)).drew).cell (p := ⟨B + 1, 0, none⟩) (lt_alloc _ s1)).trans (alloc_cell _ k1))
      | (go_at_call 42; (first | (with_reducible refine hdA.mono ?_) | (with_reducible refine hdB.mono ?_)); rintro e w6 ⟨⟨rfl, hT⟩, hcc⟩;
          have n0 := (hcc ⟨B, 0, none⟩ (Nat.le_refl _) s0).trans k0; have n1 := (hcc ⟨B + 1, 0, none⟩ hS s1).trans k1))
  all_goals
    go_wp2
    go_ret
    exact ⟨rfl, hT⟩

set_option maxRecDepth 100000 in
set_option maxHeartbeats 4000000 in
theorem Rename_nil (l m : List UInt8) (w : World) :
    Calls Tryz.prog 36 #[.pointer none, .string (mk l), .string (mk m)] w fun e w' => e = .returned (.int .i64 8) ∧ Below w.heap.size w w' := by
  obtain ⟨w2, hw2⟩ : ∃ W, ((w.alloc (.cells #[.pointer none] 23)).alloc (.cells #[.string (mk l)] 9)).alloc (.cells #[.string (mk m)] 9) = W := ⟨_, rfl⟩
  have hbx := boxed3_cells w (.pointer none) 23 (.string (mk l)) 9 (.string (mk m)) 9
  rw [show boxed3 w (.pointer none) 23 (.string (mk l)) 9 (.string (mk m)) 9 = w2 from hw2] at hbx
  obtain ⟨e2, hB2, k0, k1, k2⟩ := hbx
  have s0 : w.heap.size < w2.heap.size := by omega
  have s1 : w.heap.size + 1 < w2.heap.size := by omega
  have s2 : w.heap.size + 1 + 1 < w2.heap.size := by omega
  have hd := nilOrders (w2 := w2) (l := l) (G := 59) (cs := #[.pointer (some ⟨w.heap.size, 0, none⟩), .pointer (some ⟨w.heap.size + 1, 0, none⟩), .pointer (some ⟨w.heap.size + 1 + 1, 0, none⟩)]) (C := #[.string (mk l), .string (mk m)]) (n := 2) hB2
  obtain ⟨hdA, hdB⟩ := hd
  have HW2 := Lib.hid hw2
  clear hw2 hB2
  have hS : w.heap.size ≤ w.heap.size + 1 := Nat.le_succ _
  have hS2 : w.heap.size ≤ w.heap.size + 1 + 1 := Nat.le_succ_of_le (Nat.le_succ _)
  clear e2
  generalize hB : w.heap.size = B at *
  have bx := fun W : World => (boxed3_cells W (.pointer none) 23 (.string (mk l)) 9 (.func (.func 59) #[] #[.pointer (some ⟨B, 0, none⟩), .pointer (some ⟨B + 1, 0, none⟩), .pointer (some ⟨B + 1 + 1, 0, none⟩)]) 93).2.1
  have BX := Lib.hid bx
  have HBB := Lib.hid hB
  clear bx
  go_enter Tryz.func36, Tryz.ntmps36
  go_wp2_with fail
  clear hB
  rw [HW2.out]
  go_region_held3 (fun w' => w'.cell? ⟨B, 0, none⟩ = some (.pointer none) ∧ w'.cell? ⟨B + 1, 0, none⟩ = some (.string (mk l)) ∧ w'.cell? ⟨B + 1 + 1, 0, none⟩ = some (.string (mk m)))
    (first | exact ⟨k0, k1, k2⟩ | exact ⟨m0, m1, m2⟩ | exact ⟨alloc_cell _ k0, alloc_cell _ k1, alloc_cell _ k2⟩ | exact ⟨alloc_cell _ m0, alloc_cell _ m1, alloc_cell _ m2⟩ | exact ⟨n0, n1, n2⟩ | fail)
    (first
      | (go_at_call 57; (with_reducible refine (onFile_c none (mk l) (.func 59) #[.pointer (some ⟨B, 0, none⟩), .pointer (some ⟨B + 1, 0, none⟩), .pointer (some ⟨B + 1 + 1, 0, none⟩)] w2.drew).mono ?_); rintro e w5 ⟨rfl, rfl⟩;
          have m0 := ((BX.out w2.drew).cell (p := ⟨B, 0, none⟩) s0).trans k0;
          have m1 := ((BX.out w2.drew).cell (p := ⟨B + 1, 0, none⟩) s1).trans k1;
          have m2 := ((BX.out w2.drew).cell (p := ⟨B + 1 + 1, 0, none⟩) s2).trans k2)
      | (go_at_call 57; (with_reducible refine (onFile_c none (mk l) (.func 59) #[.pointer (some ⟨B, 0, none⟩), .pointer (some ⟨B + 1, 0, none⟩), .pointer (some ⟨B + 1 + 1, 0, none⟩)] (w2.alloc (.cells #[.string (mk l), .string (mk m)] 9)).drew).mono ?_); rintro e w5 ⟨rfl, rfl⟩;
          have m0 := ((BX.out (w2.alloc (.cells #[.string (mk l), .string (mk m)] 9)).drew).cell (p := ⟨B, 0, none⟩) (lt_alloc _ s0)).trans (alloc_cell _ k0);
          have m1 := ((BX.out (w2.alloc (.cells #[.string (mk l), .string (mk m)] 9)).drew).cell (p := ⟨B + 1, 0, none⟩) (lt_alloc _ s1)).trans (alloc_cell _ k1);
          have m2 := ((BX.out (w2.alloc (.cells #[.string (mk l), .string (mk m)] 9)).drew).cell (p := ⟨B + 1 + 1, 0, none⟩) (lt_alloc _ s2)).trans (alloc_cell _ k2))
      | (go_at_call 42; (first | (with_reducible refine hdA.mono ?_) | (with_reducible refine hdB.mono ?_)); rintro e w6 ⟨⟨rfl, hT⟩, hcc⟩;
          have n0 := (hcc ⟨B, 0, none⟩ (Nat.le_refl _) s0).trans k0; have n1 := (hcc ⟨B + 1, 0, none⟩ hS s1).trans k1; have n2 := (hcc ⟨B + 1 + 1, 0, none⟩ hS2 s2).trans k2))
  all_goals
    go_wp2
    go_ret
    exact ⟨rfl, hT⟩

set_option maxRecDepth 100000 in
set_option maxHeartbeats 4000000 in
theorem Cut_nil (l : List UInt8) (z : Int) (w : World) :
    Calls Tryz.prog 51 #[.pointer none, .string (mk l), .int .i64 z] w fun e w' => e = .returned (.int .i64 8) ∧ Below w.heap.size w w' := by
  obtain ⟨w2, hw2⟩ : ∃ W, (w.alloc (.cells #[.pointer none] 23)).alloc (.cells #[.int .i64 z] 3) = W := ⟨_, rfl⟩
  have k0 : w2.cell? ⟨w.heap.size, 0, none⟩ = some (.pointer none) := by subst hw2; exact alloc_cell _ (cell_at_new _ _ _ _ _ rfl)
  have k1 : w2.cell? ⟨w.heap.size + 1, 0, none⟩ = some (.int .i64 z) := by
    subst hw2
    have := cell_at_new (w.alloc (.cells #[.pointer none] 23)) #[.int .i64 z] 3 0 _ rfl
    rw [World.size_alloc] at this
    exact this
  have e2 : w2.heap.size = w.heap.size + 1 + 1 := by subst hw2; simp
  have hB2 : Below w.heap.size w w2 := by subst hw2; exact (below_alloc w _).alloc (by simp) _
  have s0 : w.heap.size < w2.heap.size := by omega
  have s1 : w.heap.size + 1 < w2.heap.size := by omega
  have hd := nilOrders (w2 := w2) (l := l) (G := 71) (cs := #[.pointer (some ⟨w.heap.size + 1, 0, none⟩), .pointer (some ⟨w.heap.size, 0, none⟩)]) (C := #[.string (mk l)]) (n := 1) hB2
  obtain ⟨hdA, hdB⟩ := hd
  have HW2 := Lib.hid hw2
  clear hw2 hB2 k1
  clear e2
  generalize hB : w.heap.size = B at *
  have bx := fun W : World => (boxed3_cells W (.pointer none) 23 (.string (mk l)) 9 (.func (.func 71) #[] #[.pointer (some ⟨B + 1, 0, none⟩), .pointer (some ⟨B, 0, none⟩)]) 93).2.1
  have BX := Lib.hid bx
  have HBB := Lib.hid hB
  clear bx
  go_enter Tryz.func51, Tryz.ntmps51
  go_wp2_with fail
  clear hB
  rw [HW2.out]
  go_region_held3 (fun w' => w'.cell? ⟨B, 0, none⟩ = some (.pointer none))
    (first | exact k0 | exact m0 | exact alloc_cell _ k0 | exact alloc_cell _ m0 | exact n0 | fail)
    (first
      | (go_at_call 57; (with_reducible refine (onFile_c none (mk l) (.func 71) #[.pointer (some ⟨B + 1, 0, none⟩), .pointer (some ⟨B, 0, none⟩)] w2.drew).mono ?_); rintro e w5 ⟨rfl, rfl⟩;
          have m0 := ((BX.out w2.drew).cell (p := ⟨B, 0, none⟩) s0).trans k0)
      | (go_at_call 57; (with_reducible refine (onFile_c none (mk l) (.func 71) #[.pointer (some ⟨B + 1, 0, none⟩), .pointer (some ⟨B, 0, none⟩)] (w2.alloc (.cells #[.string (mk l)] 9)).drew).mono ?_); rintro e w5 ⟨rfl, rfl⟩;
          have m0 := ((BX.out (w2.alloc (.cells #[.string (mk l)] 9)).drew).cell (p := ⟨B, 0, none⟩) (lt_alloc _ s0)).trans (alloc_cell _ k0))
      | (go_at_call 42; (first | (with_reducible refine hdA.mono ?_) | (with_reducible refine hdB.mono ?_)); rintro e w6 ⟨⟨rfl, hT⟩, hcc⟩;
          have n0 := (hcc ⟨B, 0, none⟩ (Nat.le_refl _) s0).trans k0))
  all_goals
    go_wp2
    go_ret
    exact ⟨rfl, hT⟩

set_option maxHeartbeats 2000000 in
set_option maxRecDepth 100000 in
theorem Write_nil (l : List UInt8) (a : Option Addr) (n c : Nat) (w : World) : Calls Tryz.prog 18 #[.pointer none, .string (mk l), .slice a n c] w fun e w' => e = .returned (.int .i64 8) ∧ Below w.heap.size w w' := by
  have hB4 : Below w.heap.size w ((((w.alloc (.cells #[.pointer none] 23)).alloc (.cells #[.string (mk l)] 9)).alloc (.cells #[.slice a n c] 31)).alloc (.cells #[.string (mk l)] 9)) :=
    (((below_alloc w _).alloc (by simp) _).alloc (by simp; omega) _).alloc (by simp; omega) _
  have HB := Lib.hid hB4
  clear hB4
  go_enter Tryz.func18, Tryz.ntmps18
  go_wp2_with fail
  refine (deed_nil _ _ _ _ _ _).mono ?_
  rintro e w5 ⟨rfl, hb⟩
  go_wp2
  go_ret
  exact ⟨rfl, HB.out.trans (hb.mono HB.out.size)⟩

set_option maxHeartbeats 2000000 in
set_option maxRecDepth 100000 in
theorem Append_nil (l : List UInt8) (a : Option Addr) (n c : Nat) (w : World) : Calls Tryz.prog 28 #[.pointer none, .string (mk l), .slice a n c] w fun e w' => e = .returned (.int .i64 8) ∧ Below w.heap.size w w' := by
  have hB4 : Below w.heap.size w ((((w.alloc (.cells #[.pointer none] 23)).alloc (.cells #[.string (mk l)] 9)).alloc (.cells #[.slice a n c] 31)).alloc (.cells #[.string (mk l)] 9)) :=
    (((below_alloc w _).alloc (by simp) _).alloc (by simp; omega) _).alloc (by simp; omega) _
  have HB := Lib.hid hB4
  clear hB4
  go_enter Tryz.func28, Tryz.ntmps28
  go_wp2_with fail
  refine (deed_nil _ _ _ _ _ _).mono ?_
  rintro e w5 ⟨rfl, hb⟩
  go_wp2
  go_ret
  exact ⟨rfl, HB.out.trans (hb.mono HB.out.size)⟩

set_option maxHeartbeats 2000000 in
set_option maxRecDepth 100000 in
theorem Sync_nil (l : List UInt8) (w : World) : Calls Tryz.prog 30 #[.pointer none, .string (mk l)] w fun e w' => e = .returned (.int .i64 8) ∧ Below w.heap.size w w' := by
  obtain ⟨e3, hB3, _⟩ := boxed3_cells w (.pointer none) 23 (.string (mk l)) 9 (.func (.func 58) #[] #[]) 93
  have hon := onFile_c none (mk l) (.func 58) #[] w
  obtain ⟨w3, hw3⟩ : ∃ W, boxed3 w (.pointer none) 23 (.string (mk l)) 9 (.func (.func 58) #[] #[]) 93 = W := ⟨_, rfl⟩
  rw [hw3] at e3 hB3 hon
  have hB4 : Below w.heap.size w (w3.alloc (.cells #[.string (mk l)] 9)) := hB3.trans ((below_alloc w3 _).mono hB3.size)
  have HB := Lib.hid hB4
  clear hB3 hB4 e3 hw3
  go_enter Tryz.func30, Tryz.ntmps30
  go_wp2_with fail
  refine hon.mono ?_
  rintro e w4 ⟨rfl, rfl⟩
  go_wp2_with fail
  refine (deed_nil _ _ _ _ _ _).mono ?_
  rintro e w5 ⟨rfl, hb⟩
  go_wp2
  go_ret
  exact ⟨rfl, HB.out.trans (hb.mono HB.out.size)⟩

set_option maxHeartbeats 2000000 in
theorem SyncDir_nil (w : World) : Calls Tryz.prog 19 #[.pointer none] w fun e w' => e = .returned (.int .i64 8) ∧ Below w.heap.size w w' := by
  have hB := below_alloc w (.cells #[.pointer none] 23)
  have HB := Lib.hid hB
  clear hB
  go_enter Tryz.func19, Tryz.ntmps19
  go_wp2_with fail
  refine (deed_nil _ _ _ _ _ _).mono ?_
  rintro e w5 ⟨rfl, hb⟩
  go_wp2
  go_ret
  exact ⟨rfl, HB.out.trans (hb.mono HB.out.size)⟩
end Go.Proofs.YtfmelhcpccghdaaGreat
