/-
  Remove, Rename, Cut, SyncDir AS DEEDS.
-/
import Derived.Test.YtfmelhcpccghdaaGreatDoMore
namespace Go.Proofs.YtfmelhcpccghdaaGreat
open Go.RowKit Go.Maps

variable {X : Nat → Prop} {K : Nat} {w : World} {p : Nat} {q : Pl} {d : Ds}

set_option maxHeartbeats 2000000 in
theorem SyncDir_c (h : DkAt X K w p q d) (hK : K < 1000) :
    Calls Tryz.prog 19 #[.pointer (some ⟨p, 0, none⟩)] w (Told X (K + 1) w p (DeedQ d [] (fun n d' => n = 0 ∧ d' = settled (spent d) (spent d).changes.length))) := by
  have hB := below_alloc w (.cells #[.pointer (some ⟨p, 0, none⟩)] 23)
  have hd := deed_at (F := 45) (cs := #[.pointer (some ⟨w.heap.size, 0, none⟩)]) (K2 := K + 1) (nv := .slice none 0 0) (ns := []) (Q := fun n d' => n = 0 ∧ d' = settled (spent d) (spent d).changes.length) (h.since hB) hK (Nat.le_refl _) (.inl ⟨rfl, rfl⟩) (by simp) (by simp) (cf42 _)
    (fun w1 hs1 hd1 => doSyncDir_c hd1 (by omega) ((hs1.cell (p := ⟨w.heap.size, 0, none⟩) (by simp) (.inr ⟨Nat.le_refl _, by simp⟩)).trans (cell_at_new _ _ _ _ _ rfl)))
  have HB := Lib.hid hB
  clear h hB
  go_enter Tryz.func19, Tryz.ntmps19
  go_wp2_with fail
  refine hd.mono ?_
  rintro e w5 ⟨n, d', rfl, hT⟩
  go_wp2
  go_ret
  exact Told.weak ⟨n, d', rfl, hT⟩ (fun k hk => .inl hk) (Same.of_below HB.out)

theorem names_row (w : World) (X : Nat → Prop) {C : Array Value} {ns : List (List UInt8)} (hC : ∀ (j : Nat) (l : List UInt8), ns[j]? = some l → C[j]? = some (Value.string (mk l))) (hX : X w.heap.size) : NRow X (w.alloc (.cells C 9)) (.slice (some ⟨w.heap.size, 0, none⟩) ns.length ns.length) ns :=
  .inr ⟨w.heap.size, ns.length, rfl, hX, by simp, fun j x hj => cell_at_new _ _ _ _ _ (hC j x hj)⟩

theorem deedOn_weak {W w2 : World} {A G : Nat} {cs : Array Value} {Q : Nat → Int → Ds → Prop} {K2 : Nat} {nv : Value} {ns : List (List UInt8)} (h : DkAt X K w p q d) (hK : K < 1000) (hK2 : K + 1 ≤ K2) (_hw2 : w.heap.size ≤ w2.heap.size) (hB : Below w.heap.size w W) (hB2 : Below w2.heap.size w2 W) {l : List UInt8} (hl : l.length ≤ 1000000)
    (hA : w.heap.size ≤ A) (hA2 : A + 1 + 1 < W.heap.size)
    (b3 : W.cell? ⟨A, 0, none⟩ = some (.pointer (some ⟨p, 0, none⟩))) (b4 : W.cell? ⟨A + 1, 0, none⟩ = some (.string (mk l))) (b5 : W.cell? ⟨A + 1 + 1, 0, none⟩ = some (.func (.func G) #[] cs))
    (hcf : ∀ cs W, Sem.run Tryz.prog (callFunc G cs) W = .ok (.enter G cs) W)
    (hn : NRow (Since X w W) W nv ns) (hns : ∀ x ∈ ns, x.length ≤ 1000000) (hcnt : ns.length ≤ 1000)
    (hdo : ∀ i, d.now l = some i → ∀ w1 : World, Same (Since X w W) W w1 → DkAt (Since X w W) (K + 1) w1 p q (spent d) → Calls Tryz.prog G (#[.pointer (some ⟨i, 0, none⟩)] ++ cs) w1 (Told (Since X w W) K2 w1 p (Q i))) :
    Calls Tryz.prog 42 #[.pointer (some ⟨p, 0, none⟩), .func (.func 77) #[] #[.pointer (some ⟨A, 0, none⟩), .pointer (some ⟨A + 1, 0, none⟩), .pointer (some ⟨A + 1 + 1, 0, none⟩)], nv] W fun e w' =>
      Told X K2 w p (DeedQ d ns (OnQ (spent d) l Q)) e w' ∧ ∀ a : Addr, w.heap.size ≤ a.block → a.block < w2.heap.size → w'.cell? a = w2.cell? a := by
  refine (deedOn_c h hK hK2 hB hl hA hA2 b3 b4 b5 hcf hn hns hcnt hdo).mono ?_
  intro e w' hT
  refine ⟨hT.weak (fun k hk => .inl hk) (Same.of_below hB), fun a h1 h2 => ?_⟩
  obtain ⟨n, d', _, hs, _⟩ := hT
  have h3 : a.block < W.heap.size := Nat.lt_of_lt_of_le h2 hB2.size
  exact (hs.cell h3 (.inr ⟨h1, h3⟩)).trans (hB2.cell h2)

/-- in whichever order the names' row and the closure are made -/
theorem deedOrders {w2 : World} {G : Nat} {cs : Array Value} {Q : Nat → Int → Ds → Prop} {K2 : Nat} {C : Array Value} {ns : List (List UInt8)} (h : DkAt X K w p q d) (hK : K < 1000) (hK2 : K + 1 ≤ K2) (hB : Below w.heap.size w w2) {l : List UInt8} (hl : l.length ≤ 1000000)
    (hcf : ∀ cs W, Sem.run Tryz.prog (callFunc G cs) W = .ok (.enter G cs) W) (hC : ∀ (j : Nat) (l : List UInt8), ns[j]? = some l → C[j]? = some (Value.string (mk l))) (hns : ∀ x ∈ ns, x.length ≤ 1000000) (hcnt : ns.length ≤ 1000)
    (hdo : ∀ W, Below w2.heap.size w2 W → ∀ i, d.now l = some i → ∀ w1 : World, Same (Since X w W) W w1 → DkAt (Since X w W) (K + 1) w1 p q (spent d) → Calls Tryz.prog G (#[.pointer (some ⟨i, 0, none⟩)] ++ cs) w1 (Told (Since X w W) K2 w1 p (Q i))) :
    (Calls Tryz.prog 42 #[.pointer (some ⟨p, 0, none⟩), .func (.func 77) #[] #[.pointer (some ⟨w2.heap.size, 0, none⟩), .pointer (some ⟨w2.heap.size + 1, 0, none⟩), .pointer (some ⟨w2.heap.size + 1 + 1, 0, none⟩)],
        .slice (some ⟨(boxed3 w2.drew (.pointer (some ⟨p, 0, none⟩)) 23 (.string (mk l)) 9 (.func (.func G) #[] cs) 93).heap.size, 0, none⟩) ns.length ns.length]
      ((boxed3 w2.drew (.pointer (some ⟨p, 0, none⟩)) 23 (.string (mk l)) 9 (.func (.func G) #[] cs) 93).alloc (.cells C 9)) fun e w' =>
        Told X K2 w p (DeedQ d ns (OnQ (spent d) l Q)) e w' ∧ ∀ a : Addr, w.heap.size ≤ a.block → a.block < w2.heap.size → w'.cell? a = w2.cell? a) ∧
    (Calls Tryz.prog 42 #[.pointer (some ⟨p, 0, none⟩), .func (.func 77) #[] #[.pointer (some ⟨w2.heap.size + 1, 0, none⟩), .pointer (some ⟨w2.heap.size + 1 + 1, 0, none⟩), .pointer (some ⟨w2.heap.size + 1 + 1 + 1, 0, none⟩)],
        .slice (some ⟨w2.heap.size, 0, none⟩) ns.length ns.length]
      (boxed3 (w2.alloc (.cells C 9)).drew (.pointer (some ⟨p, 0, none⟩)) 23 (.string (mk l)) 9 (.func (.func G) #[] cs) 93) fun e w' =>
        Told X K2 w p (DeedQ d ns (OnQ (spent d) l Q)) e w' ∧ ∀ a : Addr, w.heap.size ≤ a.block → a.block < w2.heap.size → w'.cell? a = w2.cell? a) := by
  have hw2 := hB.size
  constructor
  · obtain ⟨e3, hB3, k3, k4, k5⟩ := boxed3_cells w2.drew (.pointer (some ⟨p, 0, none⟩)) 23 (.string (mk l)) 9 (.func (.func G) #[] cs) 93
    generalize boxed3 w2.drew (.pointer (some ⟨p, 0, none⟩)) 23 (.string (mk l)) 9 (.func (.func G) #[] cs) 93 = w3 at *
    have e3' : w3.heap.size = w2.heap.size + 1 + 1 + 1 := e3
    have hB3' : Below w2.heap.size w2 w3 := ⟨hB3.os, hB3.tape, hB3.output, hB3.size, hB3.block⟩
    have hB4 : Below w2.heap.size w2 (w3.alloc (.cells C 9)) := hB3'.trans ((below_alloc w3 _).mono hB3'.size)
    have hW : Below w.heap.size w (w3.alloc (.cells C 9)) := hB.trans (hB4.mono hw2)
    exact deedOn_weak h hK hK2 hw2 hW hB4 hl hw2 (by simp; omega) (alloc_cell _ k3) (alloc_cell _ k4) (alloc_cell _ k5) hcf (names_row w3 _ hC (.inr ⟨by omega, by simp⟩)) hns hcnt (hdo _ hB4)
  · obtain ⟨e3, hB3, k3, k4, k5⟩ := boxed3_cells (w2.alloc (.cells C 9)).drew (.pointer (some ⟨p, 0, none⟩)) 23 (.string (mk l)) 9 (.func (.func G) #[] cs) 93
    have hn0 : ∀ Y : Nat → Prop, Y w2.heap.size → NRow Y (w2.alloc (.cells C 9)) (.slice (some ⟨w2.heap.size, 0, none⟩) ns.length ns.length) ns := fun Y hY => names_row w2 Y hC hY
    generalize boxed3 (w2.alloc (.cells C 9)).drew (.pointer (some ⟨p, 0, none⟩)) 23 (.string (mk l)) 9 (.func (.func G) #[] cs) 93 = w3 at *
    have ez : (w2.alloc (.cells C 9)).heap.size = w2.heap.size + 1 := by simp
    have ed : (w2.alloc (.cells C 9)).drew.heap.size = w2.heap.size + 1 := ez
    rw [ed] at e3 k3 k4 k5
    have hB3' : Below (w2.alloc (.cells C 9)).heap.size (w2.alloc (.cells C 9)) w3 := ⟨hB3.os, hB3.tape, hB3.output, hB3.size, hB3.block⟩
    have hB4 : Below w2.heap.size w2 w3 := (below_alloc w2 _).trans (hB3'.mono (by omega))
    have hW : Below w.heap.size w w3 := hB.trans (hB4.mono hw2)
    refine deedOn_weak h hK hK2 hw2 hW hB4 hl (by omega) (by omega) k3 k4 k5 hcf ?_ hns hcnt (hdo _ hB4)
    refine (hn0 (Since X w w3) (.inr ⟨by omega, by omega⟩)).same ⟨hB3'.os, hB3'.tape, hB3'.output, hB3'.size, fun k hk _ => hB3'.block k hk⟩

set_option maxHeartbeats 2000000 in
set_option maxRecDepth 100000 in
theorem Remove_c (h : DkAt X K w p q d) (hK : K + 2 ≤ 1000) {l : List UInt8} (hl : l.length ≤ 1000000) :
    Calls Tryz.prog 48 #[.pointer (some ⟨p, 0, none⟩), .string (mk l)] w (Told X (K + 2) w p (DeedQ d [l] (OnQ (spent d) l (fun _ n d' => n = 0 ∧ d' = changed (spent d) ⟨l, [], none⟩)))) := by
  obtain ⟨w2, hw2⟩ : ∃ W, (w.alloc (.cells #[.pointer (some ⟨p, 0, none⟩)] 23)).alloc (.cells #[.string (mk l)] 9) = W := ⟨_, rfl⟩
  have k0 : w2.cell? ⟨w.heap.size, 0, none⟩ = some (.pointer (some ⟨p, 0, none⟩)) := by subst hw2; exact alloc_cell _ (cell_at_new _ _ _ _ _ rfl)
  have k1 : w2.cell? ⟨w.heap.size + 1, 0, none⟩ = some (.string (mk l)) := by
    subst hw2
    have := cell_at_new (w.alloc (.cells #[.pointer (some ⟨p, 0, none⟩)] 23)) #[.string (mk l)] 9 0 _ rfl
    rw [World.size_alloc] at this
    exact this
  have e2 : w2.heap.size = w.heap.size + 1 + 1 := by subst hw2; simp
  have hB2 : Below w.heap.size w w2 := by subst hw2; exact (below_alloc w _).alloc (by simp) _
  have s0 : w.heap.size < w2.heap.size := by omega
  have s1 : w.heap.size + 1 < w2.heap.size := by omega
  have hd := deedOrders (w2 := w2) (G := 67) (cs := #[.pointer (some ⟨w.heap.size, 0, none⟩), .pointer (some ⟨w.heap.size + 1, 0, none⟩)]) (Q := fun _ n d' => n = 0 ∧ d' = changed (spent d) ⟨l, [], none⟩) (K2 := K + 2) (C := #[.string (mk l)]) (ns := [l]) h (by omega) (by omega) hB2 hl cf51
    (fun j x hj => by match j, hj with | 0, hj => simp at hj; subst hj; rfl) (by intro x hx; simp at hx; subst hx; exact hl) (by simp)
    (fun W hW i hi w1 hs1 hd1 => doRemove_c hd1 (by omega) hl i
      ((hs1.cell (p := ⟨w.heap.size, 0, none⟩) (Nat.lt_of_lt_of_le s0 hW.size) (.inr ⟨Nat.le_refl _, Nat.lt_of_lt_of_le s0 hW.size⟩)).trans ((hW.cell (p := ⟨w.heap.size, 0, none⟩) s0).trans k0))
      ((hs1.cell (p := ⟨w.heap.size + 1, 0, none⟩) (Nat.lt_of_lt_of_le s1 hW.size) (.inr ⟨Nat.le_succ _, Nat.lt_of_lt_of_le s1 hW.size⟩)).trans ((hW.cell (p := ⟨w.heap.size + 1, 0, none⟩) s1).trans k1)))
  obtain ⟨hdA, hdB⟩ := hd
  simp only [List.length_cons, List.length_nil, Nat.zero_add] at hdA hdB
  have HW2 := Lib.hid hw2
  clear h hw2 hB2
  have hS : w.heap.size ≤ w.heap.size + 1 := Nat.le_succ _
  clear e2
  generalize hB : w.heap.size = B at *
  have bx := fun W : World => (boxed3_cells W (.pointer (some ⟨p, 0, none⟩)) 23 (.string (mk l)) 9 (.func (.func 67) #[] #[.pointer (some ⟨B, 0, none⟩), .pointer (some ⟨B + 1, 0, none⟩)]) 93).2.1
  have BX := Lib.hid bx
  have HBB := Lib.hid hB
  clear bx
  go_enter Tryz.func48, Tryz.ntmps48
  go_wp2_with fail
  clear hB
  rw [HW2.out]
  go_region_held3 (fun w' => w'.cell? ⟨B, 0, none⟩ = some (.pointer (some ⟨p, 0, none⟩)) ∧ w'.cell? ⟨B + 1, 0, none⟩ = some (.string (mk l)))
    (first | exact ⟨k0, k1⟩ | exact ⟨m0, m1⟩ | exact ⟨alloc_cell _ k0, alloc_cell _ k1⟩ | exact ⟨alloc_cell _ m0, alloc_cell _ m1⟩ | exact ⟨n0, n1⟩ | fail)
    (first
      | (go_at_call 57; (with_reducible refine (onFile_c (some ⟨p, 0, none⟩) (mk l) (.func 67) #[.pointer (some ⟨B, 0, none⟩), .pointer (some ⟨B + 1, 0, none⟩)] w2.drew).mono ?_); rintro e w5 ⟨rfl, rfl⟩;
          have m0 := ((BX.out w2.drew).cell (p := ⟨B, 0, none⟩) s0).trans k0;
          have m1 := ((BX.out w2.drew).cell (p := ⟨B + 1, 0, none⟩) s1).trans k1)
      | (go_at_call 57; (with_reducible refine (onFile_c (some ⟨p, 0, none⟩) (mk l) (.func 67) #[.pointer (some ⟨B, 0, none⟩), .pointer (some ⟨B + 1, 0, none⟩)] (w2.alloc (.cells #[.string (mk l)] 9)).drew).mono ?_); rintro e w5 ⟨rfl, rfl⟩;
          have m0 := ((BX.out (w2.alloc (.cells #[.string (mk l)] 9)).drew).cell (p := ⟨B, 0, none⟩) (lt_alloc _ s0)).trans (alloc_cell _ k0);
          have m1 := ((BX.out (w2.alloc (.cells #[.string (mk l)] 9)).drew).cell (p := ⟨B + 1, 0, none⟩) (lt_alloc _ s1)).trans (alloc_cell _ k1))
      | (go_at_call 42; (first | (with_reducible refine hdA.mono ?_) | (with_reducible refine hdB.mono ?_)); rintro e w6 ⟨⟨n, d', rfl, hT⟩, hcc⟩;
          have n0 := (hcc ⟨B, 0, none⟩ (Nat.le_refl _) s0).trans k0; have n1 := (hcc ⟨B + 1, 0, none⟩ hS s1).trans k1))
  all_goals
    go_wp2
    go_ret
    exact ⟨n, d', rfl, hT⟩

set_option maxRecDepth 100000 in
set_option maxHeartbeats 4000000 in
theorem Rename_c (h : DkAt X K w p q d) (hK : K + 2 ≤ 1000) {l m : List UInt8} (hl : l.length ≤ 1000000) (hm : m.length ≤ 1000000) :
    Calls Tryz.prog 36 #[.pointer (some ⟨p, 0, none⟩), .string (mk l), .string (mk m)] w (Told X (K + 2) w p (DeedQ d [l, m] (OnQ (spent d) l (fun i n d' => n = 0 ∧ d' = changed (spent d) ⟨l, m, some i⟩)))) := by
  obtain ⟨w2, hw2⟩ : ∃ W, ((w.alloc (.cells #[.pointer (some ⟨p, 0, none⟩)] 23)).alloc (.cells #[.string (mk l)] 9)).alloc (.cells #[.string (mk m)] 9) = W := ⟨_, rfl⟩
  have hbx := boxed3_cells w (.pointer (some ⟨p, 0, none⟩)) 23 (.string (mk l)) 9 (.string (mk m)) 9
  rw [show boxed3 w (.pointer (some ⟨p, 0, none⟩)) 23 (.string (mk l)) 9 (.string (mk m)) 9 = w2 from hw2] at hbx
  obtain ⟨e2, hB2, k0, k1, k2⟩ := hbx
  have s0 : w.heap.size < w2.heap.size := by omega
  have s1 : w.heap.size + 1 < w2.heap.size := by omega
  have s2 : w.heap.size + 1 + 1 < w2.heap.size := by omega
  have hd := deedOrders (w2 := w2) (G := 59) (cs := #[.pointer (some ⟨w.heap.size, 0, none⟩), .pointer (some ⟨w.heap.size + 1, 0, none⟩), .pointer (some ⟨w.heap.size + 1 + 1, 0, none⟩)]) (Q := fun i n d' => n = 0 ∧ d' = changed (spent d) ⟨l, m, some i⟩) (K2 := K + 2) (C := #[.string (mk l), .string (mk m)]) (ns := [l, m]) h (by omega) (by omega) hB2 hl cf46
    (fun j x hj => by match j, hj with | 0, hj => simp at hj; subst hj; rfl | 1, hj => simp at hj; subst hj; rfl) (by intro x hx; simp at hx; rcases hx with rfl | rfl <;> assumption) (by simp)
    (fun W hW i hi w1 hs1 hd1 => doRename_c hd1 (by omega) hl hm (ref_now (d := spent d) hi)
      ((hs1.cell (p := ⟨w.heap.size, 0, none⟩) (Nat.lt_of_lt_of_le s0 hW.size) (.inr ⟨Nat.le_refl _, Nat.lt_of_lt_of_le s0 hW.size⟩)).trans ((hW.cell (p := ⟨w.heap.size, 0, none⟩) s0).trans k0))
      ((hs1.cell (p := ⟨w.heap.size + 1, 0, none⟩) (Nat.lt_of_lt_of_le s1 hW.size) (.inr ⟨Nat.le_succ _, Nat.lt_of_lt_of_le s1 hW.size⟩)).trans ((hW.cell (p := ⟨w.heap.size + 1, 0, none⟩) s1).trans k1))
      ((hs1.cell (p := ⟨w.heap.size + 1 + 1, 0, none⟩) (Nat.lt_of_lt_of_le s2 hW.size) (.inr ⟨Nat.le_succ_of_le (Nat.le_succ _), Nat.lt_of_lt_of_le s2 hW.size⟩)).trans ((hW.cell (p := ⟨w.heap.size + 1 + 1, 0, none⟩) s2).trans k2)))
  obtain ⟨hdA, hdB⟩ := hd
  simp only [List.length_cons, List.length_nil, Nat.zero_add, Nat.reduceAdd] at hdA hdB
  have HW2 := Lib.hid hw2
  clear h hw2 hB2
  have hS : w.heap.size ≤ w.heap.size + 1 := Nat.le_succ _
  have hS2 : w.heap.size ≤ w.heap.size + 1 + 1 := Nat.le_succ_of_le (Nat.le_succ _)
  clear e2
  generalize hB : w.heap.size = B at *
  have bx := fun W : World => (boxed3_cells W (.pointer (some ⟨p, 0, none⟩)) 23 (.string (mk l)) 9 (.func (.func 59) #[] #[.pointer (some ⟨B, 0, none⟩), .pointer (some ⟨B + 1, 0, none⟩), .pointer (some ⟨B + 1 + 1, 0, none⟩)]) 93).2.1
  have BX := Lib.hid bx
  have HBB := Lib.hid hB
  clear bx
  go_enter Tryz.func36, Tryz.ntmps36
  go_wp2_with fail
  clear hB
  rw [HW2.out]
  go_region_held3 (fun w' => w'.cell? ⟨B, 0, none⟩ = some (.pointer (some ⟨p, 0, none⟩)) ∧ w'.cell? ⟨B + 1, 0, none⟩ = some (.string (mk l)) ∧ w'.cell? ⟨B + 1 + 1, 0, none⟩ = some (.string (mk m)))
    (first | exact ⟨k0, k1, k2⟩ | exact ⟨m0, m1, m2⟩ | exact ⟨alloc_cell _ k0, alloc_cell _ k1, alloc_cell _ k2⟩ | exact ⟨alloc_cell _ m0, alloc_cell _ m1, alloc_cell _ m2⟩ | exact ⟨n0, n1, n2⟩ | fail)
    (first
      | (go_at_call 57; (with_reducible refine (onFile_c (some ⟨p, 0, none⟩) (mk l) (.func 59) #[.pointer (some ⟨B, 0, none⟩), .pointer (some ⟨B + 1, 0, none⟩), .pointer (some ⟨B + 1 + 1, 0, none⟩)] w2.drew).mono ?_); rintro e w5 ⟨rfl, rfl⟩;
          have m0 := ((BX.out w2.drew).cell (p := ⟨B, 0, none⟩) s0).trans k0;
          have m1 := ((BX.out w2.drew).cell (p := ⟨B + 1, 0, none⟩) s1).trans k1;
          have m2 := ((BX.out w2.drew).cell (p := ⟨B + 1 + 1, 0, none⟩) s2).trans k2)
      | (go_at_call 57; (with_reducible refine (onFile_c (some ⟨p, 0, none⟩) (mk l) (.func 59) #[.pointer (some ⟨B, 0, none⟩), .pointer (some ⟨B + 1, 0, none⟩), .pointer (some ⟨B + 1 + 1, 0, none⟩)] (w2.alloc (.cells #[.string (mk l), .string (mk m)] 9)).drew).mono ?_); rintro e w5 ⟨rfl, rfl⟩;
          have m0 := ((BX.out (w2.alloc (.cells #[.string (mk l), .string (mk m)] 9)).drew).cell (p := ⟨B, 0, none⟩) (lt_alloc _ s0)).trans (alloc_cell _ k0);
          have m1 := ((BX.out (w2.alloc (.cells #[.string (mk l), .string (mk m)] 9)).drew).cell (p := ⟨B + 1, 0, none⟩) (lt_alloc _ s1)).trans (alloc_cell _ k1);
          have m2 := ((BX.out (w2.alloc (.cells #[.string (mk l), .string (mk m)] 9)).drew).cell (p := ⟨B + 1 + 1, 0, none⟩) (lt_alloc _ s2)).trans (alloc_cell _ k2))
      | (go_at_call 42; (first | (with_reducible refine hdA.mono ?_) | (with_reducible refine hdB.mono ?_)); rintro e w6 ⟨⟨n, d', rfl, hT⟩, hcc⟩;
          have n0 := (hcc ⟨B, 0, none⟩ (Nat.le_refl _) s0).trans k0; have n1 := (hcc ⟨B + 1, 0, none⟩ hS s1).trans k1; have n2 := (hcc ⟨B + 1 + 1, 0, none⟩ hS2 s2).trans k2))
  all_goals
    go_wp2
    go_ret
    exact ⟨n, d', rfl, hT⟩

set_option maxRecDepth 100000 in
set_option maxHeartbeats 4000000 in
theorem Cut_c (h : DkAt X K w p q d) (hK : K + 2 ≤ 1000) {l : List UInt8} (hl : l.length ≤ 1000000) (z : Int) :
    Calls Tryz.prog 51 #[.pointer (some ⟨p, 0, none⟩), .string (mk l), .int .i64 z] w (Told X (K + 2) w p (DeedQ d [l] (OnQ (spent d) l (fun i n d' => CutQ (spent d) i z n d')))) := by
  obtain ⟨w2, hw2⟩ : ∃ W, (w.alloc (.cells #[.pointer (some ⟨p, 0, none⟩)] 23)).alloc (.cells #[.int .i64 z] 3) = W := ⟨_, rfl⟩
  have k0 : w2.cell? ⟨w.heap.size, 0, none⟩ = some (.pointer (some ⟨p, 0, none⟩)) := by subst hw2; exact alloc_cell _ (cell_at_new _ _ _ _ _ rfl)
  have k1 : w2.cell? ⟨w.heap.size + 1, 0, none⟩ = some (.int .i64 z) := by
    subst hw2
    have := cell_at_new (w.alloc (.cells #[.pointer (some ⟨p, 0, none⟩)] 23)) #[.int .i64 z] 3 0 _ rfl
    rw [World.size_alloc] at this
    exact this
  have e2 : w2.heap.size = w.heap.size + 1 + 1 := by subst hw2; simp
  have hB2 : Below w.heap.size w w2 := by subst hw2; exact (below_alloc w _).alloc (by simp) _
  have s0 : w.heap.size < w2.heap.size := by omega
  have s1 : w.heap.size + 1 < w2.heap.size := by omega
  have hd := deedOrders (w2 := w2) (G := 71) (cs := #[.pointer (some ⟨w.heap.size + 1, 0, none⟩), .pointer (some ⟨w.heap.size, 0, none⟩)]) (Q := fun i n d' => CutQ (spent d) i z n d') (K2 := K + 2) (C := #[.string (mk l)]) (ns := [l]) h (by omega) (by omega) hB2 hl cf50
    (fun j x hj => by match j, hj with | 0, hj => simp at hj; subst hj; rfl) (by intro x hx; simp at hx; subst hx; exact hl) (by simp)
    (fun W hW i hi w1 hs1 hd1 => doCut_c hd1 (by omega) (ref_now (d := spent d) hi) z
      (.inr ⟨Nat.le_succ _, Nat.lt_of_lt_of_le s1 hW.size⟩) (.inr ⟨Nat.le_refl _, Nat.lt_of_lt_of_le s0 hW.size⟩)
      ((hs1.cell (p := ⟨w.heap.size + 1, 0, none⟩) (Nat.lt_of_lt_of_le s1 hW.size) (.inr ⟨Nat.le_succ _, Nat.lt_of_lt_of_le s1 hW.size⟩)).trans ((hW.cell (p := ⟨w.heap.size + 1, 0, none⟩) s1).trans k1))
      ((hs1.cell (p := ⟨w.heap.size, 0, none⟩) (Nat.lt_of_lt_of_le s0 hW.size) (.inr ⟨Nat.le_refl _, Nat.lt_of_lt_of_le s0 hW.size⟩)).trans ((hW.cell (p := ⟨w.heap.size, 0, none⟩) s0).trans k0)))
  obtain ⟨hdA, hdB⟩ := hd
  simp only [List.length_cons, List.length_nil, Nat.zero_add] at hdA hdB
  have HW2 := Lib.hid hw2
  clear h hw2 hB2 k1
  clear e2
  generalize hB : w.heap.size = B at *
  have bx := fun W : World => (boxed3_cells W (.pointer (some ⟨p, 0, none⟩)) 23 (.string (mk l)) 9 (.func (.func 71) #[] #[.pointer (some ⟨B + 1, 0, none⟩), .pointer (some ⟨B, 0, none⟩)]) 93).2.1
  have BX := Lib.hid bx
  have HBB := Lib.hid hB
  clear bx
  go_enter Tryz.func51, Tryz.ntmps51
  go_wp2_with fail
  clear hB
  rw [HW2.out]
  go_region_held3 (fun w' => w'.cell? ⟨B, 0, none⟩ = some (.pointer (some ⟨p, 0, none⟩)))
    (first | exact k0 | exact m0 | exact alloc_cell _ k0 | exact alloc_cell _ m0 | exact n0 | fail)
    (first
      | (go_at_call 57; (with_reducible refine (onFile_c (some ⟨p, 0, none⟩) (mk l) (.func 71) #[.pointer (some ⟨B + 1, 0, none⟩), .pointer (some ⟨B, 0, none⟩)] w2.drew).mono ?_); rintro e w5 ⟨rfl, rfl⟩;
          have m0 := ((BX.out w2.drew).cell (p := ⟨B, 0, none⟩) s0).trans k0)
      | (go_at_call 57; (with_reducible refine (onFile_c (some ⟨p, 0, none⟩) (mk l) (.func 71) #[.pointer (some ⟨B + 1, 0, none⟩), .pointer (some ⟨B, 0, none⟩)] (w2.alloc (.cells #[.string (mk l)] 9)).drew).mono ?_); rintro e w5 ⟨rfl, rfl⟩;
          have m0 := ((BX.out (w2.alloc (.cells #[.string (mk l)] 9)).drew).cell (p := ⟨B, 0, none⟩) (lt_alloc _ s0)).trans (alloc_cell _ k0))
      | (go_at_call 42; (first | (with_reducible refine hdA.mono ?_) | (with_reducible refine hdB.mono ?_)); rintro e w6 ⟨⟨n, d', rfl, hT⟩, hcc⟩;
          have n0 := (hcc ⟨B, 0, none⟩ (Nat.le_refl _) s0).trans k0))
  all_goals
    go_wp2
    go_ret
    exact ⟨n, d', rfl, hT⟩
end Go.Proofs.YtfmelhcpccghdaaGreat
