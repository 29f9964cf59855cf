/-
  attempt, whatever comes of it.
-/
import Derived.Test.YtgledabcfonbeaaGreatDoorCkCookA
namespace Go.Proofs.YtgledabcfonbeaaGreatDoor.Df
open Go.RowKit Go.Maps Go.Proofs.YtgledabcfonbeaaGreatDoor

/-- the deferred closure, where nothing panicked -/
theorem told_idle (p : Addr) (w : World) :
    CallsD Tryz.prog 29 #[.pointer (some p)] .returning w fun e u' w' => e = .returned (.tuple #[]) ∧ u' = .returning ∧ w' = w := by
  refine callsD_of_wpS Tryz.func29 rfl fun c₀ cs hu => ?_
  apply wpS_seq
  apply wpS_region
  simp [wpOpsS, go_sem, recoverD, hu, Tryz.ntmps29, Exit.thenS]
  apply wpS_seq
  apply wpS_region
  simp [wpOpsS, go_sem, hu, Exit.thenS]
  refine wpS_cond (t := false) (by simp [Act.eval, Array.replicate]) ?_
  simp only [Bool.false_eq_true, if_false]
  refine wpS_of_wp (wp_skip ?_)
  cases c₀
  simp_all [bodyPostS, results, Tryz.f29]

/-- the deferred closure, where the command failed -/
theorem told_fail (p : Addr) (w : World) (hc : w.cell? p = some (.int .i64 0)) (hz : w.frozen? p = false) :
    CallsD Tryz.prog 29 #[.pointer (some p)] (.panicking pch) w fun e u' w' => e = .returned (.tuple #[]) ∧ u' = .panicking [{ v := pz, recovered := true }] ∧ w' = w.setCell p (.int .i64 13) := by
  have hta : ∀ w : World, (Instr.typeAssert (.iface 72 (.agg #[.int .i64 13])) 20 72 false).run Tryz.prog w = .ok (.agg #[.int .i64 13]) w := fun w => by kernel_rfl
  have hfi : ∀ w : World, (Instr.field 72 (.agg #[.int .i64 13]) 0).run Tryz.prog w = .ok (.int .i64 13) w := fun w => by kernel_rfl
  unfold pch pz
  refine callsD_of_wpS Tryz.func29 rfl fun c₀ cs hu => ?_
  apply wpS_seq
  apply wpS_region
  simp [wpOpsS, go_sem, recoverD, hu, Tryz.ntmps29, Exit.thenS]
  apply wpS_seq
  apply wpS_region
  simp [wpOpsS, go_sem, hu, Exit.thenS]
  refine wpS_cond (t := true) (by simp [Act.eval, Array.replicate]) ?_
  simp only [if_true]
  apply wpS_region
  simp [wpOpsS, go_sem, hta, hfi, hc, hz, hu, bodyPostS, results, Tryz.f29]

/-- no error and what was made, or that the command failed -/
def Out {A : Type} (o : Option A) (er : Int) (R : A → Prop) (N : Prop) : Prop := match o with
  | some q => er = 0 ∧ R q
  | none => er = 13 ∧ N
set_option maxRecDepth 100000 in
set_option maxHeartbeats 4000000 in
theorem attempt_a {A : Type} {N : World → Prop} {w : World} {caps : Array Value} {p8 : Nat} {o : Option A} {R : A → World → Prop} (hp8 : p8 < w.heap.size)
    (hb : Calls Tryz.prog 21 caps (w.alloc (.cells #[.int .i64 0] 37)) fun e w' => Fa o (fun q e => e = .returned (.tuple #[]) ∧ R q w') e ∧ Md p8 (w.alloc (.cells #[.int .i64 0] 37)) w' ∧ (o = none → N w')) :
    Calls Tryz.prog 20 #[.func (.func 21) #[] caps] w fun e w' => ∃ (er : Int) (w2 : World), e = .returned (.int .i64 er) ∧ Out o er (fun q => R q w2) (N w2) ∧ Md p8 w w2 ∧ Md w.heap.size w2 w' ∧ w2.heap[w.heap.size]? = some (.cells #[.int .i64 0] 37 (0, 0)) := by
  have hmf : ∀ (fn : Fn) (first cap : Array Value) (w : World), (Instr.makeFunc fn first cap).run Tryz.prog w = .ok (.func fn first cap) w := fun _ _ _ _ => rfl
  have HP8 := Lib.hid hp8
  clear hp8
  go_enter_defers Tryz.func20, Tryz.ntmps20
  go_wp2_with fail
  refine hb.mono ?_
  rintro e w2 ⟨hq, hM, hN⟩
  have hsz := World.size_alloc w (.cells #[.int .i64 0] 37)
  have hp2 : w2.heap[w.heap.size]? = some (.cells #[.int .i64 0] 37 (0, 0)) := (hM.2.2.2.2 w.heap.size (by omega) (by have := HP8.out; omega)).trans (heap_alloc_new _ _)
  have c0 : w2.cell? ⟨w.heap.size, 0, none⟩ = some (.int .i64 0) := cell_of_heap hp2
  have z0 : w2.frozen? ⟨w.heap.size, 0, none⟩ = false := by simp [World.frozen?, hp2]
  have HM : Hid (Md p8 w w2) := Lib.hid ⟨hM.1, hM.2.1, hM.2.2.1, by have := hM.2.2.2.1; omega, fun q hq hne => (hM.2.2.2.2 q (by omega) hne).trans ((below_alloc w _).block q hq)⟩
  have HP2 := Lib.hid hp2
  clear hM hsz hp2
  cases o with
  | none =>
    obtain rfl : e = .panicked pch := hq
    refine leaves_cons (f := 29) (args := #[.pointer (some ⟨w.heap.size, 0, none⟩)]) (by simp) (by simp [go_sem]) ?_
    refine (told_fail _ _ c0 z0).mono ?_
    rintro e u' w'' ⟨rfl, rfl, rfl⟩
    have hp3 := set_block (j := 0) (u := .int .i64 13) HP2.out
    have c1 : (w2.setCell ⟨w.heap.size, 0, none⟩ (.int .i64 13)).cell? ⟨w.heap.size, 0, none⟩ = some (.int .i64 13) := cell_of_heap hp3
    have hfin : Md w.heap.size w2 (w2.setCell ⟨w.heap.size, 0, none⟩ (.int .i64 13)) := ⟨rfl, rfl, rfl, by rw [World.size_setCell]; exact Nat.le_refl _, fun q _ hne => set_other hne⟩
    simp [Leaves, settle, results, Tryz.f20, go_sem, c1]
    exact ⟨w2, ⟨rfl, hN rfl⟩, HM.out, hfin, HP2.out⟩
  | some q =>
    obtain ⟨rfl, hR⟩ := hq
    have HR := Lib.hid hR
    clear hR
    go_wp2_with fail
    refine leaves_cons (f := 29) (args := #[.pointer (some ⟨w.heap.size, 0, none⟩)]) (by simp) (by simp [go_sem]) ?_
    refine (told_idle _ _).mono ?_
    rintro e u' w'' ⟨rfl, rfl, rfl⟩
    have hp3 := set_block (j := 0) (u := .int .i64 0) HP2.out
    have c1 : (w2.setCell ⟨w.heap.size, 0, none⟩ (.int .i64 0)).cell? ⟨w.heap.size, 0, none⟩ = some (.int .i64 0) := cell_of_heap hp3
    have hfin : Md w.heap.size w2 (w2.setCell ⟨w.heap.size, 0, none⟩ (.int .i64 0)) := ⟨rfl, rfl, rfl, by rw [World.size_setCell]; exact Nat.le_refl _, fun q _ hne => set_other hne⟩
    simp [Leaves, settle, results, Tryz.f20, go_sem, c1]
    exact ⟨w2, ⟨rfl, HR.out⟩, HM.out, hfin, HP2.out⟩
end Go.Proofs.YtgledabcfonbeaaGreatDoor.Df
