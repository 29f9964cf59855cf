/-
  attempt, whatever comes of it.
-/
import Derived.Test.YtgledabcfonbeaaGreatDoorCkCookA
namespace Go.Proofs.YtgledabcfonbeaaGreatDoor.Df
open Go.RowKit Go.Maps Go.Proofs.YtgledabcfonbeaaGreatDoor

/-- the deferred closure, where nothing panicked -/
theorem told_idle (p : Addr) (w : World) :
    CallsD Tryz.prog 29 #[.pointer (some p)] .returning w fun e u' w' => e = .returned (.tuple #[]) ∧ u' = .returning ∧ w' = w := by
  refine callsD_of_wpS Tryz.func29 rfl fun c₀ cs hu => ?_
  apply wpS_seq
  apply wpS_region
  simp [wpOpsS, go_sem, recoverD, hu, Tryz.ntmps29, Exit.thenS]
  apply wpS_seq
  apply wpS_region
  simp [wpOpsS, go_sem, hu, Exit.thenS]
  refine wpS_cond (t := false) (by simp [Act.eval, Array.replicate]) ?_
  simp only [Bool.false_eq_true, if_false]
  refine wpS_of_wp (wp_skip ?_)
  cases c₀
  simp_all [bodyPostS, results, Tryz.f29]

/-- the deferred closure, where the command failed -/
theorem told_fail (p : Addr) (w : World) (hc : w.cell? p = some (.int .i64 0)) (hz : w.frozen? p = false) :
    CallsD Tryz.prog 29 #[.pointer (some p)] (.panicking pch) w fun e u' w' => e = .returned (.tuple #[]) ∧ u' = .panicking [{ v := pz, recovered := true }] ∧ w' = w.setCell p (.int .i64 13) := by
  have hta : ∀ w : World, (Instr.typeAssert (.iface 72 (.agg #[.int .i64 13])) 20 72 false).run Tryz.prog w = .ok (.agg #[.int .i64 13]) w := fun w => by kernel_rfl
  have hfi : ∀ w : World, (Instr.field 72 (.agg #[.int .i64 13]) 0).run Tryz.prog w = .ok (.int .i64 13) w := fun w => by kernel_rfl
  unfold pch pz
  refine callsD_of_wpS Tryz.func29 rfl fun c₀ cs hu => ?_
  apply wpS_seq
  apply wpS_region
  simp [wpOpsS, go_sem, recoverD, hu, Tryz.ntmps29, Exit.thenS]
  apply wpS_seq
  apply wpS_region
  simp [wpOpsS, go_sem, hu, Exit.thenS]
  refine wpS_cond (t := true) (by simp [Act.eval, Array.replicate]) ?_
  simp only [if_true]
  apply wpS_region
  simp [wpOpsS, go_sem, hta, hfi, hc, hz, hu, bodyPostS, results, Tryz.f29]

/-- no error and what was made, or that the command failed -/
def Out {A : Type} (o : Option A) (er : Int) (R : A → Prop) (N : Prop) : Prop := match o with
  | some q => er = 0 ∧ R q
  | none => er = 13 ∧ N
set_option maxRecDepth 100000 in
set_option maxHeartbeats 4000000 in
theorem attempt_a {A : Type} {N : World → Prop} {w : World} {caps : Array Value} {p8 : Nat} {o : Option A} {R : A → World → Prop} (hp8 : p8 < w.heap.size)
    (hb : Calls Tryz.prog 21 caps (w.alloc (.cells #[.int .i64 0] 37)) fun e w' => Fa o (fun q e => e = .returned (.tuple #[]) ∧ R q w') e ∧ Md p8 (w.alloc (.cells #[.int .i64 0] 37)) w' ∧ (o = none → N w')) :
    Calls Tryz.prog 20 #[.func (.func 21) #[] caps] w fun e w' => ∃ (er : Int) (w2 : World), e = .returned (.int .i64 er) ∧ Out o er (fun q => R q w2) (N w2) ∧ Md p8 w w2 ∧ Md w.heap.size w2 w' ∧ w2.heap[w.heap.size]? = some (.cells #[.int .i64 0] 37 (0, 0)) := by
  have hmf : ∀ (fn : Fn) (first cap : Array Value) (w : World), (Instr.makeFunc fn first cap).run Tryz.prog w = .ok (.func fn first cap) w := fun _ _ _ _ => rfl
  have HP8 := Lib.hid hp8
  clear hp8
  go_enter_defers Tryz.func20, Tryz.ntmps20
  go_wp2_with fail
  refine hb.mono ?_
  rintro e w2 ⟨hq, hM, hN⟩
  have hsz := World.size_alloc w (.cells #[.int .i64 0] 37)
  have hp2 : w2.heap[w.heap.size]? = some (.cells #[.int .i64 0] 37 (0, 0)) := (hM.2.2.2.2 w.heap.size (by omega) (by have := HP8.out; omega)).trans (heap_alloc_new _ _)
  have c0 : w2.cell? ⟨w.heap.size, 0, none⟩ = some (.int .i64 0) := cell_of_heap hp2
  have z0 : w2.frozen? ⟨w.heap.size, 0, none⟩ = false := by simp [World.frozen?, hp2]
  have HM : Hid (Md p8 w w2) := Lib.hid ⟨hM.1, hM.2.1, hM.2.2.1, by have := hM.2.2.2.1; omega, fun q hq hne => (hM.2.2.2.2 q (by omega) hne).trans ((below_alloc w _).block q hq)⟩
  have HP2 := Lib.hid hp2
  clear hM hsz hp2
  cases o with
  | none =>
    obtain rfl : e = .panicked pch := hq
    refine leaves_cons (f := 29) (args := #[.pointer (some ⟨w.heap.size, 0, none⟩)]) (by simp) (by simp [go_sem]) ?_
    refine (told_fail _ _ c0 z0).mono ?_
    rintro e u' w'' ⟨rfl, rfl, rfl⟩
    have hp3 := set_block (j := 0) (u := .int .i64 13) HP2.out
    have c1 : (w2.setCell ⟨w.heap.size, 0, none⟩ (.int .i64 13)).cell? ⟨w.heap.size, 0, none⟩ = some (.int .i64 13) := cell_of_heap hp3
    have hfin : Md w.heap.size w2 (w2.setCell ⟨w.heap.size, 0, none⟩ (.int .i64 13)) := ⟨rfl, rfl, rfl, by rw [World.size_setCell]; exact Nat.le_refl _, fun q _ hne => set_other hne⟩
    simp [Leaves, settle, results, Tryz.f20, go_sem, c1]
    exact ⟨w2, ⟨rfl, hN rfl⟩, HM.out, hfin, HP2.out⟩
  | some q =>
    obtain ⟨rfl, hR⟩ := hq
    have HR := Lib.hid hR
    clear hR
    go_wp2_with fail
    refine leaves_cons (f := 29) (args := #[.pointer (some ⟨w.heap.size, 0, none⟩)]) (by simp) (by simp [go_sem]) ?_
    refine (told_idle _ _).mono ?_
    rintro e u' w'' ⟨rfl, rfl, rfl⟩
    have hp3 := set_block (j := 0) (u := .int .i64 0) HP2.out
    have c1 : (w2.setCell ⟨w.heap.size, 0, none⟩ (.int .i64 0)).cell? ⟨w.heap.size, 0, none⟩ = some (.int .i64 0) := cell_of_heap hp3
    have hfin : Md w.heap.size w2 (w2.setCell ⟨w.heap.size, 0, none⟩ (.int .i64 0)) := ⟨rfl, rfl, rfl, by rw [World.size_setCell]; exact Nat.le_refl _, fun q _ hne => set_other hne⟩
    simp [Leaves, settle, results, Tryz.f20, go_sem, c1]
    exact ⟨w2, ⟨rfl, HR.out⟩, HM.out, hfin, HP2.out⟩
end Go.Proofs.YtgledabcfonbeaaGreatDoor.Df

/-! Cook itself, whatever it is given. -/
namespace Go.Proofs.YtgledabcfonbeaaGreatDoor.Df
open Go.RowKit Go.Maps Go.Proofs.YtgledabcfonbeaaGreatDoor

/-- what Cook makes -/
def CoA (w : World) (r : Option (Cmd × (Bs × List Bs))) (e : Ending) (w' : World) : Prop :=
  (∃ (C : Array Value) (er : Int), e = .returned (.tuple #[.agg C, .int .i64 er]) ∧ Out r er (fun q => ∃ base, w.heap.size ≤ base ∧ DiV w' base q.1 q.2 (.agg C)) (C = zDish)) ∧ Below w.heap.size w w'

set_option maxRecDepth 100000 in
set_option maxHeartbeats 16000000 in
theorem cook_a {H : Bs → Bs} {w : World} {s : Bs} {dv fv : Value} {decl : List Bs} {L : List Fl} {U : List Value}
    (hs : s.length ≤ 900) (hd : Strs w dv decl) (hf : Fls w fv L U) (hdl : decl.length ≤ 1000000) (hdx : ∀ x ∈ decl, x.length ≤ 9223372036854775807) (hfl : L.length ≤ 1000000) (hfx : ∀ x ∈ L, x.1.length ≤ 1000000) (hfb : ∀ x ∈ L, x.2.length ≤ 1000000) (hcap : ∀ u ∈ U, ∀ a n c, u = .slice a n c → c ≤ 9223372036854775807)
    (hsum : ∀ o, readL (words [] s) = some o → SumC w H decl (fileL L) o) :
    Calls Tryz.prog 13 #[.string (mk s), dv, fv] w (CoA w (cookL H (words [] s) decl L)) := by
  have hmf : ∀ (fn : Fn) (first cap : Array Value) (w : World), (Instr.makeFunc fn first cap).run Tryz.prog w = .ok (.func fn first cap) w := fun _ _ _ _ => rfl
  obtain ⟨w1, hw1⟩ : ∃ W, w.alloc (.cells #[.string (mk s)] 9) = W := ⟨_, rfl⟩
  obtain ⟨w2, hw2⟩ : ∃ W, w1.alloc (.cells #[dv] 32) = W := ⟨_, rfl⟩
  obtain ⟨w3, hw3⟩ : ∃ W, w2.alloc (.cells #[fv] 27) = W := ⟨_, rfl⟩
  obtain ⟨w4, hw4⟩ : ∃ W, w3.alloc (.cells #[.slice none 0 0, .bool false, .string ⟨#[]⟩, .string ⟨#[]⟩] 36) = W := ⟨_, rfl⟩
  obtain ⟨w5, hw5⟩ : ∃ W, w4.alloc (.cells #[.slice none 0 0, .bool false, .string ⟨#[]⟩, .string ⟨#[]⟩] 36) = W := ⟨_, rfl⟩
  have n1 : w1.heap[w.heap.size]? = some (.cells #[.string (mk s)] 9 (0, 0)) := by rw [← hw1]; exact heap_alloc_new _ _
  have n2 : w2.heap[w1.heap.size]? = some (.cells #[dv] 32 (0, 0)) := by rw [← hw2]; exact heap_alloc_new _ _
  have n3 : w3.heap[w2.heap.size]? = some (.cells #[fv] 27 (0, 0)) := by rw [← hw3]; exact heap_alloc_new _ _
  have n4 : w4.heap[w3.heap.size]? = some (.cells zDish 36 (0, 0)) := by rw [← hw4]; exact heap_alloc_new _ _
  have n5 : w5.heap[w4.heap.size]? = some (.cells zDish 36 (0, 0)) := by rw [← hw5]; exact heap_alloc_new _ _
  have k1 : Below w.heap.size w w1 := by rw [← hw1]; exact below_alloc _ _
  have k2 : Below w1.heap.size w1 w2 := by rw [← hw2]; exact below_alloc _ _
  have k3 : Below w2.heap.size w2 w3 := by rw [← hw3]; exact below_alloc _ _
  have k4 : Below w3.heap.size w3 w4 := by rw [← hw4]; exact below_alloc _ _
  have k5 : Below w4.heap.size w4 w5 := by rw [← hw5]; exact below_alloc _ _
  have k6 := below_alloc w5 (.cells #[.int .i64 0] 37)
  have k46 := k5.trans (k6.mono k5.size)
  have k36 := k4.trans (k46.mono k4.size)
  have k26 := k3.trans (k36.mono k3.size)
  have k16 := k2.trans (k26.mono k2.size)
  have k06 := k1.trans (k16.mono k1.size)
  have cb := cook1_a (H := H) (w := w5.alloc (.cells #[.int .i64 0] 37)) (b0 := w.heap.size) (b1 := w1.heap.size) (b2 := w2.heap.size) (b3 := w4.heap.size) ((k16.block _ (lt_some n1)).trans n1) ((k26.block _ (lt_some n2)).trans n2) ((k36.block _ (lt_some n3)).trans n3) ((k6.block _ (lt_some n5)).trans n5)
    hs (hd.below k06) (hf.below k06) hdl hdx hfl hfx hfb hcap (fun o ho => (hsum o ho).up k06)
  have hn56 := (k6.block _ (lt_some n5)).trans n5
  have ca := attempt_a (w := w5) (p8 := w4.heap.size) (R := fun q w' => Dsv w' (w5.alloc (.cells #[.int .i64 0] 37)).heap.size w4.heap.size q.1 q.2) (N := fun w' => w'.heap[w4.heap.size]? = some (.cells zDish 36 (0, 0))) (lt_some n5) (cb.mono fun e w' h => ⟨h.1, h.2.1, fun hn => (h.2.2 hn).trans hn56⟩)
  generalize cookL H (words [] s) decl L = r at *
  have HSB : Hid (w.heap.size ≤ (w5.alloc (.cells #[.int .i64 0] 37)).heap.size) := Lib.hid (Nat.le_trans k1.size (Nat.le_trans k2.size (Nat.le_trans k3.size (Nat.le_trans k4.size (Nat.le_trans k5.size k6.size)))))
  have HN4 := Lib.hid ((k5.block _ (lt_some n4)).trans n4)
  have HS := Lib.hid (show w.heap.size ≤ w3.heap.size ∧ w3.heap.size < w4.heap.size ∧ w4.heap.size < w5.heap.size from ⟨Nat.le_trans k1.size (Nat.le_trans k2.size k3.size), lt_some n4, lt_some n5⟩)
  have HB5 := Lib.hid ((((k1.trans (k2.mono k1.size)).trans (k3.mono (Nat.le_trans k1.size k2.size))).trans (k4.mono (Nat.le_trans k1.size (Nat.le_trans k2.size k3.size)))).trans (k5.mono (Nat.le_trans k1.size (Nat.le_trans k2.size (Nat.le_trans k3.size k4.size)))))
  obtain ⟨da, dc, rfl, -, -⟩ := hd
  obtain ⟨-, fa, fc, rfl, -, -⟩ := hf
  clear n1 n2 n3 n4 n5 k1 k2 k3 k4 k5 k6 k46 k36 k26 k16 k06 cb hsum hdx hfx hfb hcap hn56
  go_enter Tryz.func13, Tryz.ntmps13
  go_wp2_with fail
  refine ca.mono ?_
  rintro e w8 ⟨er, w7, rfl, hcase, hM1, hM2, hp0⟩
  have hk : ∀ (g : Nat) (cur : Array Value) (t : TypeId), t ≠ 37 → w7.heap[g]? = some (Obj.cells cur t (0, 0)) → w8.heap[g]? = w7.heap[g]? := fun g cur t ht hg => hM2.2.2.2.2 g (lt_some hg) fun e => by
    rw [e, hp0] at hg
    injection hg with h
    injection h with _ h2
    exact ht h2.symm
  have h37 : w7.heap[w3.heap.size]? = some (.cells zDish 36 (0, 0)) := (hM1.2.2.2.2 _ (lt_some HN4.out) (by have := HS.out; omega)).trans HN4.out
  have hn4 := (hk _ _ _ (by decide) h37).trans h37
  have hB8 : Below w.heap.size w w8 := by
    have h5 := HB5.out
    have hs := HS.out
    exact ⟨hM2.1.trans (hM1.1.trans h5.os), hM2.2.1.trans (hM1.2.1.trans h5.tape), hM2.2.2.1.trans (hM1.2.2.1.trans h5.output), Nat.le_trans h5.size (Nat.le_trans hM1.2.2.2.1 hM2.2.2.2.1), fun q hq => (hM2.2.2.2.2 q (by have := h5.size; have := hM1.2.2.2.1; omega) (by omega)).trans ((hM1.2.2.2.2 q (by have := h5.size; omega) (by omega)).trans (h5.block q hq))⟩
  have hdish : ∃ v0 v1 v2 v3, w8.heap[w4.heap.size]? = some (.cells #[v0, v1, v2, v3] 36 (0, 0)) ∧ (∃ a n c, v0 = .slice a n c) ∧ (∃ b, v1 = .bool b) ∧ (∃ x, v2 = .string x) ∧ (∃ x, v3 = .string x) ∧ Out r er (fun q => ∃ base, w.heap.size ≤ base ∧ DiV w8 base q.1 q.2 (.agg #[v0, v1, v2, v3])) (#[v0, v1, v2, v3] = zDish) := by
    cases r with
    | none =>
      obtain ⟨he, hn⟩ := hcase
      exact ⟨_, _, _, _, (hk _ _ _ (by decide) hn).trans hn, ⟨_, _, _, rfl⟩, ⟨_, rfl⟩, ⟨_, rfl⟩, ⟨_, rfl⟩, he, rfl⟩
    | some q =>
      obtain ⟨he, C, base, hbase, hC, a, c, LL, hv, hfst, hob, hown⟩ := hcase
      cases hv
      refine ⟨_, _, _, _, (hk _ _ _ (by decide) hC).trans hC, ⟨_, _, _, rfl⟩, ⟨_, rfl⟩, ⟨_, rfl⟩, ⟨_, rfl⟩, he, base, Nat.le_trans HSB.out hbase, a, c, LL, rfl, hfst, fun q hq => (hob q hq).kept fun g cur hc => hk g cur _ (by decide) hc, owns_kept hown fun g hg => ?_⟩
      obtain ⟨_, cur, hc⟩ := owns_block hown hg
      exact hk g cur _ (by decide) hc
  obtain ⟨v0, v1, v2, v3, hp8, ⟨x0a, x0n, x0c, rfl⟩, ⟨x1, rfl⟩, ⟨x2, rfl⟩, ⟨x3, rfl⟩, hres⟩ := hdish
  have i0 : w8.cell? ⟨w4.heap.size, 0, none⟩ = some (.slice x0a x0n x0c) := cell_of_heap hp8
  have i1 : w8.cell? ⟨w4.heap.size, 1, none⟩ = some (.bool x1) := cell_of_heap hp8
  have i2 : w8.cell? ⟨w4.heap.size, 2, none⟩ = some (.string x2) := cell_of_heap hp8
  have i3 : w8.cell? ⟨w4.heap.size, 3, none⟩ = some (.string x3) := cell_of_heap hp8
  have o0 : w8.cell? ⟨w3.heap.size, 0, none⟩ = some (.slice none 0 0) := cell_of_heap hn4
  have o1 : w8.cell? ⟨w3.heap.size, 1, none⟩ = some (.bool false) := cell_of_heap hn4
  have o2 : w8.cell? ⟨w3.heap.size, 2, none⟩ = some (.string ⟨#[]⟩) := cell_of_heap hn4
  have o3 : w8.cell? ⟨w3.heap.size, 3, none⟩ = some (.string ⟨#[]⟩) := cell_of_heap hn4
  have y0 : w8.frozen? ⟨w3.heap.size, 0, none⟩ = false := by simp [World.frozen?, hn4, zDish]
  have y1 : w8.frozen? ⟨w3.heap.size, 1, none⟩ = false := by simp [World.frozen?, hn4, zDish]
  have y2 : w8.frozen? ⟨w3.heap.size, 2, none⟩ = false := by simp [World.frozen?, hn4, zDish]
  have y3 : w8.frozen? ⟨w3.heap.size, 3, none⟩ = false := by simp [World.frozen?, hn4, zDish]
  have HNN := Lib.hid hn4
  have HRES := Lib.hid hres
  have HB8 := Lib.hid hB8
  clear hM1 hM2 hp0 hk hp8 h37 hn4 hB8 ca hw1 hw2 hw3 hw4 hw5 hres hcase
  go_wp2_with fail
  have hz := HNN.out
  obtain ⟨W, hW⟩ : ∃ W, ((((w8.setCell ⟨w3.heap.size, 0, none⟩ (.slice x0a x0n x0c)).setCell ⟨w3.heap.size, 1, none⟩ (.bool x1)).setCell ⟨w3.heap.size, 2, none⟩ (.string x2)).setCell ⟨w3.heap.size, 3, none⟩ (.string x3)) = W := ⟨_, rfl⟩
  have hP : W.heap[w3.heap.size]? = some (.cells #[.slice x0a x0n x0c, .bool x1, .string x2, .string x3] 36 (0, 0)) := by rw [← hW]; exact set_block (j := 3) (set_block (j := 2) (set_block (j := 1) (set_block (j := 0) hz)))
  have hoth : ∀ (g : Nat) (cur : Array Value) (t : TypeId), t ≠ 36 → w8.heap[g]? = some (Obj.cells cur t (0, 0)) → W.heap[g]? = w8.heap[g]? := fun g cur t ht hg => by
    have hne : g ≠ w3.heap.size := fun e => by
      rw [e, hz] at hg
      injection hg with h
      injection h with _ h2
      exact ht h2.symm
    rw [← hW]
    exact (set_other hne).trans ((set_other hne).trans ((set_other hne).trans (set_other hne)))
  have s0 : W.cell? ⟨w3.heap.size, 0, none⟩ = some (.slice x0a x0n x0c) := cell_of_heap hP
  have s1 : W.cell? ⟨w3.heap.size, 1, none⟩ = some (.bool x1) := cell_of_heap hP
  have s2 : W.cell? ⟨w3.heap.size, 2, none⟩ = some (.string x2) := cell_of_heap hP
  have s3 : W.cell? ⟨w3.heap.size, 3, none⟩ = some (.string x3) := cell_of_heap hP
  have hlo := HS.out.1
  have hB := (((HB8.out.setCell (p := ⟨w3.heap.size, 0, none⟩) hlo (.slice x0a x0n x0c)).setCell (p := ⟨w3.heap.size, 1, none⟩) hlo (.bool x1)).setCell (p := ⟨w3.heap.size, 2, none⟩) hlo (.string x2)).setCell (p := ⟨w3.heap.size, 3, none⟩) hlo (.string x3)
  rw [hW] at hB
  first | rw [hW] | skip
  refine bodyPost_ret (v := .tuple #[.agg #[.slice x0a x0n x0c, .bool x1, .string x2, .string x3], .int .i64 er]) (by simp [results, Tryz.f13, go_sem, s0, s1, s2, s3]) rfl ?_
  refine ⟨⟨_, er, rfl, ?_⟩, hB⟩
  have hres := HRES.out
  cases r with
  | none => exact hres
  | some q =>
    obtain ⟨he, base, hbase, a, c, LL, hv, hfst, hob, hown⟩ := hres
    refine ⟨he, base, hbase, a, c, LL, hv, hfst, fun q hq => (hob q hq).kept fun g cur hc => hoth g cur _ (by decide) hc, owns_kept hown fun g hg => ?_⟩
    obtain ⟨_, cur, hc⟩ := owns_block hown hg
    exact hoth g cur _ (by decide) hc
end Go.Proofs.YtgledabcfonbeaaGreatDoor.Df

/-! What the chapter's two commands make. -/
namespace Go.Proofs.YtgledabcfonbeaaGreatDoor.Df
open Go.RowKit Go.Maps Go.Proofs.YtgledabcfonbeaaGreatDoor
def sCat : Bs := [99, 97, 116, 32, 97, 32, 98, 32, 62, 32, 111]
def sInc : Bs := [105, 110, 99, 32, 97, 32, 62, 32, 111, 32, 58, 32, 100]
theorem eval_cat (H : Bs → Bs) : cookL H (words [] sCat) [[97], [98]] [([97], [120]), ([98], [121])] = some (⟨false, wCat, [[97], [98]], [[111]], []⟩, ([120, 121], [])) := by kernel_rfl
theorem eval_inc (H : Bs → Bs) : cookL H (words [] sInc) [[97]] [([97], [35, 105, 110, 99, 108, 117, 100, 101, 32, 98]), ([98], [121])] = some (⟨false, wInc, [[97]], [[111]], [100]⟩, ([121], [[98]])) := by kernel_rfl
theorem read_cat : readL (words [] sCat) = some ⟨false, wCat, [[97], [98]], [[111]], []⟩ := by kernel_rfl
theorem read_inc : readL (words [] sInc) = some ⟨false, wInc, [[97]], [[111]], [100]⟩ := by kernel_rfl
theorem eval_deps : depsT ⟨false, wInc, [[97]], [[111]], [100]⟩ [[98]] = [111, 58, 32, 98, 10] := by kernel_rfl
end Go.Proofs.YtgledabcfonbeaaGreatDoor.Df
