/-
  A BOOK THAT IS NOT THERE.
-/
import Derived.Test.YtofdnbddpageoaaNmLight
namespace Go.Proofs.Ytofdnbddpageoaa.Nm
open Go.RowKit Go.Maps

theorem planNil_c (w : World) (s : ByteArray) (t : Int) (v : Value) : Calls Try.prog 20 #[.pointer Option.none, .agg #[.string s, .int .i64 t, v]] w fun e w' => e = .returned (.tuple #[.slice Option.none 0 0, .int .i64 15]) ∧ Below w.heap.size w w' := by
  have HB := Lib.hid (Pk.below_alloc w (.cells #[.string s, .int .i64 t, v] 39))
  go_enter Try.func20, Try.ntmps20
  go_wp2_with fail
  go_ret2
  exact ⟨rfl, HB.out⟩
theorem lookNil_c (w : World) (s : ByteArray) : Calls Try.prog 15 #[.pointer Option.none, .string s] w fun e w' => e = .returned (.tuple #[.agg #[.string ⟨#[]⟩, .int .i64 0, .slice Option.none 0 0], .bool false]) ∧ Below w.heap.size w w' := by
  obtain ⟨W0, hW0⟩ : ∃ W, w.alloc (.cells #[.string ⟨#[]⟩, .int .i64 0, .slice Option.none 0 0] 39) = W := ⟨_, rfl⟩
  have b0 : Below w.heap.size w W0 := by rw [← hW0]; exact Pk.below_alloc _ _
  have z0 : W0.heap[w.heap.size]? = some (.cells #[.string ⟨#[]⟩, .int .i64 0, .slice Option.none 0 0] 39 (0, 0)) := by rw [← hW0]; exact heap_alloc_new _ _
  obtain ⟨⟨k0, k1, k2⟩, f0, f1, f2⟩ := thr_cells z0
  obtain ⟨⟨s0, s1, s2⟩, -⟩ := thr_cells (thr_same (v0 := .string ⟨#[]⟩) (v1 := .int .i64 0) (v2 := .slice Option.none 0 0) z0)
  have HBN := Lib.hid (thr_below (v0 := .string ⟨#[]⟩) (v1 := .int .i64 0) (v2 := .slice Option.none 0 0) b0 (Nat.le_refl _) (Nat.le_refl w.heap.size))
  unfold thr at s0 s1 s2 HBN
  have SN := Lib.hid (And.intro s0 (And.intro s1 s2))
  clear s0 s1 s2 b0 z0
  go_enter Try.func15, Try.ntmps15
  go_wp2_with fail
  obtain ⟨s0, s1, s2⟩ := SN.out
  refine bodyPost_ret (v := .tuple #[.agg #[.string ⟨#[]⟩, .int .i64 0, .slice Option.none 0 0], .bool false]) (by simp [results, Try.f15, go_sem, s0, s1, s2]) rfl ?_
  exact ⟨rfl, HBN.out⟩
theorem takeNil_c (w : World) : Calls Try.prog 12 #[.pointer Option.none, .slice Option.none 0 0] w fun e w' => e = .returned (.int .i64 15) ∧ w = w' := by
  go_enter Try.func12, Try.ntmps12
  go_wp2_with fail
  go_ret
  exact ⟨rfl, rfl⟩
theorem allNil_c (w : World) : Calls Try.prog 23 #[.pointer Option.none] w fun e w' => e = .returned (.slice Option.none 0 0) ∧ w = w' := by
  go_enter Try.func23, Try.ntmps23
  go_wp2_with fail
  go_ret
  exact ⟨rfl, rfl⟩
theorem namesNil_c (w : World) : Calls Try.prog 24 #[.pointer Option.none] w fun e w' => e = .returned (.slice Option.none 0 0) ∧ w = w' := by
  go_enter Try.func24, Try.ntmps24
  go_wp2_with fail
  go_ret
  exact ⟨rfl, rfl⟩
set_option maxHeartbeats 4000000 in
theorem recordsNil_c (w : World) : Calls Try.prog 25 #[.pointer Option.none, .slice Option.none 0 0] w fun e w' => e = .returned (.slice Option.none 0 0) ∧ Below w.heap.size w w' := by
  have hmk := @run_makeMap Try.prog
  have HB1 := Lib.hid (Pk.below_alloc w (.map #[] 0))
  obtain ⟨w1, hw1⟩ : ∃ W, w.alloc (.map #[] 0) = W := ⟨_, rfl⟩
  rw [hw1] at HB1
  have cn := new_c w1
  have HB2 := Lib.hid (HB1.out.trans ((Pk.below_alloc w1 (.cells #[.slice Option.none 0 0, .map Option.none, .slice Option.none 0 0] 69)).mono HB1.out.size))
  have ca := allNil_c (w1.alloc (.cells #[.slice Option.none 0 0, .map Option.none, .slice Option.none 0 0] 69))
  go_enter Try.func25, Try.ntmps25
  go_wp2_with fail
  refine wp_loop_rounds 1 ?_
  rw [rounds_succ]
  go_wp2_with fail
  refine cn.mono ?_
  rintro e w2 ⟨rfl, rfl⟩
  clear cn
  go_wp2_with fail
  refine ca.mono ?_
  rintro e w2 ⟨rfl, rfl⟩
  clear ca
  go_wp2_with fail
  refine wp_loop_rounds 1 ?_
  rw [rounds_succ]
  go_wp2_with fail
  go_ret
  exact ⟨rfl, HB2.out⟩
end Go.Proofs.Ytofdnbddpageoaa.Nm
