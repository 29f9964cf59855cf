/-
  WHAT A DOCUMENT TELLS AS THE PROGRAM's.
-/
import Derived.Test.YtofdnbddpageoaaNmGive
namespace Go.Proofs.Ytofdnbddpageoaa.Nm
open Go.RowKit Go.Maps

/-- the document's box, the result's -/
structure GvW (w W : World) (d : Dp) (dv : Value) : Prop where
  h1 : W.heap[w.heap.size]? = some (.cells #[.string d.out, .int .i64 d.time, dv] 42 (0, 0))
  h2 : W.heap[w.heap.size + 1]? = some (.cells #[.string ⟨#[]⟩, .int .i64 0, .slice Option.none 0 0] 39 (0, 0))
  bel : Below w.heap.size w W
section
variable {w W W1 : World} {d : Dp} {dv : Value}
theorem GvW.alloc (h : GvW w W d dv) (ob : Obj) : GvW w (W.alloc ob) d dv :=
  ⟨(Below.heap_alloc _ _ _ (lt_some h.h1)).trans h.h1, (Below.heap_alloc _ _ _ (lt_some h.h2)).trans h.h2, h.bel.alloc h.bel.size _⟩
theorem GvW.drew (h : GvW w W d dv) : GvW w W.drew d dv := ⟨h.h1, h.h2, ⟨h.bel.os, h.bel.tape, h.bel.output, h.bel.size, h.bel.block⟩⟩
theorem GvW.grown (h : GvW w W d dv) {v : Value} {n : Nat} {xs : List Value} (hown : W.ownsRow w.heap.size 9 1 v n xs) (hg : W.grownBy W1 v.ownBlock) : GvW w W1 d dv := by
  have hk : ∀ (k : Nat) (C : Array Value) (t : TypeId), W.heap[k]? = some (Obj.cells C t (0, 0)) → t ≠ 9 → W1.heap[k]? = W.heap[k]? := fun k C t hc ht => hg.block k (lt_some hc) fun e => by
    obtain ⟨_, cur, hcur⟩ := owns_block hown e.symm
    exact ne_type hc hcur ht rfl
  exact ⟨(hk _ _ _ h.h1 (by decide)).trans h.h1, (hk _ _ _ h.h2 (by decide)).trans h.h2, h.bel.trans ⟨hg.os, hg.tape, hg.output, hg.size, fun k hkk => hg.block k (by have := h.bel.size; omega) fun e => by have := (owns_block hown e.symm).1; omega⟩⟩
theorem GvW.cells (h : GvW w W d dv) : W.cell? ⟨w.heap.size, 0, Option.none⟩ = some (.string d.out) ∧ W.cell? ⟨w.heap.size, 1, Option.none⟩ = some (.int .i64 d.time) ∧ W.cell? ⟨w.heap.size, 2, Option.none⟩ = some dv := (thr_cells h.h1).1
theorem GvW.thr (h : GvW w W d dv) (v0 v1 v2 : Value) : (((W.setCell ⟨w.heap.size + 1, 0, Option.none⟩ v0).setCell ⟨w.heap.size + 1, 1, Option.none⟩ v1).setCell ⟨w.heap.size + 1, 2, Option.none⟩ v2).cell? ⟨w.heap.size, 0, Option.none⟩ = some (.string d.out) ∧
    (((W.setCell ⟨w.heap.size + 1, 0, Option.none⟩ v0).setCell ⟨w.heap.size + 1, 1, Option.none⟩ v1).setCell ⟨w.heap.size + 1, 2, Option.none⟩ v2).cell? ⟨w.heap.size, 1, Option.none⟩ = some (.int .i64 d.time) ∧
    (((W.setCell ⟨w.heap.size + 1, 0, Option.none⟩ v0).setCell ⟨w.heap.size + 1, 1, Option.none⟩ v1).setCell ⟨w.heap.size + 1, 2, Option.none⟩ v2).cell? ⟨w.heap.size, 2, Option.none⟩ = some dv :=
  (thr_cells ((thr_other (W := W) (v0 := v0) (v1 := v1) (v2 := v2) (by omega)).trans h.h1)).1
end

set_option maxRecDepth 100000 in
set_option maxHeartbeats 2000000 in
theorem given_own {w : World} {d : Dp} {dv : Value} (hd : StrRow w dv d.deps) (hno : NilOk dv) (hn : d.deps.length ≤ 100000) :
    Calls Try.prog 21 #[.agg #[.string d.out, .int .i64 d.time, dv]] w fun e w' => ∃ v, e = .returned (.agg #[.string d.out, .int .i64 d.time, v]) ∧ w'.ownsRow w.heap.size 9 1 v d.deps.length (strV d.deps) ∧ Below w.heap.size w w' := by
  obtain ⟨W0, hW0⟩ : ∃ W, (w.alloc (.cells #[.string d.out, .int .i64 d.time, dv] 42)).alloc (.cells #[.string ⟨#[]⟩, .int .i64 0, .slice Option.none 0 0] 39) = W := ⟨_, rfl⟩
  have z1 : (w.alloc (.cells #[.string d.out, .int .i64 d.time, dv] 42)).heap.size = w.heap.size + 1 := World.size_alloc _ _
  have x0 : GvW w W0 d dv := by
    refine ⟨?_, ?_, ?_⟩
    · rw [← hW0, Below.heap_alloc _ _ _ (by rw [z1]; omega)]
      exact heap_alloc_new _ _
    · rw [← hW0, ← z1]
      exact heap_alloc_new _ _
    · rw [← hW0]
      exact ((Below.refl _ _).alloc (Nat.le_refl _) _).alloc (by rw [z1]; omega) _
  obtain ⟨da, dc, rfl, hdc, hdr⟩ := hd
  have hd : StrRow w (.slice da d.deps.length dc) d.deps := ⟨da, dc, rfl, hdc, hdr⟩
  have X0 := Lib.hid x0
  have zW : W0.heap.size = w.heap.size + 2 := by rw [← hW0, World.size_alloc, z1]
  have hle0 : w.heap.size ≤ W0.heap.size := by omega
  have cS0 := X0.out.cells
  have cS1 := X0.out.drew.cells
  have cA := (X0.out.alloc (.cells #[] 9)).drew.cells
  have fA := Lib.hid (hd.below (X0.out.alloc (.cells #[] 9)).drew.bel)
  have oA : (W0.alloc (.cells #[] 9)).drew.ownsRow w.heap.size 9 1 (.slice (some ⟨W0.heap.size, 0, Option.none⟩) 0 0) 0 [] := World.ownsRow_made W0 #[] 0 hle0 (by unfold maxLen; omega) rfl
  have OA := Lib.hid oA
  have XA := Lib.hid (X0.out.alloc (.cells #[] 9)).drew
  have hn1 : 0 + d.deps.length ≤ 1000000 := by omega
  have HNO := Lib.hid hno
  clear x0 z1 oA hd hdr zW hno
  go_enter Try.func21, Try.ntmps21
  go_upto_region 1 with fail
  go_region_held3 (fun w' => w'.cell? ⟨w.heap.size, 0, Option.none⟩ = some (.string d.out) ∧ w'.cell? ⟨w.heap.size, 1, Option.none⟩ = some (.int .i64 d.time) ∧ w'.cell? ⟨w.heap.size, 2, Option.none⟩ = some (.slice da d.deps.length dc))
    (first | with_reducible exact cS0 | with_reducible exact cS1 | with_reducible exact cA | with_reducible exact cS8 | with_reducible exact cB.out _ _ _)
    (first | (refine step_appS rfl (.tmp 7) (.tmp 9) rfl (by simp [Act.eval]) OA.out (by simp [Act.eval]) fA.out HNO.out hn1 (Nat.le_trans hle0 (Pk.below_alloc W0 _).size) ?_; intro v8 w8 hown8 hg8; obtain ⟨va, vc, rfl⟩ := own_slice hown8; have X8 := XA.out.grown OA.out hg8; have cS8 := X8.cells; have HX8 := Lib.hid X8; have cB := Lib.hid X8.thr; have HO8 := Lib.hid hown8; obtain ⟨⟨k0, k1, k2⟩, r0, r1, r2⟩ := thr_cells X8.h2; clear X8 hown8 hg8))
  rw [Nat.zero_add, List.nil_append] at HO8
  go_wp2_with fail
  obtain ⟨⟨s0, s1, s2⟩, -⟩ := thr_cells (thr_same (v0 := .string d.out) (v1 := .int .i64 d.time) (v2 := .slice va d.deps.length vc) HX8.out.h2)
  unfold thr at s0 s1 s2
  refine bodyPost_ret (v := .agg #[.string d.out, .int .i64 d.time, .slice va d.deps.length vc]) (by simp [results, Try.f21, go_sem, s0, s1, s2]) rfl ?_
  refine ⟨_, rfl, ?_, ?_⟩
  · refine owns_kept HO8.out fun g hg => thr_other ?_
    obtain ⟨_, cur, hc⟩ := owns_block HO8.out hg
    exact ne_type hc HX8.out.h2 (by decide)
  · exact thr_below HX8.out.bel (Nat.le_refl _) (Nat.le_succ _)

theorem given_c {w : World} {d : Dp} {dv : Value} (hd : StrRow w dv d.deps) (hno : NilOk dv) (hn : d.deps.length ≤ 100000) :
    Calls Try.prog 21 #[.agg #[.string d.out, .int .i64 d.time, dv]] w fun e w' => ∃ a c, e = .returned (.agg #[.string d.out, .int .i64 d.time, .slice a d.deps.length c]) ∧ StrRow w' (.slice a d.deps.length c) d.deps ∧ Below w.heap.size w w' :=
  (given_own hd hno hn).mono fun _ _ ⟨v, he, h1, hb⟩ => by
    obtain ⟨a, c, rfl⟩ := own_slice h1
    exact ⟨a, c, he, (strRow_of h1).1, hb⟩
end Go.Proofs.Ytofdnbddpageoaa.Nm
