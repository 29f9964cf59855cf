/-
  THE LAW RunsReads, WALKED.
-/
import Derived.Test.YtmhmoaokmfplpaaRefRdW
import Derived.Test.YtmhmoaokmfplpaaRnAwake
import Derived.Test.YtmhmoaokmfplpaaRgLate
namespace Go.Proofs.Ytmhmoaokmfplpaa.Rn
open Go.RowKit
open Go.Proofs.Ytmhmoaokmfplpaa.Cr

/-- a run's box, of whatever type, and what its lists hold -/
structure Bx (W : World) (k : Nat) (r : Run) (vi vf : Value) (t : TypeId) : Prop where
  bx : W.heap[k]? = some (.cells (runC r vi vf) t (0, 0))
  ins : InRow W vi r.ins
  fds : FdRow W vf r.found

theorem Bx.next {W W1 : World} {k : Nat} {r : Run} {vi vf : Value} {t : TypeId} (h : Bx W k r vi vf t) (hb : Below W.heap.size W W1) : Bx W1 k r vi vf t :=
  ⟨(hb.block _ (lt_some h.bx)).trans h.bx, h.ins.below hb, h.fds.below hb⟩

theorem rdQ_any {w w' : World} {b : List Nat} {e : Ending} (h : RdQ w b e w') : ∃ a c a' c', e = .returned (.tuple #[.agg (runC (rdO b) (.slice a (rdO b).ins.length c) (.slice a' (rdO b).found.length c')), .int .i64 (rdE b)]) ∧ InRow w' (.slice a (rdO b).ins.length c) (rdO b).ins ∧ FdRow w' (.slice a' (rdO b).found.length c') (rdO b).found ∧ Below w.heap.size w w' := by
  obtain ⟨vi, vf, he, hi, hfd, hb⟩ := h
  have hi' := hi
  have hfd' := hfd
  obtain ⟨a, c, rfl, _⟩ := hi
  obtain ⟨a', c', rfl, _⟩ := hfd
  exact ⟨a, c, a', c', he, hi', hfd', hb⟩

theorem rrQ_any {w w' : World} {b : List Nat} {e : Ending} (h : RrQ w b e w') : ∃ a c a' c', e = .returned (.tuple #[.agg (runC (rdO b) (.slice a (rdO b).ins.length c) (.slice a' (rdO b).found.length c')), .bool (fits b)]) ∧ InRow w' (.slice a (rdO b).ins.length c) (rdO b).ins ∧ FdRow w' (.slice a' (rdO b).found.length c') (rdO b).found ∧ Below w.heap.size w w' := by
  obtain ⟨vi, vf, he, hi, hfd, hb⟩ := h
  have hi' := hi
  have hfd' := hfd
  obtain ⟨a, c, rfl, _⟩ := hi
  obtain ⟨a', c', rfl, _⟩ := hfd
  exact ⟨a, c, a', c', he, hi', hfd', hb⟩

theorem rdO_few {l : List Nat} (hl : ∀ n ∈ l, n < 256) : (rdO l).ins.length ≤ l.length ∧ (rdO l).found.length ≤ l.length := by
  unfold rdO
  cases hf : fits l with
  | false => simp [none]
  | true =>
    have h := (back_bwd hl hf).2.2.2
    have h2 := few_parts (rdR l)
    rw [if_pos rfl]
    omega

set_option maxRecDepth 100000 in
set_option maxHeartbeats 8000000 in
theorem reads_any {w : World} {a : Option Addr} {n c : Nat} {l : List Nat} (hn : Hid (n = l.length)) (hrow : Pk.Row w a l) (hl : ∀ x ∈ l, x < 256) (hnc : n ≤ c) (hz : Hid (a = Option.none → c = 0)) :
    Calls Try.prog 4 #[.slice a n c] w fun e w' => e = .returned (.bool true) ∧ Below w.heap.size w w' := by
  by_cases hlen : 5000 < n
  · have hlen' : (5000 : Int) < (n : Int) := by omega
    go_enter Try.func4, Try.ntmps4
    go_wp2_with fail
    go_ret
    exact ⟨rfl, Below.refl _ _⟩
  have hlen' : ¬ (5000 : Int) < (n : Int) := by omega
  obtain ⟨W0, hW0⟩ : ∃ W, w.alloc (.cells #[] 5) = W := ⟨_, rfl⟩
  have hB0 : Below w.heap.size w W0 := by rw [← hW0]; exact Pk.below_alloc _ _
  have ho0 : W0.ownsRow w.heap.size 5 1 (.slice (some ⟨w.heap.size, 0, Option.none⟩) 0 0) 0 (Pk.bytesV []) := by rw [← hW0]; exact World.ownsRow_made w #[] 0 (Nat.le_refl _) (by unfold maxLen; omega) rfl
  have hr0 := hrow.below hB0
  have hs0 := hB0.size
  have HB0 := Lib.hid hB0
  have HR := Lib.hid hrow
  have hzz : 0 + n ≤ 140737488351232 := by omega
  clear hB0 hrow hlen
  go_enter Try.func4, Try.ntmps4
  go_wp2_with (at_builtin; refine Pk.wpList_append_bytes rfl (.tmp 11) (.tmp 12) rfl w.heap.size (.slice (some ⟨w.heap.size, 0, Option.none⟩) 0 0) 0 [] rfl ho0 a n c l rfl hn.out hz.out hr0 l rfl hzz hs0 ?_; intro a1 n1 c1 w1 hown1 Hn1 hle1 hr1 _ hb1; have HB1 := Lib.hid (HB0.out.trans hb1); have hrd := read_c (c := c1) Hn1 hr1 hl (by have := hn.out; omega); clear hown1 Hn1 hle1 hr1 hb1 ho0 hr0 hs0 hzz hW0)
  refine hrd.mono ?_
  intro e w2 hq
  obtain ⟨va, vc, va', vc', rfl, hi2, hf2, hb2⟩ := rdQ_any hq
  clear hrd hq
  obtain ⟨W3, hW3⟩ : ∃ W, w2.alloc (.cells (runC (rdO l) (.slice va (rdO l).ins.length vc) (.slice va' (rdO l).found.length vc')) 33) = W := ⟨_, rfl⟩
  have hb3 : Below w2.heap.size w2 W3 := by rw [← hW3]; exact Pk.below_alloc _ _
  have HB3 := Lib.hid ((HB1.out.trans (hb2.mono HB1.out.size)).trans (hb3.mono (Nat.le_trans HB1.out.size hb2.size)))
  have Y3 : Hid (Bx W3 w2.heap.size (rdO l) (.slice va (rdO l).ins.length vc) (.slice va' (rdO l).found.length vc') 33) := Lib.hid ⟨by rw [← hW3]; exact heap_alloc_new _ _, hi2.below hb3, hf2.below hb3⟩
  have hrr := refRead_c (c := c) hn (HR.out.below HB3.out) hl (by omega) hnc
  unfold runC at hW3 ⊢
  have FEW := Lib.hid (rdO_few hl)
  obtain ⟨R, hR⟩ : ∃ R, rdO l = R := ⟨_, rfl⟩
  have HRR := Lib.hid hR
  have hE : (rdE l = 0 ∧ fits l = true) ∨ (rdE l = 4 ∧ fits l = false) := by
    unfold rdE
    cases hf : fits l with
    | true => exact .inl ⟨rfl, rfl⟩
    | false => exact .inr ⟨rfl, rfl⟩
  have HE := Lib.hid hE
  rw [hR] at hW3 Y3 FEW ⊢
  clear hi2 hf2 hb2 hb3 hE hR
  generalize rdE l = E at *
  go_wp2_with fail
  refine hrr.mono ?_
  intro e w4 hq
  obtain ⟨ua, uc, ua', uc', rfl, hi4, hf4, hb4⟩ := rrQ_any hq
  rw [HRR.out] at hi4 hf4 ⊢
  clear hrr hq hW3
  obtain ⟨W5, hW5⟩ : ∃ W, w4.alloc (.cells (runC R (.slice ua R.ins.length uc) (.slice ua' R.found.length uc')) 25) = W := ⟨_, rfl⟩
  have hb5 : Below w4.heap.size w4 W5 := by rw [← hW5]; exact Pk.below_alloc _ _
  have HB5 := Lib.hid ((HB3.out.trans (hb4.mono HB3.out.size)).trans (hb5.mono (Nat.le_trans HB3.out.size hb4.size)))
  have Z5 : Hid (Bx W5 w4.heap.size R (.slice ua R.ins.length uc) (.slice ua' R.found.length uc') 25) := Lib.hid ⟨by rw [← hW5]; exact heap_alloc_new _ _, hi4.below hb5, hf4.below hb5⟩
  have Y5 := Lib.hid ((Y3.out.next hb4).next hb5)
  have hto := Tq.told_c (w := W5.drew) (r := R) (vi := .slice va R.ins.length vc) (vf := .slice va' R.found.length vc') (Y5.out.ins.below (below_drew (Below.refl _ _))) (Y5.out.fds.below (below_drew (Below.refl _ _))) (by have := FEW.out.1; have := hn.out; omega) (by have := FEW.out.2; have := hn.out; omega)
  have hfi : R.ins.length ≤ 1000000 := by have := FEW.out.1; have := hn.out; omega
  have hff : R.found.length ≤ 1000000 := by have := FEW.out.2; have := hn.out; omega
  obtain ⟨⟨c0, c1', c2, c3, c4, c5⟩, -⟩ := six_cells Y5.out.bx
  obtain ⟨⟨k0, k1, k2, k3, k4, k5⟩, -⟩ := six_cells Z5.out.bx
  unfold runC at hW5 hto ⊢
  clear hi4 hf4 hb4 hb5 Y3
  rcases HE.out with ⟨hE0, hF0⟩ | ⟨hE0, hF0⟩
  · subst hE0
    rw [hF0]
    clear hF0 HE
    go_wp2_with fail
    refine wp_region_noPanic ?_
    refine Lt.wp_region_late [] (fun w' => (w'.cell? ⟨w2.heap.size, 0, Option.none⟩ = some (.string R.out) ∧ w'.cell? ⟨w2.heap.size, 1, Option.none⟩ = some (.string R.cmd) ∧ w'.cell? ⟨w2.heap.size, 2, Option.none⟩ = some (.int .i64 R.time) ∧ w'.cell? ⟨w2.heap.size, 3, Option.none⟩ = some (.int .i64 R.mark) ∧ w'.cell? ⟨w2.heap.size, 4, Option.none⟩ = some (.slice va R.ins.length vc) ∧ w'.cell? ⟨w2.heap.size, 5, Option.none⟩ = some (.slice va' R.found.length vc')) ∧
        (w'.cell? ⟨w4.heap.size, 0, Option.none⟩ = some (.string R.out) ∧ w'.cell? ⟨w4.heap.size, 1, Option.none⟩ = some (.string R.cmd) ∧ w'.cell? ⟨w4.heap.size, 2, Option.none⟩ = some (.int .i64 R.time) ∧ w'.cell? ⟨w4.heap.size, 3, Option.none⟩ = some (.int .i64 R.mark) ∧ w'.cell? ⟨w4.heap.size, 4, Option.none⟩ = some (.slice ua R.ins.length uc) ∧ w'.cell? ⟨w4.heap.size, 5, Option.none⟩ = some (.slice ua' R.found.length uc'))) (by kernel_rfl) ?_
    refine Lt.wpAnyL_take (i := 0) (oi := { dst := some 22, op := Op.load 33 (Operand.tmp 3), type := 33, pos := _, after := #[], guard := Option.none }) (v := ?_) [] rfl (by kernel_rfl) (by kernel_rfl) (by kernel_rfl) (by kernel_rfl) (by kernel_rfl) (by kernel_rfl) (fun _ _ _ h => h) (Or.inl ⟨by rfl, ?_⟩) ⟨⟨c0, c1', c2, c3, c4, c5⟩, ⟨k0, k1, k2, k3, k4, k5⟩⟩ ?_
    rotate_left 1
    · intro w hSw
      try dsimp only at hSw
      go_simp
      first | done | with_reducible rfl
    try simp only [Act.put, List.setIfInBounds_toArray, List.set_cons_zero, List.set_cons_succ]
    refine Lt.wpAnyL_take (i := 2) (oi := { dst := some 24, op := Op.load 25 (Operand.tmp 5), type := 25, pos := _, after := #[], guard := Option.none }) (v := ?_) [] rfl (by kernel_rfl) (by kernel_rfl) (by kernel_rfl) (by kernel_rfl) (by kernel_rfl) (by kernel_rfl) (fun _ _ _ h => h) (Or.inl ⟨by rfl, ?_⟩) ⟨⟨c0, c1', c2, c3, c4, c5⟩, ⟨k0, k1, k2, k3, k4, k5⟩⟩ ?_
    rotate_left 1
    · intro w hSw
      try dsimp only at hSw
      go_simp
      first | done | with_reducible rfl
    try simp only [Act.put, List.setIfInBounds_toArray, List.set_cons_zero, List.set_cons_succ]
    refine Lt.wpAnyL_next (i := 1) (by kernel_rfl) rfl (fun K hK => ?_)
    go_simp
    go_at_call 18
    refine hto.mono ?_
    rintro e w6 ⟨ti, tf, rfl, ti6, tf6, hb6⟩
    have hb6' : Below W5.heap.size W5 w6 := below_of_drew hb6
    have Y6 := Lib.hid (Y5.out.next hb6')
    have Z6 := Lib.hid (Z5.out.next hb6')
    have HB6 := Lib.hid (HB5.out.trans (hb6'.mono HB5.out.size))
    obtain ⟨m6, -⟩ := six_cells Y6.out.bx
    obtain ⟨j6, -⟩ := six_cells Z6.out.bx
    have hsa := same_c (r := R) (q := R) hfi hff ti6 tf6 Z6.out.ins Z6.out.fds
    rw [sameB_yes rfl] at hsa
    unfold runC at hsa
    clear hb6 hb6' ti6 tf6
    refine hK.out _ _ (fun _ => ⟨m6, j6⟩) ?_
    clear hK K
    try simp only [Act.put, List.setIfInBounds_toArray, List.set_cons_zero, List.set_cons_succ]
    refine Lt.wpAnyL_next (i := 3) (by kernel_rfl) rfl (fun K hK => ?_)
    go_simp
    go_at_call 17
    refine hsa.mono ?_
    rintro e w7 ⟨rfl, hb7⟩
    have Y7 := Lib.hid (Y6.out.next hb7)
    have Z7 := Lib.hid (Z6.out.next hb7)
    have HB7 := Lib.hid (HB6.out.trans (hb7.mono HB6.out.size))
    obtain ⟨m7, -⟩ := six_cells Y7.out.bx
    obtain ⟨j7, -⟩ := six_cells Z7.out.bx
    have haw := awake_c w7
    clear hb7
    refine hK.out _ _ (fun _ => ⟨m7, j7⟩) ?_
    clear hK K
    try simp only [Act.put, List.setIfInBounds_toArray, List.set_cons_zero, List.set_cons_succ]
    refine Lt.wpAnyL_take (i := 4) (oi := { dst := some 26, op := Op.move (Operand.tmp 25), type := 4, pos := _, after := #[{ on := 3, ground := Ground.data }, { on := 3, ground := Ground.chain }], guard := Option.none }) (v := ?_) [] rfl (by kernel_rfl) (by kernel_rfl) (by kernel_rfl) (by kernel_rfl) (by kernel_rfl) (by kernel_rfl) (fun _ _ _ h => h) (Or.inl ⟨by rfl, ?_⟩) ⟨m7, j7⟩ ?_
    rotate_left 1
    · intro w hSw
      try dsimp only at hSw
      go_simp
      first | done | with_reducible rfl
    try simp only [Act.put, List.setIfInBounds_toArray, List.set_cons_zero, List.set_cons_succ]
    refine Lt.wpAnyL_take (i := 5) (oi := { dst := some 27, op := Op.move (Operand.tmp 4), type := 28, pos := _, after := #[{ on := 4, ground := Ground.guard }], guard := some (4, true) }) (v := ?_) [] rfl (by kernel_rfl) (by kernel_rfl) (by kernel_rfl) (by kernel_rfl) (by kernel_rfl) (by kernel_rfl) (fun _ _ _ h => h) (Or.inl ⟨by rfl, ?_⟩) ⟨m7, j7⟩ ?_
    rotate_left 1
    · intro w hSw
      try dsimp only at hSw
      go_simp
      first | done | with_reducible rfl
    try simp only [Act.put, List.setIfInBounds_toArray, List.set_cons_zero, List.set_cons_succ]
    refine Lt.wpAnyL_take (i := 6) (oi := { dst := some 28, op := Op.binOp BinOp.eql 28 (Operand.tmp 27) (Operand.const (Value.int IntKind.i64 0)) 28, type := 4, pos := _, after := #[{ on := 5, ground := Ground.data }, { on := 4, ground := Ground.guard }], guard := some (4, true) }) (v := ?_) [] rfl (by kernel_rfl) (by kernel_rfl) (by kernel_rfl) (by kernel_rfl) (by kernel_rfl) (by kernel_rfl) (fun _ _ _ h => h) (Or.inl ⟨by rfl, ?_⟩) ⟨m7, j7⟩ ?_
    rotate_left 1
    · intro w hSw
      try dsimp only at hSw
      go_simp
      first | done | with_reducible rfl
    try simp only [Act.put, List.setIfInBounds_toArray, List.set_cons_zero, List.set_cons_succ]
    refine Lt.wpAnyL_take (i := 7) (oi := { dst := some 29, op := Op.move (Operand.tmp 6), type := 4, pos := _, after := #[{ on := 4, ground := Ground.guard }], guard := some (4, true) }) (v := ?_) [] rfl (by kernel_rfl) (by kernel_rfl) (by kernel_rfl) (by kernel_rfl) (by kernel_rfl) (by kernel_rfl) (fun _ _ _ h => h) (Or.inl ⟨by rfl, ?_⟩) ⟨m7, j7⟩ ?_
    rotate_left 1
    · intro w hSw
      try dsimp only at hSw
      go_simp
      first | done | with_reducible rfl
    try simp only [Act.put, List.setIfInBounds_toArray, List.set_cons_zero, List.set_cons_succ]
    refine Lt.wpAnyL_take (i := 8) (oi := { dst := some 30, op := Op.binOp BinOp.eql 4 (Operand.tmp 28) (Operand.tmp 29) 4, type := 4, pos := _, after := #[{ on := 6, ground := Ground.data }, { on := 7, ground := Ground.data }, { on := 4, ground := Ground.guard }], guard := some (4, true) }) (v := ?_) [] rfl (by kernel_rfl) (by kernel_rfl) (by kernel_rfl) (by kernel_rfl) (by kernel_rfl) (by kernel_rfl) (fun _ _ _ h => h) (Or.inl ⟨by rfl, ?_⟩) ⟨m7, j7⟩ ?_
    rotate_left 1
    · intro w hSw
      try dsimp only at hSw
      go_simp
      first | done | with_reducible rfl
    try simp only [Act.put, List.setIfInBounds_toArray, List.set_cons_zero, List.set_cons_succ]
    refine Lt.wpAnyL_take (i := 9) (oi := { dst := some 31, op := Op.pick (Operand.tmp 26) (Operand.tmp 30) (Operand.const (Value.bool false)), type := 4, pos := _, after := #[{ on := 4, ground := Ground.data }, { on := 8, ground := Ground.data }], guard := Option.none }) (v := ?_) [] rfl (by kernel_rfl) (by kernel_rfl) (by kernel_rfl) (by kernel_rfl) (by kernel_rfl) (by kernel_rfl) (fun _ _ _ h => h) (Or.inl ⟨by rfl, ?_⟩) ⟨m7, j7⟩ ?_
    rotate_left 1
    · intro w hSw
      try dsimp only at hSw
      go_simp
      first | done | with_reducible rfl
    try simp only [Act.put, List.setIfInBounds_toArray, List.set_cons_zero, List.set_cons_succ]
    refine Lt.wpAnyL_take (i := 10) (oi := { dst := some 32, op := Op.move (Operand.tmp 31), type := 4, pos := _, after := #[{ on := 9, ground := Ground.data }, { on := 4, ground := Ground.chain }], guard := Option.none }) (v := ?_) [] rfl (by kernel_rfl) (by kernel_rfl) (by kernel_rfl) (by kernel_rfl) (by kernel_rfl) (by kernel_rfl) (fun _ _ _ h => h) (Or.inl ⟨by rfl, ?_⟩) ⟨m7, j7⟩ ?_
    rotate_left 1
    · intro w hSw
      try dsimp only at hSw
      go_simp
      first | done | with_reducible rfl
    try simp only [Act.put, List.setIfInBounds_toArray, List.set_cons_zero, List.set_cons_succ]
    refine Lt.wpAnyL_take (i := 11) (oi := { dst := some 33, op := Op.move (Operand.tmp 6), type := 4, pos := _, after := #[{ on := 10, ground := Ground.guard }], guard := some (10, true) }) (v := ?_) [] rfl (by kernel_rfl) (by kernel_rfl) (by kernel_rfl) (by kernel_rfl) (by kernel_rfl) (by kernel_rfl) (fun _ _ _ h => h) (Or.inl ⟨by rfl, ?_⟩) ⟨m7, j7⟩ ?_
    rotate_left 1
    · intro w hSw
      try dsimp only at hSw
      go_simp
      first | done | with_reducible rfl
    try simp only [Act.put, List.setIfInBounds_toArray, List.set_cons_zero, List.set_cons_succ]
    refine Lt.wpAnyL_take (i := 12) (oi := { dst := some 34, op := Op.move (Operand.tmp 33), type := 4, pos := _, after := #[{ on := 11, ground := Ground.data }, { on := 10, ground := Ground.chain }, { on := 10, ground := Ground.guard }], guard := some (10, true) }) (v := ?_) [] rfl (by kernel_rfl) (by kernel_rfl) (by kernel_rfl) (by kernel_rfl) (by kernel_rfl) (by kernel_rfl) (fun _ _ _ h => h) (Or.inl ⟨by rfl, ?_⟩) ⟨m7, j7⟩ ?_
    rotate_left 1
    · intro w hSw
      try dsimp only at hSw
      go_simp
      first | done | with_reducible rfl
    try simp only [Act.put, List.setIfInBounds_toArray, List.set_cons_zero, List.set_cons_succ]
    refine Lt.wpAnyL_take (i := 13) (oi := { dst := some 35, op := Op.move (Operand.tmp 4), type := 28, pos := _, after := #[{ on := 12, ground := Ground.guard }], guard := some (12, false) }) (v := undef) [] rfl (by kernel_rfl) (by kernel_rfl) (by kernel_rfl) (by kernel_rfl) (by kernel_rfl) (by kernel_rfl) (fun _ _ _ h => h) (Or.inr ⟨by rfl, rfl⟩) ⟨m7, j7⟩ ?_
    try simp only [Act.put, List.setIfInBounds_toArray, List.set_cons_zero, List.set_cons_succ]
    refine Lt.wpAnyL_take (i := 14) (oi := { dst := some 36, op := Op.binOp BinOp.eql 28 (Operand.tmp 35) (Operand.const (Value.int IntKind.i64 4)) 28, type := 4, pos := _, after := #[{ on := 13, ground := Ground.data }, { on := 12, ground := Ground.guard }], guard := some (12, false) }) (v := undef) [] rfl (by kernel_rfl) (by kernel_rfl) (by kernel_rfl) (by kernel_rfl) (by kernel_rfl) (by kernel_rfl) (fun _ _ _ h => h) (Or.inr ⟨by rfl, rfl⟩) ⟨m7, j7⟩ ?_
    try simp only [Act.put, List.setIfInBounds_toArray, List.set_cons_zero, List.set_cons_succ]
    refine Lt.wpAnyL_take (i := 15) (oi := { dst := some 37, op := Op.pick (Operand.tmp 34) (Operand.const (Value.bool true)) (Operand.tmp 36), type := 4, pos := _, after := #[{ on := 12, ground := Ground.data }, { on := 14, ground := Ground.data }, { on := 10, ground := Ground.guard }], guard := some (10, true) }) (v := ?_) [] rfl (by kernel_rfl) (by kernel_rfl) (by kernel_rfl) (by kernel_rfl) (by kernel_rfl) (by kernel_rfl) (fun _ _ _ h => h) (Or.inl ⟨by rfl, ?_⟩) ⟨m7, j7⟩ ?_
    rotate_left 1
    · intro w hSw
      try dsimp only at hSw
      go_simp
      first | done | with_reducible rfl
    try simp only [Act.put, List.setIfInBounds_toArray, List.set_cons_zero, List.set_cons_succ]
    refine Lt.wpAnyL_take (i := 16) (oi := { dst := some 38, op := Op.pick (Operand.tmp 32) (Operand.tmp 37) (Operand.const (Value.bool false)), type := 4, pos := _, after := #[{ on := 10, ground := Ground.data }, { on := 15, ground := Ground.data }], guard := Option.none }) (v := ?_) [] rfl (by kernel_rfl) (by kernel_rfl) (by kernel_rfl) (by kernel_rfl) (by kernel_rfl) (by kernel_rfl) (fun _ _ _ h => h) (Or.inl ⟨by rfl, ?_⟩) ⟨m7, j7⟩ ?_
    rotate_left 1
    · intro w hSw
      try dsimp only at hSw
      go_simp
      first | done | with_reducible rfl
    try simp only [Act.put, List.setIfInBounds_toArray, List.set_cons_zero, List.set_cons_succ]
    refine Lt.wpAnyL_take (i := 17) (oi := { dst := some 39, op := Op.move (Operand.tmp 38), type := 4, pos := _, after := #[{ on := 16, ground := Ground.data }, { on := 12, ground := Ground.chain }], guard := Option.none }) (v := ?_) [] rfl (by kernel_rfl) (by kernel_rfl) (by kernel_rfl) (by kernel_rfl) (by kernel_rfl) (by kernel_rfl) (fun _ _ _ h => h) (Or.inl ⟨by rfl, ?_⟩) ⟨m7, j7⟩ ?_
    rotate_left 1
    · intro w hSw
      try dsimp only at hSw
      go_simp
      first | done | with_reducible rfl
    try simp only [Act.put, List.setIfInBounds_toArray, List.set_cons_zero, List.set_cons_succ]
    refine Lt.wpAnyL_next (i := 18) (by kernel_rfl) rfl (fun K hK => ?_)
    go_simp
    go_at_call 14
    refine haw.mono ?_
    rintro e w8 ⟨rfl, hb8⟩
    obtain ⟨m8, -⟩ := six_cells (Y7.out.next hb8).bx
    obtain ⟨j8, -⟩ := six_cells (Z7.out.next hb8).bx
    have HB8 := Lib.hid (HB7.out.trans (hb8.mono HB7.out.size))
    clear hb8
    refine hK.out _ _ (fun _ => ⟨m8, j8⟩) ?_
    clear hK K
    try simp only [Act.put, List.setIfInBounds_toArray, List.set_cons_zero, List.set_cons_succ]
    refine Lt.wpAnyL_take (i := 19) (oi := { dst := some 41, op := Op.pick (Operand.tmp 39) (Operand.tmp 40) (Operand.const (Value.bool false)), type := 4, pos := _, after := #[{ on := 17, ground := Ground.data }, { on := 18, ground := Ground.data }], guard := Option.none }) (v := ?_) [] rfl (by kernel_rfl) (by kernel_rfl) (by kernel_rfl) (by kernel_rfl) (by kernel_rfl) (by kernel_rfl) (fun _ _ _ h => h) (Or.inl ⟨by rfl, ?_⟩) ⟨m8, j8⟩ ?_
    rotate_left 1
    · intro w hSw
      try dsimp only at hSw
      go_simp
      first | done | with_reducible rfl
    try simp only [Act.put, List.setIfInBounds_toArray, List.set_cons_zero, List.set_cons_succ]
    refine Lt.wpAnyL_take (i := 20) (oi := { dst := some 2, op := Op.assign (Operand.tmp 41), type := 4, pos := _, after := #[{ on := 19, ground := Ground.data }, { on := 18, ground := Ground.chain }, { on := 0, ground := Ground.phase }, { on := 1, ground := Ground.phase }, { on := 2, ground := Ground.phase }, { on := 3, ground := Ground.phase }, { on := 4, ground := Ground.phase }, { on := 5, ground := Ground.phase }, { on := 6, ground := Ground.phase }, { on := 7, ground := Ground.phase }, { on := 8, ground := Ground.phase }, { on := 9, ground := Ground.phase }, { on := 10, ground := Ground.phase }, { on := 11, ground := Ground.phase }, { on := 12, ground := Ground.phase }, { on := 13, ground := Ground.phase }, { on := 14, ground := Ground.phase }, { on := 15, ground := Ground.phase }, { on := 16, ground := Ground.phase }, { on := 17, ground := Ground.phase }, { on := 18, ground := Ground.phase }, { on := 19, ground := Ground.phase }], guard := Option.none }) (v := ?_) [] rfl (by kernel_rfl) (by kernel_rfl) (by kernel_rfl) (by kernel_rfl) (by kernel_rfl) (by kernel_rfl) (fun _ _ _ h => h) (Or.inl ⟨by rfl, ?_⟩) ⟨m8, j8⟩ ?_
    rotate_left 1
    · intro w hSw
      try dsimp only at hSw
      go_simp
      first | done | with_reducible rfl
    try simp only [Act.put, List.setIfInBounds_toArray, List.set_cons_zero, List.set_cons_succ]
    refine Lt.wpAnyL_done (by kernel_rfl) ?_ _
    refine NoPanic.normal ?_
    go_wp2_with fail
    go_ret
    exact ⟨rfl, HB8.out⟩
  · subst hE0
    rw [hF0]
    clear hF0 HE
    go_wp2_with fail
    go_region_held3 (fun w' => (w'.cell? ⟨w2.heap.size, 0, Option.none⟩ = some (.string R.out) ∧ w'.cell? ⟨w2.heap.size, 1, Option.none⟩ = some (.string R.cmd) ∧ w'.cell? ⟨w2.heap.size, 2, Option.none⟩ = some (.int .i64 R.time) ∧ w'.cell? ⟨w2.heap.size, 3, Option.none⟩ = some (.int .i64 R.mark) ∧ w'.cell? ⟨w2.heap.size, 4, Option.none⟩ = some (.slice va R.ins.length vc) ∧ w'.cell? ⟨w2.heap.size, 5, Option.none⟩ = some (.slice va' R.found.length vc')) ∧
        (w'.cell? ⟨w4.heap.size, 0, Option.none⟩ = some (.string R.out) ∧ w'.cell? ⟨w4.heap.size, 1, Option.none⟩ = some (.string R.cmd) ∧ w'.cell? ⟨w4.heap.size, 2, Option.none⟩ = some (.int .i64 R.time) ∧ w'.cell? ⟨w4.heap.size, 3, Option.none⟩ = some (.int .i64 R.mark) ∧ w'.cell? ⟨w4.heap.size, 4, Option.none⟩ = some (.slice ua R.ins.length uc) ∧ w'.cell? ⟨w4.heap.size, 5, Option.none⟩ = some (.slice ua' R.found.length uc')))
      (first | exact ⟨⟨c0, c1', c2, c3, c4, c5⟩, ⟨k0, k1, k2, k3, k4, k5⟩⟩ | exact ⟨m6, j6⟩ | exact ⟨m7, j7⟩ | exact ⟨m8, j8⟩ | fail)
      (first
        | (go_at_call 18; (with_reducible refine hto.mono ?_); rintro e w6 ⟨ti, tf, rfl, ti6, tf6, hb6⟩; have hb6' : Below W5.heap.size W5 w6 := below_of_drew hb6; have Y6 := Lib.hid (Y5.out.next hb6'); have Z6 := Lib.hid (Z5.out.next hb6'); have HB6 := Lib.hid (HB5.out.trans (hb6'.mono HB5.out.size)); obtain ⟨m6, -⟩ := six_cells Y6.out.bx; obtain ⟨j6, -⟩ := six_cells Z6.out.bx; have hsa := same_c (r := R) (q := R) hfi hff ti6 tf6 Z6.out.ins Z6.out.fds; rw [sameB_yes rfl] at hsa; unfold runC at hsa; clear hb6 hb6' ti6 tf6)
        | (go_at_call 17; (with_reducible refine hsa.mono ?_); rintro e w7 ⟨rfl, hb7⟩; have Y7 := Lib.hid (Y6.out.next hb7); have Z7 := Lib.hid (Z6.out.next hb7); have HB7 := Lib.hid (HB6.out.trans (hb7.mono HB6.out.size)); obtain ⟨m7, -⟩ := six_cells Y7.out.bx; obtain ⟨j7, -⟩ := six_cells Z7.out.bx; have haw := awake_c w7; clear hb7)
        | (go_at_call 14; (with_reducible refine haw.mono ?_); rintro e w8 ⟨rfl, hb8⟩; obtain ⟨m8, -⟩ := six_cells (Y7.out.next hb8).bx; obtain ⟨j8, -⟩ := six_cells (Z7.out.next hb8).bx; have HB8 := Lib.hid (HB7.out.trans (hb8.mono HB7.out.size)); clear hb8))
    go_wp2_with fail
    go_ret
    exact ⟨rfl, HB8.out⟩
end Go.Proofs.Ytmhmoaokmfplpaa.Rn
