/-
  A ROW OF NUMBERS THAT THE CALL OWNS: sort.IntSlice's methods.
-/
import Derived.Test.YtbflodefmookiaaGrOrder
import Derived.Test.YtbflodefmookiaaRgHold
import Derived.Test.YtbflodefmookiaaRows
import Derived.WalkKit
import Derived.WalkLawsBesides
import Derived.WalkMore
import Derived.Lib.Hide
import Derived.OpenShut
import Derived.Laws.AppendOwnNone
import Derived.Deep.QuietTactic
import Derived.BigQuiet
import Derived.Deep.RegionHeld3
import Derived.Laws.OwnMore
import Derived.RegionTactic
import Derived.Maps.AppendAt
namespace Go.Proofs.Ytbflodefmookiaa.Gr
open Go.RowKit Go.Proofs.Ytbflodefmookiaa

def intV (H : List Nat) : List Value := H.map fun (n : Nat) => Value.int .i64 (n : Int)
theorem intV_len (H : List Nat) : (intV H).length = H.length := by simp [intV]
theorem intV_at {H : List Nat} {k : Nat} (hk : k < H.length) : (intV H)[k]? = some (.int .i64 (H.getD k 0 : Int)) := by simp [intV, hk]
theorem intV_set (H : List Nat) (k v : Nat) : (intV H).set k (.int .i64 (v : Int)) = intV (H.set k v) := by simp [intV, List.map_set]
/-- numbers in a row of the call's own -/
def RowI (w : World) (base : Nat) (v : Value) (H : List Nat) : Prop := (∃ a c, v = .slice a H.length c) ∧ w.ownsRow base 3 1 v H.length (intV H)
theorem RowI.addr {w : World} {base : Nat} {v : Value} {H : List Nat} (h : RowI w base v H) (h0 : 0 < H.length) : ∃ g c, v = .slice (some ⟨g, 0, none⟩) H.length c ∧ base ≤ g ∧ g < w.heap.size := by
  rcases h.2.2 with ⟨_, e⟩ | ⟨g, cap, cur, e, hb, hc, _⟩
  · omega
  · exact ⟨g, cap, e, hb, (Array.getElem?_eq_some_iff.1 hc).1⟩

theorem len_c {w : World} {a : Option Addr} {n c : Nat} : Calls Try.prog 47 #[.slice a n c] w fun e w' => e = .returned (.int .i64 n) ∧ w = w' := by
  go_enter Try.func47, Try.ntmps47
  go_wp2_with fail
  go_ret
  exact ⟨rfl, rfl⟩

set_option maxRecDepth 100000 in
set_option maxHeartbeats 4000000 in
theorem less_c {w : World} {base : Nat} {v : Value} {H : List Nat} {i j : Nat} (h : RowI w base v H) (hi : i < H.length) (hj : j < H.length) :
    Calls Try.prog 115 #[v, .int .i64 i, .int .i64 j] w fun e w' => e = .returned (.bool (decide (H.getD i 0 < H.getD j 0))) ∧ ∃ q, w' = w.drewN q := by
  obtain ⟨g, c, rfl, _, _⟩ := h.addr (by omega)
  have ci : w.cell? ⟨g, i, none⟩ = some (.int .i64 (H.getD i 0 : Int)) := (h.2.cellAt i (by omega)).trans (intV_at hi)
  have cj : w.cell? ⟨g, j, none⟩ = some (.int .i64 (H.getD j 0 : Int)) := (h.2.cellAt j (by omega)).trans (intV_at hj)
  have hd : decide ((H.getD i 0 : Int) < (H.getD j 0 : Int)) = decide (H.getD i 0 < H.getD j 0) := decide_eq_decide.2 (by omega)
  generalize H.getD i 0 = x at *
  generalize H.getD j 0 = y at *
  have i0 : (0 : Int) ≤ (i : Int) := by omega
  have i1 : (i : Int) < (H.length : Int) := by omega
  have j0 : (0 : Int) ≤ (j : Int) := by omega
  have j1 : (j : Int) < (H.length : Int) := by omega
  clear h
  go_enter Try.func115, Try.ntmps115
  go_wp2_with fail
  go_quiet (fail)
  go_wp2
  go_ret
  exact ⟨by first | rfl | rw [← hd]; rfl | simp [← hd], _, rfl⟩

/-- what stands but for one block -/
structure But (p : Option Nat) (w w' : World) : Prop where
  os : w'.os = w.os
  tape : w'.tape = w.tape
  output : w'.output = w.output
  size : w.heap.size ≤ w'.heap.size
  block : ∀ k, k < w.heap.size → p ≠ some k → w'.heap[k]? = w.heap[k]?

set_option maxRecDepth 100000 in
set_option maxHeartbeats 8000000 in
theorem swap_c {w : World} {base : Nat} {v : Value} {H : List Nat} {i j : Nat} (h : RowI w base v H) (hi : i < H.length) (hj : j < H.length) :
    Calls Try.prog 117 #[v, .int .i64 i, .int .i64 j] w fun e w' => (∃ z, e = .returned z) ∧ RowI w' base v (sw H i j) ∧ But v.ownBlock w w' := by
  obtain ⟨g, c, rfl, hbg, hgl⟩ := h.addr (by omega)
  have hD : w.drew.ownsRow base 3 1 (.slice (some ⟨g, 0, none⟩) H.length c) H.length (intV H) := h.2
  have S0 : w.drew.cell? ⟨g, i, none⟩ = some (.int .i64 (H.getD i 0 : Int)) ∧ w.drew.cell? ⟨g, j, none⟩ = some (.int .i64 (H.getD j 0 : Int)) := ⟨(hD.cellAt i (by omega)).trans (intV_at hi), (hD.cellAt j (by omega)).trans (intV_at hj)⟩
  obtain ⟨h1, g1⟩ := hD.stored i (.int .i64 (H.getD j 0 : Int))
  rw [intV_set] at h1
  obtain ⟨h2, g2⟩ := h1.stored j (.int .i64 (H.getD i 0 : Int))
  rw [intV_set] at h2
  have f0 : w.drew.frozen? ⟨g, i, none⟩ = false := hD.frozenAt i
  have f1 : (w.drew.setCell ⟨g, i, none⟩ (.int .i64 (H.getD j 0 : Int))).frozen? ⟨g, j, none⟩ = false := h1.frozenAt j
  have f2 : w.frozen? ⟨g, i, none⟩ = false := f0
  have f3 : w.frozen? ⟨g, j, none⟩ = false := hD.frozenAt j
  obtain ⟨u, cu⟩ : ∃ u, (w.drew.setCell ⟨g, i, none⟩ (.int .i64 (H.getD j 0 : Int))).cell? ⟨g, j, none⟩ = some u := ⟨_, (h1.cellAt j (by simpa using hj)).trans (intV_at (by simpa using hj))⟩
  have cu2 : (w.setCell ⟨g, i, none⟩ (.int .i64 (H.getD j 0 : Int))).cell? ⟨g, j, none⟩ = some u := cu
  have f4 : (w.setCell ⟨g, i, none⟩ (.int .i64 (H.getD j 0 : Int))).frozen? ⟨g, j, none⟩ = false := f1
  have hfin : RowI ((w.drew.setCell ⟨g, i, none⟩ (.int .i64 (H.getD j 0 : Int))).setCell ⟨g, j, none⟩ (.int .i64 (H.getD i 0 : Int))) base (.slice (some ⟨g, 0, none⟩) H.length c) (sw H i j) ∧ But (some g) w ((w.drew.setCell ⟨g, i, none⟩ (.int .i64 (H.getD j 0 : Int))).setCell ⟨g, j, none⟩ (.int .i64 (H.getD i 0 : Int))) := by
    refine ⟨⟨⟨_, _, by rw [sw_len]⟩, by rw [sw_len]; exact h2⟩, ?_⟩
    exact ⟨g2.os.trans g1.os, g2.tape.trans g1.tape, g2.output.trans g1.output, Nat.le_trans g1.size g2.size, fun k hk hne => (g2.block k (Nat.lt_of_lt_of_le hk g1.size) (fun e => hne e.symm)).trans (g1.block k hk (fun e => hne e.symm))⟩
  generalize H.getD i 0 = x at *
  generalize H.getD j 0 = y at *
  have i0 : (0 : Int) ≤ (i : Int) := by omega
  have i1 : (i : Int) < (H.length : Int) := by omega
  have j0 : (0 : Int) ≤ (j : Int) := by omega
  have j1 : (j : Int) < (H.length : Int) := by omega
  have HFIN := Lib.hid hfin
  clear h hD h1 h2 g1 g2 hfin
  go_enter Try.func117, Try.ntmps117
  go_wp2_with fail
  refine Nt.wp_region_N 13 (fun w' => w'.cell? ⟨g, i, none⟩ = some (.int .i64 x) ∧ w'.cell? ⟨g, j, none⟩ = some (.int .i64 y)) (by kernel_rfl) ?_
  refine Nt.takeT (i := 0) (oi := { dst := some 6, op := Op.move (Operand.tmp 0), type := 91, pos := _, after := #[], guard := Option.none }) (v := ?_) rfl (by kernel_rfl) (by kernel_rfl) (by kernel_rfl) (by kernel_rfl) (fun _ _ _ h => h) (Or.inl ⟨by rfl, ?_⟩) (fun _ => S0) ?_
  rotate_left 1
  · intro w hSw
    try dsimp only at hSw
    go_simp
    first | done | with_reducible rfl
  try simp only [Act.put, List.setIfInBounds_toArray, List.set_cons_zero, List.set_cons_succ]
  refine Nt.takeT (i := 1) (oi := { dst := some 7, op := Op.move (Operand.tmp 1), type := 3, pos := _, after := #[], guard := Option.none }) (v := ?_) rfl (by kernel_rfl) (by kernel_rfl) (by kernel_rfl) (by kernel_rfl) (fun _ _ _ h => h) (Or.inl ⟨by rfl, ?_⟩) (fun _ => S0) ?_
  rotate_left 1
  · intro w hSw
    try dsimp only at hSw
    go_simp
    first | done | with_reducible rfl
  try simp only [Act.put, List.setIfInBounds_toArray, List.set_cons_zero, List.set_cons_succ]
  refine Nt.takeT (i := 2) (oi := { dst := some 8, op := Op.move (Operand.tmp 0), type := 91, pos := _, after := #[{ on := 13, ground := Ground.gcOnly Departure.lateStores }], guard := Option.none }) (v := ?_) rfl (by kernel_rfl) (by kernel_rfl) (by kernel_rfl) (by kernel_rfl) (fun _ _ _ h => h) (Or.inl ⟨by rfl, ?_⟩) (fun _ => S0) ?_
  rotate_left 1
  · intro w hSw
    try dsimp only at hSw
    go_simp
    first | done | with_reducible rfl
  try simp only [Act.put, List.setIfInBounds_toArray, List.set_cons_zero, List.set_cons_succ]
  refine Nt.takeT (i := 3) (oi := { dst := some 9, op := Op.move (Operand.tmp 2), type := 3, pos := _, after := #[{ on := 13, ground := Ground.gcOnly Departure.lateStores }], guard := Option.none }) (v := ?_) rfl (by kernel_rfl) (by kernel_rfl) (by kernel_rfl) (by kernel_rfl) (fun _ _ _ h => h) (Or.inl ⟨by rfl, ?_⟩) (fun _ => S0) ?_
  rotate_left 1
  · intro w hSw
    try dsimp only at hSw
    go_simp
    first | done | with_reducible rfl
  try simp only [Act.put, List.setIfInBounds_toArray, List.set_cons_zero, List.set_cons_succ]
  refine Nt.takeT (i := 4) (oi := { dst := some 10, op := Op.move (Operand.tmp 0), type := 91, pos := _, after := #[], guard := Option.none }) (v := ?_) rfl (by kernel_rfl) (by kernel_rfl) (by kernel_rfl) (by kernel_rfl) (fun _ _ _ h => h) (Or.inl ⟨by rfl, ?_⟩) (fun _ => S0) ?_
  rotate_left 1
  · intro w hSw
    try dsimp only at hSw
    go_simp
    first | done | with_reducible rfl
  try simp only [Act.put, List.setIfInBounds_toArray, List.set_cons_zero, List.set_cons_succ]
  refine Nt.takeT (i := 5) (oi := { dst := some 11, op := Op.move (Operand.tmp 2), type := 3, pos := _, after := #[], guard := Option.none }) (v := ?_) rfl (by kernel_rfl) (by kernel_rfl) (by kernel_rfl) (by kernel_rfl) (fun _ _ _ h => h) (Or.inl ⟨by rfl, ?_⟩) (fun _ => S0) ?_
  rotate_left 1
  · intro w hSw
    try dsimp only at hSw
    go_simp
    first | done | with_reducible rfl
  try simp only [Act.put, List.setIfInBounds_toArray, List.set_cons_zero, List.set_cons_succ]
  refine Nt.takeT (i := 6) (oi := { dst := some 12, op := Op.indexAddr 91 (Operand.tmp 10) (Operand.tmp 11), type := 0, pos := _, after := #[{ on := 4, ground := Ground.data }, { on := 5, ground := Ground.data }], guard := Option.none }) (v := ?_) rfl (by kernel_rfl) (by kernel_rfl) (by kernel_rfl) (by kernel_rfl) (fun _ _ _ h => h) (Or.inl ⟨by rfl, ?_⟩) (fun _ => S0) ?_
  rotate_left 1
  · intro w hSw
    try dsimp only at hSw
    go_simp
    first | done | with_reducible rfl
  try simp only [Act.put, List.setIfInBounds_toArray, List.set_cons_zero, List.set_cons_succ]
  refine Nt.takeS (i := 7) (oi := { dst := some 13, op := Op.load 3 (Operand.tmp 12), type := 3, pos := _, after := #[{ on := 6, ground := Ground.data }], guard := Option.none }) (v := ?_) rfl (by kernel_rfl) (by kernel_rfl) (by kernel_rfl) (by kernel_rfl) (by kernel_rfl) (by kernel_rfl) (fun _ _ _ h => h) (Or.inl ⟨by rfl, ?_⟩) S0 ?_
  rotate_left 1
  · intro w hSw
    try dsimp only at hSw
    go_simp
    first | done | with_reducible rfl
  try simp only [Act.put, List.setIfInBounds_toArray, List.set_cons_zero, List.set_cons_succ]
  refine Nt.takeT (i := 8) (oi := { dst := some 14, op := Op.move (Operand.tmp 0), type := 91, pos := _, after := #[], guard := Option.none }) (v := ?_) rfl (by kernel_rfl) (by kernel_rfl) (by kernel_rfl) (by kernel_rfl) (fun _ _ _ h => h) (Or.inl ⟨by rfl, ?_⟩) (fun _ => S0) ?_
  rotate_left 1
  · intro w hSw
    try dsimp only at hSw
    go_simp
    first | done | with_reducible rfl
  try simp only [Act.put, List.setIfInBounds_toArray, List.set_cons_zero, List.set_cons_succ]
  refine Nt.takeT (i := 9) (oi := { dst := some 15, op := Op.move (Operand.tmp 1), type := 3, pos := _, after := #[], guard := Option.none }) (v := ?_) rfl (by kernel_rfl) (by kernel_rfl) (by kernel_rfl) (by kernel_rfl) (fun _ _ _ h => h) (Or.inl ⟨by rfl, ?_⟩) (fun _ => S0) ?_
  rotate_left 1
  · intro w hSw
    try dsimp only at hSw
    go_simp
    first | done | with_reducible rfl
  try simp only [Act.put, List.setIfInBounds_toArray, List.set_cons_zero, List.set_cons_succ]
  refine Nt.takeT (i := 10) (oi := { dst := some 16, op := Op.indexAddr 91 (Operand.tmp 14) (Operand.tmp 15), type := 0, pos := _, after := #[{ on := 8, ground := Ground.data }, { on := 9, ground := Ground.data }], guard := Option.none }) (v := ?_) rfl (by kernel_rfl) (by kernel_rfl) (by kernel_rfl) (by kernel_rfl) (fun _ _ _ h => h) (Or.inl ⟨by rfl, ?_⟩) (fun _ => S0) ?_
  rotate_left 1
  · intro w hSw
    try dsimp only at hSw
    go_simp
    first | done | with_reducible rfl
  try simp only [Act.put, List.setIfInBounds_toArray, List.set_cons_zero, List.set_cons_succ]
  refine Nt.takeS (i := 11) (oi := { dst := some 17, op := Op.load 3 (Operand.tmp 16), type := 3, pos := _, after := #[{ on := 10, ground := Ground.data }], guard := Option.none }) (v := ?_) rfl (by kernel_rfl) (by kernel_rfl) (by kernel_rfl) (by kernel_rfl) (by kernel_rfl) (by kernel_rfl) (fun _ _ _ h => h) (Or.inl ⟨by rfl, ?_⟩) S0 ?_
  rotate_left 1
  · intro w hSw
    try dsimp only at hSw
    go_simp
    first | done | with_reducible rfl
  try simp only [Act.put, List.setIfInBounds_toArray, List.set_cons_zero, List.set_cons_succ]
  refine Nt.takeT (i := 12) (oi := { dst := some 18, op := Op.indexAddr 91 (Operand.tmp 6) (Operand.tmp 7), type := 0, pos := _, after := #[{ on := 0, ground := Ground.data }, { on := 1, ground := Ground.data }, { on := 0, ground := Ground.phase }, { on := 1, ground := Ground.phase }, { on := 2, ground := Ground.textOnly Departure.lateStores }, { on := 3, ground := Ground.textOnly Departure.lateStores }, { on := 4, ground := Ground.phase }, { on := 5, ground := Ground.phase }, { on := 6, ground := Ground.phase }, { on := 7, ground := Ground.phase }, { on := 8, ground := Ground.textOnly Departure.lateStores }, { on := 9, ground := Ground.textOnly Departure.lateStores }, { on := 10, ground := Ground.textOnly Departure.lateStoresUnsure }, { on := 11, ground := Ground.phase }], guard := Option.none }) (v := ?_) rfl (by kernel_rfl) (by kernel_rfl) (by kernel_rfl) (by kernel_rfl) (fun _ _ _ h => h) (Or.inl ⟨by rfl, ?_⟩) (fun _ => S0) ?_
  rotate_left 1
  · intro w hSw
    try dsimp only at hSw
    go_simp
    first | done | with_reducible rfl
  try simp only [Act.put, List.setIfInBounds_toArray, List.set_cons_zero, List.set_cons_succ]
  refine Nt.nextN (i := 13) (by kernel_rfl) rfl (fun K hK => ?_)
  go_simp
  refine hK.out _ _ (fun h => by simp at h) ?_
  clear hK K
  try simp only [Act.put, List.setIfInBounds_toArray, List.set_cons_zero, List.set_cons_succ]
  refine Nt.nextN (i := 14) (by kernel_rfl) rfl (fun K hK => ?_)
  go_simp
  refine hK.out _ _ (fun h => by simp at h) ?_
  clear hK K
  try simp only [Act.put, List.setIfInBounds_toArray, List.set_cons_zero, List.set_cons_succ]
  refine Nt.nextN (i := 15) (by kernel_rfl) rfl (fun K hK => ?_)
  go_simp
  refine hK.out _ _ (fun h => by simp at h) ?_
  clear hK K
  try simp only [Act.put, List.setIfInBounds_toArray, List.set_cons_zero, List.set_cons_succ]
  refine Nt.doneN (by kernel_rfl) ?_ _
  go_wp2_with fail
  go_end0
  exact ⟨⟨_, rfl⟩, HFIN.out⟩
end Go.Proofs.Ytbflodefmookiaa.Gr
