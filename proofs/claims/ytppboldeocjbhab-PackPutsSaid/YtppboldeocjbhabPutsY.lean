/-
  THE LAW PackPuts, WALKED.
-/
import Derived.Test.YtppboldeocjbhabPutsX
namespace Go.Proofs.Ytppboldeocjbhab
open Go.RowKit

theorem cell_at {w : World} {g i : Nat} {C : Array Value} {t : TypeId} {u : Value} (h : w.heap[g]? = some (.cells C t (0, 0))) (hi : C[i]? = some u) : w.cell? ⟨g, i, none⟩ = some u := by
  simp [World.cell?, h, hi]

theorem made_zero (m j : Nat) (h : j < m) : (madeCells #[.int .u8 0] m)[j]? = some (.int .u8 0) := by
  simp [madeCells, h, Nat.mod_one]

/-- what append(make([]byte, 0, n+k), b...) leaves: b's bytes, and k noughts behind them -/
theorem app_made {w : World} {a : Option Addr} {n cap k : Nat} {l : List Nat} (hn : n = l.length) (hrow : Row w a l) (hnil : a = none → cap = 0) (hkm : n + k ≤ maxLen) :
    ∃ w2, (Builtin.append_ #[22, 22] 22 #[.slice (some ⟨w.heap.size, 0, none⟩) 0 (n + k), .slice a n cap]).run Try.prog (w.alloc (.cells (madeCells #[.int .u8 0] (n + k)) 5)) = .ok (.slice (some ⟨w.heap.size, 0, none⟩) n (n + k)) w2 ∧
      Row w2 (some ⟨w.heap.size, 0, none⟩) l ∧ (∀ j, j < k → w2.cell? ⟨w.heap.size, n + j, none⟩ = some (.int .u8 0)) ∧ w.heap.size < w2.heap.size ∧ Below w.heap.size w w2 := by
  obtain ⟨i0, hi, hz0, hz1, hz2⟩ := info_parts info5
  have hal := heap_alloc_new w (.cells (madeCells #[.int .u8 0] (n + k)) 5)
  cases a with
  | none =>
    obtain rfl : l = [] := by
      rcases hrow with h | ⟨_, _, e, _⟩
      · exact h
      · cases e
    obtain rfl : cap = 0 := hnil rfl
    obtain rfl : n = 0 := hn
    have hown := World.ownsRow_made (base := w.heap.size) (e := 5) (size := 1) w (madeCells #[.int .u8 0] (0 + k)) (0 + k) (Nat.le_refl _) hkm (by simp [size_madeCells])
    exact ⟨_, run_append_owned_none (P := Try.prog) _ w.heap.size 22 22 5 i0 1 Try.underlying22 hi _ 0 [] hown, .inl rfl, fun j hj => cell_at hal (made_zero _ _ (by omega)), by simp, below_alloc _ _⟩
  | some ad =>
    have hl : (bytesV l).length = n * i0.size := by rw [bytesV_length, hz1]; omega
    have h := run_append_room (P := Try.prog) (w.alloc (.cells (madeCells #[.int .u8 0] (n + k)) 5)) 22 22 5 i0 Try.underlying22 hi w.heap.size 0 (n + k) _ hal ad n cap (bytesV l) hl (fun j u hj => cell_keep (row_cells hrow j u hj) _) (one_bytes l) (by omega) (by simp [size_madeCells, bytesV_length]; omega)
    have hg := setRow_heap (w.alloc (.cells (madeCells #[.int .u8 0] (n + k)) 5)) w.heap.size _ (((madeCells #[.int .u8 0] (n + k)).toList.take (0 * i0.size) ++ bytesV l ++ (madeCells #[.int .u8 0] (n + k)).toList.drop (0 * i0.size + (bytesV l).length)).toArray) 5 _ hal
    rw [Nat.zero_add] at h
    refine ⟨_, h, .inr ⟨_, 0, rfl, (Array.getElem?_eq_some_iff.1 hg).1, fun i hi => cell_at hg ?_⟩, fun j hj => cell_at hg ?_, (Array.getElem?_eq_some_iff.1 hg).1, below_setRow (below_alloc _ _) (Nat.le_refl _) _⟩
    · simp only [Nat.zero_mul, List.take_zero, List.nil_append, Nat.zero_add, List.getElem?_toArray]
      rw [List.getElem?_append_left (by rw [bytesV_length]; exact hi)]
      simp [bytesV, hi]
    · have hz := made_zero (n + k) (n + j) (by omega)
      rw [← Array.getElem?_toList] at hz
      simp only [Nat.zero_mul, List.take_zero, List.nil_append, Nat.zero_add, List.getElem?_toArray]
      rw [List.getElem?_append_right (by rw [bytesV_length]; omega), List.getElem?_drop, bytesV_length, ← hn, show n + (n + j - n) = n + j from by omega]
      exact hz

theorem wpList_append_made {w w2 : World} {ops : Array Oper} {rest : List Oper} {o : Oper} {a : Act} {Q : Exit → Act → World → Prop} (hgd : o.guard = none) (s x : Operand)
    (ho : o.op = .call { callee := .builtin .append, args := #[s, x], argTypes := #[22, 22] }) (hty : o.type = 22) (v1 v2 v : Value) (hs : a.eval s = v1) (hx : a.eval x = v2)
    (hrun : (Builtin.append_ #[22, 22] 22 #[v1, v2]).run Try.prog w = .ok v w2) (h : wpList Try.prog ops Q rest (a.put o.dst v) w2) : wpList Try.prog ops Q (o :: rest) a w := by
  refine wpList_plain hgd fun K hK => ?_
  unfold Oper.wp
  simp [execOp, ho, hty, resolve, invoke, builtin, hs, hx, hrun, Result.andThen]
  exact hK _ _ h

end Go.Proofs.Ytppboldeocjbhab
