/-
  BLOCKS LAID ONE BEHIND THE OTHER; rows of names, numbers and edges that are typed in the text.
-/
import Derived.Test.YtbflodefmookiaaGrNum
namespace Go.Proofs.Ytbflodefmookiaa.Gr
open Go.RowKit Go.Maps Go.Proofs.Ytbflodefmookiaa Go.Proofs.Ytbflodefmookiaa.Pr

def allocs (w : World) (os : List Obj) : World := os.foldl (fun W o => W.alloc o) w
theorem allocs_below (os : List Obj) : ∀ w : World, Below w.heap.size w (allocs w os) := by
  induction os with
  | nil => exact fun w => Below.refl _ w
  | cons o os ih => exact fun w => (below_alloc w o).trans ((ih (w.alloc o)).mono (below_alloc w o).size)
theorem allocs_size (os : List Obj) : ∀ w : World, (allocs w os).heap.size = w.heap.size + os.length := by
  induction os with
  | nil => exact fun w => rfl
  | cons o os ih =>
    intro w
    show (allocs (w.alloc o) os).heap.size = _
    rw [ih, World.size_alloc, List.length_cons]
    omega
theorem allocs_get (os : List Obj) : ∀ (w : World) (i : Nat) (o : Obj), os[i]? = some o → (allocs w os).heap[w.heap.size + i]? = some o := by
  induction os with
  | nil => exact fun w i o h => by cases h
  | cons p os ih =>
    intro w i o h
    show (allocs (w.alloc p) os).heap[_]? = _
    cases i with
    | zero =>
      cases h
      rw [(allocs_below os (w.alloc p)).block _ (by rw [World.size_alloc]; omega)]
      exact heap_alloc_new w p
    | succ i =>
      have := ih (w.alloc p) i o h
      rw [World.size_alloc] at this
      rw [show w.heap.size + (i + 1) = w.heap.size + 1 + i by omega]
      exact this
theorem strs_blk {W : World} {b : Nat} {K : List Bs} {C : Array Value} (h : W.heap[b]? = some (.cells C 9 (0, 0))) (hC : C = (K.map fun s => Value.string (mk s)).toArray) : Strs W (.slice (some ⟨b, 0, none⟩) K.length K.length) K := by
  refine ⟨_, _, rfl, Nat.le_refl _, .inr ⟨b, 0, rfl, lt_some h, fun j p hp => ?_⟩⟩
  rw [Nat.zero_add]
  have h2 : C[j]? = some (.string (mk p)) := by rw [hC]; simp [hp]
  simp only [World.cell?, h]
  exact h2
theorem strs_none (W : World) : Strs W (.slice none 0 0) [] := ⟨_, _, rfl, Nat.le_refl _, .inl rfl⟩
theorem ints_blk {W : World} {b : Nat} {M : List Nat} {C : Array Value} (h : W.heap[b]? = some (.cells C 3 (0, 0))) (hC : C = (intV M).toArray) : IntR W (.slice (some ⟨b, 0, none⟩) M.length M.length) M := by
  refine ⟨_, _, rfl, .inr ⟨b, 0, rfl, lt_some h, fun j p hp => ?_⟩⟩
  rw [Nat.zero_add]
  have h2 : C[j]? = some (.int .i64 (p : Int)) := by rw [hC]; simp [intV, hp]
  simp only [World.cell?, h]
  exact h2
section
variable {W : World} {b : Nat} {x y z : Ed} {a0 a1 a2 a3 b0 b1 b2 b3 c0 c1 c2 c3 : Value}
theorem eds_one (h : W.heap[b]? = some (.cells #[a0, a1, a2, a3, .string (mk x.cmd), .string (mk x.dep)] 52 (0, 0))) (hx : EdV W x a0 a1 a2 a3) : Eds W (.slice (some ⟨b, 0, none⟩) 1 1) [x] := by
  refine ⟨_, _, rfl, Nat.le_refl _, .inr ⟨b, 0, rfl, lt_some h, fun j e he => ?_⟩⟩
  rcases j with _ | j
  · cases he
    exact ⟨_, _, _, _, hx, by rw [Lib.cell_of_heap h]; rfl, by rw [Lib.cell_of_heap h]; rfl, by rw [Lib.cell_of_heap h]; rfl, by rw [Lib.cell_of_heap h]; rfl, by rw [Lib.cell_of_heap h]; rfl, by rw [Lib.cell_of_heap h]; rfl⟩
  · cases he
theorem eds_two (h : W.heap[b]? = some (.cells #[a0, a1, a2, a3, .string (mk x.cmd), .string (mk x.dep), b0, b1, b2, b3, .string (mk y.cmd), .string (mk y.dep)] 52 (0, 0))) (hx : EdV W x a0 a1 a2 a3) (hy : EdV W y b0 b1 b2 b3) :
    Eds W (.slice (some ⟨b, 0, none⟩) 2 2) [x, y] := by
  refine ⟨_, _, rfl, Nat.le_refl _, .inr ⟨b, 0, rfl, lt_some h, fun j e he => ?_⟩⟩
  rcases j with _ | _ | j
  · cases he
    exact ⟨_, _, _, _, hx, by rw [Lib.cell_of_heap h]; rfl, by rw [Lib.cell_of_heap h]; rfl, by rw [Lib.cell_of_heap h]; rfl, by rw [Lib.cell_of_heap h]; rfl, by rw [Lib.cell_of_heap h]; rfl, by rw [Lib.cell_of_heap h]; rfl⟩
  · cases he
    exact ⟨_, _, _, _, hy, by rw [Lib.cell_of_heap h]; rfl, by rw [Lib.cell_of_heap h]; rfl, by rw [Lib.cell_of_heap h]; rfl, by rw [Lib.cell_of_heap h]; rfl, by rw [Lib.cell_of_heap h]; rfl, by rw [Lib.cell_of_heap h]; rfl⟩
  · cases he
theorem eds_three (h : W.heap[b]? = some (.cells #[a0, a1, a2, a3, .string (mk x.cmd), .string (mk x.dep), b0, b1, b2, b3, .string (mk y.cmd), .string (mk y.dep), c0, c1, c2, c3, .string (mk z.cmd), .string (mk z.dep)] 52 (0, 0))) (hx : EdV W x a0 a1 a2 a3) (hy : EdV W y b0 b1 b2 b3) (hz : EdV W z c0 c1 c2 c3) :
    Eds W (.slice (some ⟨b, 0, none⟩) 3 3) [x, y, z] := by
  refine ⟨_, _, rfl, Nat.le_refl _, .inr ⟨b, 0, rfl, lt_some h, fun j e he => ?_⟩⟩
  rcases j with _ | _ | _ | j
  · cases he
    exact ⟨_, _, _, _, hx, by rw [Lib.cell_of_heap h]; rfl, by rw [Lib.cell_of_heap h]; rfl, by rw [Lib.cell_of_heap h]; rfl, by rw [Lib.cell_of_heap h]; rfl, by rw [Lib.cell_of_heap h]; rfl, by rw [Lib.cell_of_heap h]; rfl⟩
  · cases he
    exact ⟨_, _, _, _, hy, by rw [Lib.cell_of_heap h]; rfl, by rw [Lib.cell_of_heap h]; rfl, by rw [Lib.cell_of_heap h]; rfl, by rw [Lib.cell_of_heap h]; rfl, by rw [Lib.cell_of_heap h]; rfl, by rw [Lib.cell_of_heap h]; rfl⟩
  · cases he
    exact ⟨_, _, _, _, hz, by rw [Lib.cell_of_heap h]; rfl, by rw [Lib.cell_of_heap h]; rfl, by rw [Lib.cell_of_heap h]; rfl, by rw [Lib.cell_of_heap h]; rfl, by rw [Lib.cell_of_heap h]; rfl, by rw [Lib.cell_of_heap h]; rfl⟩
  · cases he
end
theorem rising_eq {A B : List Nat} (hA : A.Pairwise (· < ·)) (hB : B.Pairwise (· < ·)) (h : ∀ x, x ∈ A ↔ x ∈ B) : A = B := by
  have nA : A.Nodup := hA.imp fun h => Nat.ne_of_lt h
  have nB : B.Nodup := hB.imp fun h => Nat.ne_of_lt h
  refine List.Perm.eq_of_pairwise (le := (· < ·)) (fun a b _ _ h1 h2 => by omega) hA hB ((List.perm_ext_iff_of_nodup nA nB).2 h)
end Go.Proofs.Ytbflodefmookiaa.Gr
