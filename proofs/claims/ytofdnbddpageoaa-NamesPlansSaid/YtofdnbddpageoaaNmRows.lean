/-
  ROWS OF RECORDS OF ONE's OWN.
-/
import Derived.Test.YtofdnbddpageoaaNmMem
import Derived.Deep.AppendLies
namespace Go.Proofs.Ytofdnbddpageoaa.Nm
open Go.RowKit Go.Maps

/-- rows of bytes of the call's own, none of which lies in block o -/
def Rows (base : Nat) (o : Option Nat) (w : World) (v : Value) (rs : List (List Nat)) : Prop :=
  ∃ vs : List Value, w.ownsRow base 32 1 v rs.length vs ∧ ∀ (j : Nat) (r : List Nat), rs[j]? = some r → ∃ u, vs[j]? = some u ∧ w.ownsRow base 5 1 u r.length (Pk.bytesV r) ∧ ∀ k, u.ownBlock = some k → o ≠ some k

section
variable {w w' : World} {base base' : Nat} {o o' : Option Nat} {v : Value} {rs : List (List Nat)}
theorem rows_nil (base : Nat) (o : Option Nat) (w : World) : Rows base o w (.slice Option.none 0 0) [] := ⟨[], World.ownsRow_nil _ _ _ _, fun j r hj => by simp at hj⟩
theorem Rows.val (h : Rows base o w v rs) : ∃ a c, v = .slice a rs.length c := by
  obtain ⟨vs, h, _⟩ := h
  exact own_slice h
theorem Rows.mono (h : Rows base o w v rs) (hb : base' ≤ base) : Rows base' o w v rs := by
  obtain ⟨vs, h1, h2⟩ := h
  refine ⟨vs, owns_base h1 hb, fun j r hj => ?_⟩
  obtain ⟨u, h3, h4, h5⟩ := h2 j r hj
  exact ⟨u, h3, owns_base h4 hb, h5⟩
theorem Rows.keptBy (h : Rows base o w v rs) (hb : ∀ k, base ≤ k → k < w.heap.size → w'.heap[k]? = w.heap[k]?) : Rows base o w' v rs := by
  obtain ⟨vs, h1, h2⟩ := h
  refine ⟨vs, owns_kept h1 fun k hk => hb k (h1.lt k hk).1 (h1.lt k hk).2, fun j r hj => ?_⟩
  obtain ⟨u, h3, h4, h5⟩ := h2 j r hj
  exact ⟨u, h3, owns_kept h4 fun k hk => hb k (h4.lt k hk).1 (h4.lt k hk).2, h5⟩
theorem Rows.below (h : Rows base o w v rs) (hb : Below w.heap.size w w') : Rows base o w' v rs := h.keptBy fun k _ hk => hb.block k hk

/-- no row lies in a block that is not there yet -/
theorem Rows.avoid (h : Rows base o w v rs) (ho : ∀ k, o' = some k → w.heap.size ≤ k) : Rows base o' w v rs := by
  obtain ⟨vs, h1, h2⟩ := h
  refine ⟨vs, h1, fun j r hj => ?_⟩
  obtain ⟨u, h3, h4, _⟩ := h2 j r hj
  exact ⟨u, h3, h4, fun k hk e => by have := ho k e; have := (h4.lt k hk).2; omega⟩

theorem infoRow : (Try.prog.info? 32).map (fun i => (i.zero, i.size, i.bytes)) = some (some (.slice Option.none 0 0), 1, 24) := by kernel_rfl

/-- a record more -/
theorem rows_app {a : Option Addr} {c : Nat} {u : Value} {r : List Nat} (h : Rows base o w (.slice a rs.length c) rs) (hu : w.ownsRow base' 5 1 u r.length (Pk.bytesV r)) (hbb : base ≤ base') (hbs : base ≤ w.heap.size) (hn : rs.length ≤ 1000000) (huo' : ∀ k, u.ownBlock = some k → o ≠ some k) :
    ∃ a' c' w', (Builtin.append_ #[22, 22] 22 #[.slice a rs.length c, .slice (some ⟨w.heap.size, 0, Option.none⟩) 1 1]).run Try.prog (w.alloc (.cells #[u] 32)) = .ok (.slice a' (rs.length + 1) c') w' ∧ Rows base o w' (.slice a' (rs.length + 1) c') (rs ++ [r]) ∧
      (w.alloc (.cells #[u] 32)).grownBy w' (Value.slice a rs.length c).ownBlock := by
  obtain ⟨i0, hi, hz0, hz1, hz2⟩ := info_parts infoRow
  obtain ⟨vs, h1, h2⟩ := h
  obtain ⟨w1, hw1⟩ : ∃ W, w.alloc (.cells #[u] 32) = W := ⟨_, rfl⟩
  have hb1 : Below w.heap.size w w1 := by rw [← hw1]; exact Pk.below_alloc _ _
  have e1 : w1.heap[w.heap.size]? = some (.cells #[u] 32 (0, 0)) := by rw [← hw1]; exact heap_alloc_new _ _
  rw [hw1]
  have h11 := owns_kept (w' := w1) h1 fun k hk => hb1.block k (h1.lt k hk).2
  have huo : ∀ x ∈ [u], x.oneCell' = true := by
    intro x hx
    rw [List.mem_singleton] at hx
    subst hx
    obtain ⟨ua, uc, rfl⟩ := own_slice hu
    rfl
  obtain ⟨v', w', hrun, hown, hg, _⟩ := run_append_own (P := Try.prog) w1 base 22 22 32 i0 (.slice Option.none 0 0) 1 24 Try.underlying22 hi hz0 hz1 hz2 rfl (by decide) _ _ vs h11 ⟨w.heap.size, 0, Option.none⟩ 1 1 [u] rfl (World.news_of_block (cs := #[u]) e1) huo (by unfold maxLen; omega) (by omega) (by have := hb1.size; omega)
  obtain ⟨a', c', rfl⟩ := own_slice hown
  have hg5 : ∀ (k : Nat) (v : Value) (n : Nat) (xs : List Value) (b : Nat), w1.ownsRow b 5 1 v n xs → v.ownBlock = some k → w'.heap[k]? = w1.heap[k]? := by
    intro k v n xs b hv hk
    refine hg.block k (hv.lt k hk).2 fun e => ?_
    obtain ⟨_, cur, hc⟩ := owns_block hv hk
    obtain ⟨_, cur2, hc2⟩ := owns_block h11 e.symm
    exact ne_type hc hc2 (by decide) rfl
  refine ⟨a', c', w', hrun, ⟨vs ++ [u], ?_, fun j x hj => ?_⟩, hg⟩
  · rw [List.length_append]
    exact hown
  · have hvl : vs.length = rs.length := by have := h1.1; omega
    by_cases hjl : j < rs.length
    · rw [List.getElem?_append_left hjl] at hj
      obtain ⟨y, h3, h4, h5⟩ := h2 j x hj
      have h4' := owns_kept (w' := w1) h4 fun k hk => hb1.block k (h4.lt k hk).2
      exact ⟨y, by rw [List.getElem?_append_left (by omega)]; exact h3, owns_kept h4' fun k hk => hg5 k _ _ _ _ h4' hk, h5⟩
    · rw [List.getElem?_append_right (by omega)] at hj
      have hj0 : j - rs.length = 0 := by
        have := (List.getElem?_eq_some_iff.1 hj).1
        simp at this
        omega
      rw [hj0] at hj
      simp at hj
      subst hj
      have hu' := owns_kept (w' := w1) hu fun k hk => hb1.block k (hu.lt k hk).2
      exact ⟨u, by rw [List.getElem?_append_right (by omega), hvl, hj0]; rfl, owns_base (owns_kept hu' fun k hk => hg5 k _ _ _ _ hu' hk) hbb, huo'⟩
end
end Go.Proofs.Ytofdnbddpageoaa.Nm
