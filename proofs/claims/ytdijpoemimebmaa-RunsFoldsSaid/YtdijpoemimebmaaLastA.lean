/-
  A ROW OF RUNS OF THE LAW's OWN, beside the law's box of a run.
-/
import Derived.Test.YtdijpoemimebmaaLastM
import Derived.Test.YtdijpoemimebmaaFdSame
namespace Go.Proofs.Ytdijpoemimebmaa.Rn
open Go.RowKit
open Go.Proofs.Ytdijpoemimebmaa.Cr

structure XA (w W : World) (r : Run) (vi vf : Value) (v : Value) (G : List Gr) : Prop where
  own : W.ownsRow w.heap.size 33 6 v G.length (runV G)
  els : ∀ g ∈ G, GE w.heap.size W g
  bx : W.heap[w.heap.size]? = some (.cells (runC r vi vf) 25 (0, 0))
  bel : Below w.heap.size w W

section
variable {w W W1 : World} {r : Run} {vi vf v vn : Value} {G : List Gr}
theorem XA.next (h : XA w W r vi vf v G) (hb : Below W.heap.size W W1) : XA w W1 r vi vf v G :=
  ⟨owns_below h.own hb, fun g hg => ⟨owns_below (h.els g hg).ins hb, owns_below (h.els g hg).fds hb⟩, (hb.block _ (lt_some h.bx)).trans h.bx, h.bel.trans (hb.mono h.bel.size)⟩

theorem XA.snoc {g : Gr} {ob : Obj} (h : XA w W r vi vf v G) (hg : GE w.heap.size W g) (hgr : (W.alloc ob).grownBy W1 v.ownBlock) (hown : W1.ownsRow w.heap.size 33 6 vn (G.length + 1) (runV G ++ [.string g.1.out, .string g.1.cmd, .int .i64 g.1.time, .int .i64 g.1.mark, g.2.1, g.2.2])) :
    XA w W1 r vi vf vn (G ++ [g]) := by
  have hz : (W.alloc ob).heap.size = W.heap.size + 1 := Array.size_push _
  have hk : ∀ k, k < W.heap.size → v.ownBlock ≠ some k → W1.heap[k]? = W.heap[k]? := fun k hk hv => (hgr.block k (by omega) fun e => hv e.symm).trans (Below.heap_alloc _ _ _ hk)
  have hrow : ∀ {e sz n : Nat} {u : Value} {xs : List Value}, e ≠ 33 → W.ownsRow w.heap.size e sz u n xs → W1.ownsRow w.heap.size e sz u n xs := fun {e sz n u xs} hne hu => owns_kept hu fun k hkk => hk k (hu.lt k hkk).2 fun e2 => by
    obtain ⟨_, c1, x1⟩ := owns_block h.own e2
    obtain ⟨_, c2, x2⟩ := owns_block hu hkk
    exact ne_type x2 x1 hne rfl
  refine ⟨by rw [runV_snoc, List.length_append]; exact hown, fun q hq => ?_, (hk _ (lt_some h.bx) fun e2 => ?_).trans h.bx, h.bel.trans ⟨hgr.os, hgr.tape, hgr.output, by have := hgr.size; omega, fun k hkk => hk k (by have := h.bel.size; omega) fun e2 => by have := (h.own.lt k e2).1; omega⟩⟩
  · rcases List.mem_append.1 hq with hq | hq
    · exact ⟨hrow (by decide) (h.els q hq).ins, hrow (by decide) (h.els q hq).fds⟩
    · rw [List.mem_singleton.1 hq]
      exact ⟨hrow (by decide) hg.ins, hrow (by decide) hg.fds⟩
  · obtain ⟨_, c1, x1⟩ := owns_block h.own e2
    exact ne_type h.bx x1 (by decide) rfl

theorem runV_get : ∀ (G : List Gr) (j : Nat) (g : Gr), G[j]? = some g → (runV G)[j * 6]? = some (.string g.1.out) ∧ (runV G)[j * 6 + 1]? = some (.string g.1.cmd) ∧ (runV G)[j * 6 + 2]? = some (.int .i64 g.1.time) ∧ (runV G)[j * 6 + 3]? = some (.int .i64 g.1.mark) ∧ (runV G)[j * 6 + 4]? = some g.2.1 ∧ (runV G)[j * 6 + 5]? = some g.2.2
  | [], j, g, h => by simp at h
  | z :: M, 0, g, h => by
    obtain rfl : z = g := by simpa using h
    simp [runV]
  | z :: M, j + 1, g, h => by
    have e : runV (z :: M) = [.string z.1.out, .string z.1.cmd, .int .i64 z.1.time, .int .i64 z.1.mark, z.2.1, z.2.2] ++ runV M := by simp [runV]
    have ih := runV_get M j g (by simpa using h)
    rw [e]
    have ee : ∀ t, ([Value.string z.1.out, .string z.1.cmd, .int .i64 z.1.time, .int .i64 z.1.mark, z.2.1, z.2.2] ++ runV M)[(j + 1) * 6 + t]? = (runV M)[j * 6 + t]? := fun t => by
      rw [List.getElem?_append_right (by simp; omega)]
      congr 1
      simp
      omega
    exact ⟨(ee 0).trans ih.1, (ee 1).trans ih.2.1, (ee 2).trans ih.2.2.1, (ee 3).trans ih.2.2.2.1, (ee 4).trans ih.2.2.2.2.1, (ee 5).trans ih.2.2.2.2.2⟩

theorem XA.at (h : XA w W r vi vf v G) : ∃ a c, v = .slice a G.length c ∧ (a = Option.none → c = 0) ∧ G.length ≤ c ∧ (G = [] ∨ ∃ g, a = some ⟨g, 0, Option.none⟩ ∧ g < W.heap.size ∧ ∀ i q, G[i]? = some q → ∃ ai ni ci af nf cf, q.2.1 = .slice ai ni ci ∧ q.2.2 = .slice af nf cf ∧ At W g (i * 6) q.1 (.slice ai ni ci) (.slice af nf cf)) := by
  rcases own_at h.own with ⟨rfl, h0⟩ | ⟨g, cap, rfl, hb, hlt, hle, hc⟩
  · obtain rfl : G = [] := List.eq_nil_of_length_eq_zero h0
    exact ⟨Option.none, 0, rfl, fun _ => rfl, Nat.le_refl _, .inl rfl⟩
  · refine ⟨some ⟨g, 0, Option.none⟩, cap, rfl, (fun e => nomatch e), hle, .inr ⟨g, rfl, hlt, fun i q hq => ?_⟩⟩
    obtain ⟨x0, x1, x2, x3, x4, x5⟩ := runV_get G i q hq
    have he := h.els q (List.mem_of_getElem? hq)
    obtain ⟨ia, ic, e1⟩ := own_slice he.ins
    obtain ⟨fa, fc, e2⟩ := own_slice he.fds
    have hi := inRow_of he.ins
    have hf := fdRow_of he.fds
    rw [e1] at x4 hi
    rw [e2] at x5 hf
    exact ⟨ia, _, ic, fa, _, fc, e1, e2, hc _ _ x0, hc _ _ x1, hc _ _ x2, hc _ _ x3, hc _ _ x4, hc _ _ x5, hi, hf⟩

theorem XA.row (h : XA w W r vi vf v G) : RunRow W v (G.map (·.1)) := by
  obtain ⟨a, c, rfl, h1, h2, h3⟩ := h.at
  refine ⟨a, c, by simp, h1, by simpa using h2, ?_⟩
  rcases h3 with rfl | ⟨g, rfl, hlt, hc⟩
  · exact .inl rfl
  · refine .inr ⟨g, 0, rfl, hlt, fun i x hx => ?_⟩
    rw [List.getElem?_map] at hx
    obtain ⟨q, hq, rfl⟩ := Option.map_eq_some_iff.1 hx
    obtain ⟨ai, ni, ci, af, nf, cf, _, _, hA⟩ := hc i q hq
    rw [Nat.zero_add]
    exact ⟨_, _, hA.c0, hA.c1, hA.c2, hA.c3, hA.c4, hA.c5, hA.ins, hA.fds⟩
end

theorem thin_of {r : Run} (h : lightB r = true) : Thin r := by
  obtain ⟨h1, h2, h3, h4, h5⟩ := light_parts h
  exact ⟨by omega, by omega, by omega, by omega, fun x hx => by have := h5 x hx; omega⟩
end Go.Proofs.Ytdijpoemimebmaa.Rn
