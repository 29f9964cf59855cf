/-
  A ROW OF RUNS OF THE LAW's OWN: parts of it, put together.
-/
import Derived.Test.YtdijpoemimebmaaPartsA
import Derived.Test.YtdijpoemimebmaaFoldM
import Derived.Test.YtdijpoemimebmaaRefWr
import Derived.Sort.Walk0
namespace Go.Proofs.Ytdijpoemimebmaa.Rn
open Go.RowKit
open Go.Proofs.Ytdijpoemimebmaa.Cr

/-- a row of runs of the law's own -/
structure XB (w W : World) (v : Value) (G : List Gr) : Prop where
  own : W.ownsRow w.heap.size 33 6 v G.length (runV G)
  els : ∀ g ∈ G, GE w.heap.size W g
  bel : Below w.heap.size w W

section
variable {w W W1 : World} {v vn : Value} {G : List Gr}
theorem XB.next (h : XB w W v G) (hb : Below W.heap.size W W1) : XB w W1 v G :=
  ⟨owns_below h.own hb, fun g hg => ⟨owns_below (h.els g hg).ins hb, owns_below (h.els g hg).fds hb⟩, h.bel.trans (hb.mono h.bel.size)⟩

theorem XB.snoc {g : Gr} {ob : Obj} (h : XB w W v G) (hg : GE w.heap.size W g) (hgr : (W.alloc ob).grownBy W1 v.ownBlock) (hown : W1.ownsRow w.heap.size 33 6 vn (G.length + 1) (runV G ++ [.string g.1.out, .string g.1.cmd, .int .i64 g.1.time, .int .i64 g.1.mark, g.2.1, g.2.2])) :
    XB w W1 vn (G ++ [g]) := by
  have hz : (W.alloc ob).heap.size = W.heap.size + 1 := Array.size_push _
  have hk : ∀ k, k < W.heap.size → v.ownBlock ≠ some k → W1.heap[k]? = W.heap[k]? := fun k hk hv => (hgr.block k (by omega) fun e => hv e.symm).trans (Below.heap_alloc _ _ _ hk)
  have hrow : ∀ {e sz n : Nat} {u : Value} {xs : List Value}, e ≠ 33 → W.ownsRow w.heap.size e sz u n xs → W1.ownsRow w.heap.size e sz u n xs := fun {e sz n u xs} hne hu => owns_kept hu fun k hkk => hk k (hu.lt k hkk).2 fun e2 => by
    obtain ⟨_, c1, x1⟩ := owns_block h.own e2
    obtain ⟨_, c2, x2⟩ := owns_block hu hkk
    exact ne_type x2 x1 hne rfl
  refine ⟨by rw [runV_snoc, List.length_append]; exact hown, fun q hq => ?_, h.bel.trans ⟨hgr.os, hgr.tape, hgr.output, by have := hgr.size; omega, fun k hkk => hk k (by have := h.bel.size; omega) fun e2 => by have := (h.own.lt k e2).1; omega⟩⟩
  rcases List.mem_append.1 hq with hq | hq
  · exact ⟨hrow (by decide) (h.els q hq).ins, hrow (by decide) (h.els q hq).fds⟩
  · rw [List.mem_singleton.1 hq]
    exact ⟨hrow (by decide) hg.ins, hrow (by decide) hg.fds⟩
end

theorem xb_at {w W : World} {v : Value} {G : List Gr} (h : XB w W v G) : ∃ a c, v = .slice a G.length c ∧ (a = Option.none → c = 0) ∧ G.length ≤ c ∧ (G = [] ∨ ∃ g, a = some ⟨g, 0, Option.none⟩ ∧ g < W.heap.size ∧ ∀ i q, G[i]? = some q → ∃ ai ni ci af nf cf, q.2.1 = .slice ai ni ci ∧ q.2.2 = .slice af nf cf ∧ At W g (i * 6) q.1 (.slice ai ni ci) (.slice af nf cf)) := by
  rcases own_at h.own with ⟨rfl, h0⟩ | ⟨g, cap, rfl, hb, hlt, hle, hc⟩
  · obtain rfl : G = [] := List.eq_nil_of_length_eq_zero h0
    exact ⟨Option.none, 0, rfl, fun _ => rfl, Nat.le_refl _, .inl rfl⟩
  · refine ⟨some ⟨g, 0, Option.none⟩, cap, rfl, (fun e => nomatch e), hle, .inr ⟨g, rfl, hlt, fun i q hq => ?_⟩⟩
    obtain ⟨x0, x1, x2, x3, x4, x5⟩ := runV_get G i q hq
    have he := h.els q (List.mem_of_getElem? hq)
    obtain ⟨ia, ic, e1⟩ := own_slice he.ins
    obtain ⟨fa, fc, e2⟩ := own_slice he.fds
    have hi := inRow_of he.ins
    have hf := fdRow_of he.fds
    rw [e1] at x4 hi
    rw [e2] at x5 hf
    exact ⟨ia, _, ic, fa, _, fc, e1, e2, hc _ _ x0, hc _ _ x1, hc _ _ x2, hc _ _ x3, hc _ _ x4, hc _ _ x5, hi, hf⟩

theorem xb_row {w W : World} {v : Value} {G : List Gr} (h : XB w W v G) : RunRow W v (G.map (·.1)) := by
  obtain ⟨a, c, rfl, h1, h2, h3⟩ := xb_at h
  refine ⟨a, c, by simp, h1, by simpa using h2, ?_⟩
  rcases h3 with rfl | ⟨g, rfl, hlt, hc⟩
  · exact .inl rfl
  · refine .inr ⟨g, 0, rfl, hlt, fun i x hx => ?_⟩
    rw [List.getElem?_map] at hx
    obtain ⟨q, hq, rfl⟩ := Option.map_eq_some_iff.1 hx
    obtain ⟨ai, ni, ci, af, nf, cf, _, _, hA⟩ := hc i q hq
    rw [Nat.zero_add]
    exact ⟨_, _, hA.c0, hA.c1, hA.c2, hA.c3, hA.c4, hA.c5, hA.ins, hA.fds⟩

theorem runV_drop : ∀ (k : Nat) (G : List Gr), runV (G.drop k) = (runV G).drop (k * 6)
  | 0, G => by simp
  | k + 1, [] => by simp [runV]
  | k + 1, g :: G => by
    have e : runV (g :: G) = [.string g.1.out, .string g.1.cmd, .int .i64 g.1.time, .int .i64 g.1.mark, g.2.1, g.2.2] ++ runV G := by simp [runV]
    rw [e, List.drop_succ_cons, runV_drop k G, show (k + 1) * 6 = 6 + k * 6 by omega, ← List.drop_drop]
    rfl

theorem runV_one {G : List Gr} {B : Nat} {W : World} (h : ∀ g ∈ G, GE B W g) : ∀ u ∈ runV G, u.oneCell' = true := fun u hu => by
  unfold runV at hu
  obtain ⟨g, hg, h'⟩ := List.mem_flatMap.1 hu
  obtain ⟨_, _, e1⟩ := own_slice (h g hg).ins
  obtain ⟨_, _, e2⟩ := own_slice (h g hg).fds
  rw [e1, e2] at h'
  simp at h'
  rcases h' with rfl | rfl | rfl | rfl | rfl | rfl <;> rfl

theorem xb_cells {w W : World} {g n c k : Nat} {G : List Gr} (h : XB w W (.slice (some ⟨g, 0, Option.none⟩) n c) G) : ∀ j u, (runV (G.drop k))[j]? = some u → W.cell? ((⟨g, k * 6, Option.none⟩ : Addr).add j) = some u := fun j u hu => by
  rw [runV_drop, List.getElem?_drop] at hu
  rcases own_at h.own with ⟨e, _⟩ | ⟨g', cap, e, _, _, _, hc⟩
  · cases e
  · cases e
    rw [Go.WideShapes.add_plain]
    exact hc _ _ hu

theorem xb_join {w V W1 : World} {v vn : Value} {P M : List Gr} {m : Nat} (hp : XB w V v P) (hM : ∀ q ∈ M, GE w.heap.size V q) (hm : m = M.length) (hgr : V.grownBy W1 v.ownBlock) (hown : W1.ownsRow w.heap.size 33 6 vn (P.length + m) (runV P ++ runV M)) : XB w W1 vn (P ++ M) := by
  have hrow : ∀ {e sz n : Nat} {u : Value} {xs : List Value}, e ≠ 33 → V.ownsRow w.heap.size e sz u n xs → W1.ownsRow w.heap.size e sz u n xs := fun {e sz n u xs} hne hu => owns_kept hu fun k hkk => hgr.block k (hu.lt k hkk).2 fun e2 => by
    obtain ⟨_, c1, x1⟩ := owns_block hp.own e2.symm
    obtain ⟨_, c2, x2⟩ := owns_block hu hkk
    exact ne_type x2 x1 hne rfl
  subst hm
  refine ⟨by rw [runV_app, List.length_append]; exact hown, fun q hq => ?_, hp.bel.trans ⟨hgr.os, hgr.tape, hgr.output, hgr.size, fun k hkk => hgr.block k (by have := hp.bel.size; omega) fun e2 => by have := (hp.own.lt k e2.symm).1; omega⟩⟩
  rcases List.mem_append.1 hq with hq | hq
  · exact ⟨hrow (by decide) (hp.els q hq).ins, hrow (by decide) (hp.els q hq).fds⟩
  · exact ⟨hrow (by decide) (hM q hq).ins, hrow (by decide) (hM q hq).fds⟩

theorem beside_of {w V : World} {u v : Value} {Q : List Gr} (hq : XB w V u Q) (hv : ∀ x, v.ownBlock = some x → V.heap.size ≤ x) : u.ownBlock = Option.none ∨ u.ownBlock ≠ v.ownBlock := by
  cases h : u.ownBlock with
  | none => exact .inl rfl
  | some x =>
    refine .inr fun e => ?_
    have h1 := (hq.own.lt x h).2
    have h2 := hv x e.symm
    omega

theorem xb_beside {w V W1 : World} {v u : Value} {P Q : List Gr} (hp : XB w V v P) (hq : XB w V u Q) (hne : u.ownBlock = Option.none ∨ u.ownBlock ≠ v.ownBlock) (hgr : V.grownBy W1 v.ownBlock) : XB w W1 u Q := by
  have hrow : ∀ {e sz n : Nat} {u : Value} {xs : List Value}, e ≠ 33 → V.ownsRow w.heap.size e sz u n xs → W1.ownsRow w.heap.size e sz u n xs := fun {e sz n u xs} hne hu => owns_kept hu fun k hkk => hgr.block k (hu.lt k hkk).2 fun e2 => by
    obtain ⟨_, c1, x1⟩ := owns_block hp.own e2.symm
    obtain ⟨_, c2, x2⟩ := owns_block hu hkk
    exact ne_type x2 x1 hne rfl
  exact ⟨hq.own.kept hgr hne, fun q hq' => ⟨hrow (by decide) (hq.els q hq').ins, hrow (by decide) (hq.els q hq').fds⟩, hq.bel.trans ⟨hgr.os, hgr.tape, hgr.output, hgr.size, fun k hkk => hgr.block k (by have := hp.bel.size; omega) fun e2 => by have := (hp.own.lt k e2.symm).1; omega⟩⟩

end Go.Proofs.Ytdijpoemimebmaa.Rn
