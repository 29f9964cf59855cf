/-
  WHAT New HOLDS: the graph that grows.
-/
import Derived.Test.YtbflodefmookiaaGrEdge
namespace Go.Proofs.Ytbflodefmookiaa.Pr
open Go.RowKit Go.Proofs.Ytbflodefmookiaa Go.Proofs.Ytbflodefmookiaa.Df
/-- an edge laid behind edges of the call's own: what else turns -/
theorem push_e2 {W : World} {base : Nat} {v : Value} {L : List Ed} {e : Ed} {v0 v1 v2 v3 : Value} {q : Nat} (h : OwnE W base v L) (hbw : base ≤ W.heap.size) (hL : L.length ≤ 1000000) (hE : EdT W e v0 v1 v2 v3) (s0 : v0.oneCell' = true) (s1 : v1.oneCell' = true) (s2 : v2.oneCell' = true) (s3 : v3.oneCell' = true)
    (hq : W.heap[q]? = some (.cells #[v0, v1, v2, v3, .string (mk e.cmd), .string (mk e.dep)] 52 (0, 0))) :
    ∃ a' c' W', (Builtin.append_ #[31, 31] 31 #[v, .slice (some ⟨q, 0, none⟩) 1 1]).run Try.prog W = .ok (.slice a' (L.length + 1) c') W' ∧ OwnE W' base (.slice a' (L.length + 1) c') (L ++ [e]) ∧ Below base W W' ∧
      (∀ (g : Nat) C t fr, t ≠ 52 → W.heap[g]? = some (.cells C t fr) → W'.heap[g]? = some (.cells C t fr)) ∧ W.grownBy W' v.ownBlock ∧ ∀ g, v.ownBlock = some g → ∃ C, W.heap[g]? = some (.cells C 52 (0, 0)) := by
  obtain ⟨LL, rfl, ⟨a, c, rfl⟩, h3, h4⟩ := h
  obtain ⟨i0, hi, hz0, hz1, hz2⟩ := info_parts infoEdge
  have hlen : (LL.map E5.e).length = LL.length := by simp
  obtain ⟨v', w', hrun, hown, hg, _, ho⟩ := run_append_own_at (P := Try.prog) W base 31 31 52 i0 zEdge 6 128 Try.underlying31 hi hz0 hz1 hz2 rfl (by decide) _ _ (ecells LL) h3 ⟨q, 0, none⟩ 1 1 (cells5 ⟨e, v0, v1, v2, v3⟩) rfl (fun j u hj => by
      rw [Go.WideShapes.add_plain]
      match j, hj with
      | 0, hj => cases hj; exact (Lib.cell_of_heap hq 0).trans rfl
      | 1, hj => cases hj; exact (Lib.cell_of_heap hq 1).trans rfl
      | 2, hj => cases hj; exact (Lib.cell_of_heap hq 2).trans rfl
      | 3, hj => cases hj; exact (Lib.cell_of_heap hq 3).trans rfl
      | 4, hj => cases hj; exact (Lib.cell_of_heap hq 4).trans rfl
      | 5, hj => cases hj; exact (Lib.cell_of_heap hq 5).trans rfl) (fun u hu => by
        simp [cells5] at hu
        rcases hu with rfl | rfl | rfl | rfl | rfl | rfl
        · exact s0
        · exact s1
        · exact s2
        · exact s3
        · rfl
        · rfl) (by unfold maxLen; omega) (by omega) hbw
  have hkind : ∀ g, (Value.slice a (LL.map E5.e).length c).ownBlock = some g → base ≤ g ∧ ∃ C, W.heap[g]? = some (.cells C 52 (0, 0)) := fun g hg => owns_block h3 hg
  have hkeep : ∀ (g : Nat) C t fr, t ≠ 52 → W.heap[g]? = some (.cells C t fr) → w'.heap[g]? = some (.cells C t fr) := fun g C t fr ht hb => by
    rw [hg.block g (lt_some hb) fun e => ?_]
    · exact hb
    · obtain ⟨_, C2, h2⟩ := hkind g e.symm
      rw [hb] at h2
      cases h2
      exact ht rfl
  obtain ⟨a', c', rfl⟩ : ∃ a' c', v' = .slice a' ((LL.map E5.e).length + 1) c' := by
    rcases hown.2 with ⟨e, h0⟩ | ⟨g, cap, cur, e, _⟩
    · omega
    · exact ⟨_, _, e⟩
  refine ⟨a', c', w', hrun, ⟨LL ++ [⟨e, v0, v1, v2, v3⟩], by simp, ⟨a', c', by simp⟩, ?_, fun p hp => ?_⟩, ?_, hkeep, hg, fun g hgo => (hkind g hgo).2⟩
  · have e1 : (LL.map E5.e ++ [e]).length = (LL.map E5.e).length + 1 := by simp
    rw [ecells_snoc, e1]
    exact hown
  · have hk : ∀ (g : Nat) C fr, W.heap[g]? = some (.cells C 9 fr) → w'.heap[g]? = W.heap[g]? := fun g C fr hb => (hkeep g C _ fr (by decide) hb).trans hb.symm
    rcases List.mem_append.1 hp with hp | hp
    · exact (h4 p hp).keepT hk
    · simp at hp
      subst hp
      exact hE.keepT hk
  · exact ⟨hg.os, hg.tape, hg.output, hg.size, fun k hk => hg.block k (by omega) fun e => by
      have := (hkind k e.symm).1
      omega⟩
end Go.Proofs.Ytbflodefmookiaa.Pr
namespace Go.Proofs.Ytbflodefmookiaa.Gr
open Go.RowKit Go.Maps Go.Proofs.Ytbflodefmookiaa Go.Proofs.Ytbflodefmookiaa.Pr

structure Nw (w0 w : World) (gp mm : Nat) (vb ve vd va : Value) (L : List Ed) (D : List Bs) (A : List Nat) (mkr : Bs → Option Nat) (k : Nat) : Prop where
  box : w.heap[gp]? = some (.cells #[vb, vd, .map (some mm)] 70 (0, 0))
  own : OwnE w w0.heap.size ve L
  df : StrsT w vd D
  mks : MvS w k mm fun x => (mkr x).map fun (k : Nat) => Value.int .i64 (k : Int)
  al : RowI w w0.heap.size va A
  bel : Below w0.heap.size w0 w
  gg : w0.heap.size ≤ gp
  gm : w0.heap.size ≤ mm
section
variable {w0 w w' : World} {gp mm k : Nat} {vb ve vd va : Value} {L : List Ed} {D : List Bs} {A : List Nat} {mkr : Bs → Option Nat}
theorem MvS.map {w : World} {n m : Nat} {g : Bs → Option Value} (h : MvS w n m g) : ∃ es c, w.heap[m]? = some (.map es c) := by obtain ⟨f, h1, h2⟩ := h; exact h1.map
theorem RowI.below {base : Nat} {v : Value} {H : List Nat} (h : RowI w base v H) (hb : Below w.heap.size w w') : RowI w' base v H := h.keepT fun g C _ hc => hb.block g (lt_some hc)
theorem Nw.below (h : Nw w0 w gp mm vb ve vd va L D A mkr k) (hb : Below w.heap.size w w') : Nw w0 w' gp mm vb ve vd va L D A mkr k :=
  ⟨(hb.block _ (lt_some h.box)).trans h.box, h.own.below hb, h.df.below hb, h.mks.kept (hb.block _ h.mks.lt), h.al.below hb, h.bel.trans (hb.mono h.bel.size), h.gg, h.gm⟩
/-- an output is made by edge x -/
theorem Nw.maker (h : Nw w0 w gp mm vb ve vd va L D A mkr k) (hk : k < maxLen) {s : Bs} (hs : s.length ≤ maxLen) (x : Nat) :
    ∃ w', (Instr.mapUpdate 68 (.map (some mm)) (.string (Go.Proofs.Ytbflodefmookiaa.mk s)) (.int .i64 (x : Int))).run Try.prog w = .ok () w' ∧ Nw w0 w' gp mm vb ve vd va L D A (fun y => if y = s then some x else mkr y) (k + 1) ∧ ∀ (g : Nat) C t fr, w.heap[g]? = some (.cells C t fr) → w'.heap[g]? = w.heap[g]? := by
  obtain ⟨f, h1, h2⟩ := h.mks
  obtain ⟨w', hrun, h3, h4, h5⟩ := h1.put lawS Try.underlying68 hk (keyS hs) (.int .i64 (x : Int))
  obtain ⟨es, c, hm⟩ := h.mks.map
  have hcl : ∀ (g : Nat) C t fr, w.heap[g]? = some (.cells C t fr) → w'.heap[g]? = w.heap[g]? := fun g C t fr hc => h4.block g (lt_some hc) fun e => by
    have := Option.some.inj e
    subst this
    rw [hm] at hc
    cases hc
  refine ⟨w', hrun, ⟨(hcl _ _ _ _ h.box).trans h.box, h.own.keepT (fun g C fr hg => hcl g _ _ _ hg) (fun g C fr hg => hcl g _ _ _ hg), h.df.keepT fun g C fr hg => hcl g _ _ _ hg, ⟨_, h3, fun y => ?_⟩, h.al.keepT fun g C _ hc => hcl g _ _ _ hc, h.bel.trans ⟨h4.os, h4.tape, h4.output, h4.size, fun g hg => h4.block g (by have := h.bel.size; omega) fun e => ?_⟩, h.gg, h.gm⟩, hcl⟩
  · show _ = (if y = s then some x else mkr y).map fun (k : Nat) => Value.int .i64 (k : Int)
    by_cases e : y = s
    · subst e
      rw [updL_same, if_pos rfl]
      rfl
    · have hne : Lit.string y ≠ Lit.string s := fun e2 => e (by injection e2)
      rw [updL_ne _ _ hne, h2, if_neg e]
  · have h1 := Option.some.inj e
    have h2 := h.gm
    omega
/-- one edge more, which is not stored yet -/
theorem Nw.edge (h : Nw w0 w gp mm vb ve vd va L D A mkr k) (hL : L.length ≤ 1000000) {e : Ed} {v0 v1 v2 v3 : Value} {q : Nat} (hE : EdT w e v0 v1 v2 v3) (s0 : v0.oneCell' = true) (s1 : v1.oneCell' = true) (s2 : v2.oneCell' = true) (s3 : v3.oneCell' = true)
    (hq : w.heap[q]? = some (.cells #[v0, v1, v2, v3, .string (Go.Proofs.Ytbflodefmookiaa.mk e.cmd), .string (Go.Proofs.Ytbflodefmookiaa.mk e.dep)] 52 (0, 0))) :
    ∃ a' c' w', (Builtin.append_ #[31, 31] 31 #[ve, .slice (some ⟨q, 0, none⟩) 1 1]).run Try.prog w = .ok (.slice a' (L.length + 1) c') w' ∧ Nw w0 w' gp mm vb (.slice a' (L.length + 1) c') vd va (L ++ [e]) D A mkr k ∧ w.grownBy w' ve.ownBlock := by
  obtain ⟨a', c', w', hrun, h1, h2, h3, h4, h5⟩ := push_e2 h.own h.bel.size hL hE s0 s1 s2 s3 hq
  obtain ⟨es, c, hm⟩ := h.mks.map
  have hT : ∀ (g : Nat) C t fr, t ≠ 52 → w.heap[g]? = some (.cells C t fr) → w'.heap[g]? = w.heap[g]? := fun g C t fr ht hc => (h3 g C t fr ht hc).trans hc.symm
  refine ⟨a', c', w', hrun, ⟨(hT _ _ _ _ (by decide) h.box).trans h.box, h1, h.df.keepT fun g C fr hg => hT g _ _ _ (by decide) hg, h.mks.kept (h4.block _ h.mks.lt fun e2 => ?_), h.al.keepT fun g C _ hc => hT g _ _ _ (by decide) hc, h.bel.trans h2, h.gg, h.gm⟩, h4⟩
  obtain ⟨C, hc⟩ := h5 _ e2.symm
  rw [hm] at hc
  cases hc
/-- one number more -/
theorem Nw.num (h : Nw w0 w gp mm vb ve vd va L D A mkr k) (hl : A.length ≤ 1000000) {x q : Nat} (hq : w.heap[q]? = some (.cells #[.int .i64 (x : Int)] 3 (0, 0))) :
    ∃ a' c' w', (Builtin.append_ #[37, 37] 37 #[va, .slice (some ⟨q, 0, none⟩) 1 1]).run Try.prog w = .ok (.slice a' (A ++ [x]).length c') w' ∧ Nw w0 w' gp mm vb ve vd (.slice a' (A ++ [x]).length c') L D (A ++ [x]) mkr k ∧ ∀ (g : Nat) C t fr, t ≠ 3 → w.heap[g]? = some (.cells C t fr) → w'.heap[g]? = w.heap[g]? := by
  obtain ⟨a', c', w', hrun, hr, hg, ho⟩ := run_pushI Try.underlying37 h.al h.bel.size hl hq
  obtain ⟨es, c, hm⟩ := h.mks.map
  have hkind : ∀ g, va.ownBlock = some g → w0.heap.size ≤ g ∧ ∃ C, w.heap[g]? = some (.cells C 3 (0, 0)) := fun g hg => owns_block h.al.2 hg
  have hT : ∀ (g : Nat) C t fr, t ≠ 3 → w.heap[g]? = some (.cells C t fr) → w'.heap[g]? = w.heap[g]? := fun g C t fr ht hc => hg.block g (lt_some hc) fun e => by
    obtain ⟨_, C2, h2⟩ := hkind g e.symm
    rw [hc] at h2
    cases h2
    exact ht rfl
  refine ⟨a', c', w', hrun, ⟨(hT _ _ _ _ (by decide) h.box).trans h.box, h.own.keepT (fun g C fr hg => hT g _ _ _ (by decide) hg) (fun g C fr hg => hT g _ _ _ (by decide) hg), h.df.keepT fun g C fr hg => hT g _ _ _ (by decide) hg, h.mks.kept (hg.block _ h.mks.lt fun e2 => ?_), hr, h.bel.trans ⟨hg.os, hg.tape, hg.output, hg.size, fun g hk => hg.block g (by have := h.bel.size; omega) fun e => ?_⟩, h.gg, h.gm⟩, hT⟩
  · obtain ⟨_, C, hc⟩ := hkind _ e2.symm
    rw [hm] at hc
    cases hc
  · have := (hkind _ e.symm).1
    omega
/-- the edges are stored -/
theorem Nw.store (h : Nw w0 w gp mm vb ve vd va L D A mkr k) : Nw w0 (w.setCell ⟨gp, 0, none⟩ ve) gp mm ve ve vd va L D A mkr k ∧ KeepT w (w.setCell ⟨gp, 0, none⟩ ve) := by
  obtain ⟨es, c, hm⟩ := h.mks.map
  have hT : ∀ (g : Nat) C t fr, t ≠ 70 → w.heap[g]? = some (.cells C t fr) → (w.setCell ⟨gp, 0, none⟩ ve).heap[g]? = w.heap[g]? := fun g C t fr ht hc => set_other fun e => by
    subst e
    rw [h.box] at hc
    simp only [Option.some.injEq, Obj.cells.injEq] at hc
    exact ht hc.2.1.symm
  refine ⟨⟨?_, h.own.keepT (fun g C fr hg => hT g _ _ _ (by decide) hg) (fun g C fr hg => hT g _ _ _ (by decide) hg), h.df.keepT fun g C fr hg => hT g _ _ _ (by decide) hg, h.mks.kept (set_other fun e => ?_), h.al.keepT fun g C _ hc => hT g _ _ _ (by decide) hc, h.bel.setCell (p := ⟨gp, 0, none⟩) h.gg ve, h.gg, h.gm⟩, fun g C b hc => hT g _ _ _ (by decide) hc⟩
  · have := set_block (j := 0) (u := ve) h.box
    simpa using this
  · rw [e, h.box] at hm
    cases hm
theorem Nw.cells (h : Nw w0 w gp mm vb ve vd va L D A mkr k) : w.cell? ⟨gp, 0, none⟩ = some vb ∧ w.cell? ⟨gp, 1, none⟩ = some vd ∧ w.cell? ⟨gp, 2, none⟩ = some (.map (some mm)) ∧ w.frozen? ⟨gp, 0, none⟩ = false := by
  refine ⟨?_, ?_, ?_, ?_⟩ <;> (simp [World.cell?, World.frozen?, h.box])
theorem Nw.drew (h : Nw w0 w gp mm vb ve vd va L D A mkr k) : Nw w0 w.drew gp mm vb ve vd va L D A mkr k := h.below (Below.drew (Below.refl _ _))
theorem Nw.lt (h : Nw w0 w gp mm vb ve vd va L D A mkr k) {g : Nat} (hg : ve.ownBlock = some g) : g < w.heap.size := by
  obtain ⟨LL, _, _, h3, _⟩ := h.own
  obtain ⟨_, C, hc⟩ := owns_block h3 hg
  exact lt_some hc
theorem Nw.ne_int (h : Nw w0 w gp mm vb ve vd va L D A mkr k) {q : Nat} {C : Array Value} (hq : w.heap[q]? = some (.cells C 3 (0, 0))) : ve.ownBlock ≠ some q := fun e => by
  obtain ⟨LL, _, _, h3, _⟩ := h.own
  obtain ⟨_, C2, hc⟩ := owns_block h3 e
  rw [hq] at hc
  simp only [Option.some.injEq, Obj.cells.injEq] at hc
  exact absurd hc.2.1 (by decide)
theorem Nw.sl (h : Nw w0 w gp mm vb ve vd va L D A mkr k) : ∃ a c, ve = .slice a L.length c := by
  obtain ⟨LL, rfl, h2, _⟩ := h.own
  exact h2
/-- what New gives back -/
theorem Nw.gph (h : Nw w0 w gp mm ve ve vd va L D A mkr k) (hs : ∀ e ∈ L, Sm e) (hf : L.length ≤ 1000) (ht : ∀ s k, mkr s = some k → k < L.length) : Gph w gp ve vd mm k L D mkr :=
  ⟨h.box, h.own.eds, h.df.1, h.mks, hs, hf, ht⟩
end
end Go.Proofs.Ytbflodefmookiaa.Gr
