/-
  WHAT inOrder HOLDS: the heap of those that are ready, and the plan.
-/
import Derived.Test.YtbflodefmookiaaGrIo
import Derived.Test.YtbflodefmookiaaGrPlan
namespace Go.Proofs.Ytbflodefmookiaa.Gr
open Go.RowKit Go.Maps Go.Proofs.Ytbflodefmookiaa Go.Proofs.Ytbflodefmookiaa.Pr
theorem hp_least {H : List Nat} (h : Hp H H.length) : ∀ x ∈ H, H.getD 0 0 ≤ x := fun x hx => by
  obtain ⟨i, hi⟩ := List.getElem?_of_mem hx
  obtain ⟨h1, e⟩ := List.getElem?_eq_some_iff.1 hi
  have := h.min i h1
  have e2 : H.getD i 0 = x := by rw [List.getD_eq_getElem?_getD, hi]; rfl
  omega
/-- what rises is a heap -/
theorem hp_rising {H : List Nat} (h : H.Pairwise (· < ·)) : Hp H H.length := fun k h0 hk => by
  have hp : par k < k := by unfold par; omega
  have h1 := (List.pairwise_iff_getElem.1 h) (par k) k (by omega) hk hp
  rw [List.getD_eq_getElem?_getD, List.getD_eq_getElem?_getD, List.getElem?_eq_getElem hk, List.getElem?_eq_getElem (by omega : par k < H.length)]
  exact Nat.le_of_lt h1
section
variable {w0 w w' : World} {mu mw p : Nat} {F : Nat → Value × List Nat} {wf : Nat → Nat} {cnt : Nat}
theorem Io.lts (h : Io w0 w mu mw p F wf cnt) : mu < w.heap.size ∧ mw < w.heap.size ∧ p < w.heap.size ∧ mu ≠ p ∧ mw ≠ p := by
  obtain ⟨es, c, h1⟩ := h.kindU
  obtain ⟨es2, c2, h2⟩ := h.kindW
  refine ⟨lt_some h1, lt_some h2, lt_some h.box, ?_, ?_⟩
  · rintro rfl; have := h.box; rw [this] at h1; cases h1
  · rintro rfl; have := h.box; rw [this] at h2; cases h2
theorem Io.heap (h : Io w0 w mu mw p F wf cnt) : Hs w w0.heap.size p (F 0).1.ownBlock (F 0).2 :=
  ⟨_, h.box, h.fam.row 0, rfl, fun e => (h.own 0 e).2.2.1 rfl⟩
/-- the heap turned -/
theorem Io.chg (h : Io w0 w mu mw p F wf cnt) {b' : Option Nat} {H' : List Nat} (hs : Hs w' w0.heap.size p b' H') (hc : Chg p (F 0).1.ownBlock b' w w') : ∃ v, Io w0 w' mu mw p (updF F 0 v H') wf cnt := by
  obtain ⟨v, hbox, hrow, hob, hne⟩ := hs
  obtain ⟨l1, l2, l3, l4, l5⟩ := h.lts
  obtain ⟨U, n2, k1, k2, k3⟩ := h.us
  obtain ⟨V, n, h1, h2, h3⟩ := h.ws
  have hou := fun g (hg : (F 0).1.ownBlock = some g) => h.own 0 hg
  refine ⟨v, ⟨⟨U, n2, k1, k2.kept (hc.block _ l1 l4 fun e => (hou _ e).1 rfl), fun d => ?_⟩, ⟨V, n, h1, h2.kept (hc.block _ l2 l5 fun e => (hou _ e).2.1 rfl), h3⟩, h.fam.turn 0 hrow (fun g C hg hne2 => ?_) ?_, ?_, h.bel.trans ⟨hc.os, hc.tape, hc.output, hc.size, fun q hq => ?_⟩, h.gu, h.gw, h.gp, h.ne⟩⟩
  · rw [updF_ne _ _ _ (by omega)]; exact k3 d
  · refine hc.block g (lt_some hg) (fun e => ?_) hne2
    subst e
    have := h.box
    rw [this] at hg
    cases hg
  · rw [hob]
    rcases hc.row with e | ⟨k, e, hk⟩
    · exact .inl e
    · exact .inr ⟨k, e, hk⟩
  · rw [updF_same]; exact hbox
  · have := h.bel.size
    have := h.gp
    refine hc.block q (by omega) (by omega) fun e => ?_
    have := (hou q e).2.2.2.1
    omega
/-- one more that is ready, behind the others -/
theorem Io.addReady (h : Io w0 w mu mw p F wf cnt) {x : Nat} {t : TypeId} (ht : Try.prog.underlying t = some (.slice 3)) (hl : (F 0).2.length ≤ 1000000) {q : Nat} (hq : w.heap[q]? = some (.cells #[.int .i64 (x : Int)] 3 (0, 0))) :
    ∃ a' c' W, (Builtin.append_ #[t, t] t #[(F 0).1, .slice (some ⟨q, 0, none⟩) 1 1]).run Try.prog w = .ok (.slice a' ((F 0).2 ++ [x]).length c') W ∧ W.cell? ⟨p, 0, none⟩ = some (F 0).1 ∧ W.frozen? ⟨p, 0, none⟩ = false ∧
      Io w0 (W.setCell ⟨p, 0, none⟩ (.slice a' ((F 0).2 ++ [x]).length c')) mu mw p (updF F 0 (.slice a' ((F 0).2 ++ [x]).length c') ((F 0).2 ++ [x])) wf cnt := by
  obtain ⟨a', c', W, hrun, hF, hp, hu, hw, hb, hlt, hkt⟩ := h.grown 0 ht hl hq
  obtain ⟨V, n, h1, h2, h3⟩ := h.ws
  obtain ⟨U, n2, k1, k2, k3⟩ := h.us
  obtain ⟨l1, l2, l3, l4, l5⟩ := h.lts
  have hboxW : W.heap[p]? = some (.cells #[(F 0).1] 93 (0, 0)) := hp.trans h.box
  have ho := one_cell hboxW
  refine ⟨a', c', W, hrun, ho.1, ho.2, ⟨⟨U, n2, k1, (k2.kept hu).kept (set_other l4), fun d => ?_⟩, ⟨V, n, h1, (h2.kept hw).kept (set_other l5), h3⟩, hF.keepT fun g C hg => set_other fun e => ?_, ?_, ?_, h.gu, h.gw, h.gp, h.ne⟩⟩
  · rw [updF_ne _ _ _ (by omega)]; exact k3 d
  · subst e
    rw [hboxW] at hg
    cases hg
  · rw [updF_same]; exact set_one hboxW
  · refine hb.trans ⟨rfl, rfl, rfl, by simp [World.setCell, World.heap], fun k hk => set_other ?_⟩
    have := h.gp
    omega
/-- one more of the plan -/
theorem Io.addPlan (h : Io w0 w mu mw p F wf cnt) {x : Nat} (hl : (F 1).2.length ≤ 1000000) {q : Nat} (hq : w.heap[q]? = some (.cells #[.int .i64 (x : Int)] 3 (0, 0))) :
    ∃ a' c' W, (Builtin.append_ #[37, 37] 37 #[(F 1).1, .slice (some ⟨q, 0, none⟩) 1 1]).run Try.prog w = .ok (.slice a' ((F 1).2 ++ [x]).length c') W ∧ 
      Io w0 W mu mw p (updF F 1 (.slice a' ((F 1).2 ++ [x]).length c') ((F 1).2 ++ [x])) wf cnt := by
  obtain ⟨a', c', W, hrun, hF, hp, hu, hw, hb, hlt, hkt⟩ := h.grown 1 Try.underlying37 hl hq
  obtain ⟨V, n, h1, h2, h3⟩ := h.ws
  obtain ⟨U, n2, k1, k2, k3⟩ := h.us
  refine ⟨a', c', W, hrun, ⟨⟨U, n2, k1, k2.kept hu, fun d => ?_⟩, ⟨V, n, h1, h2.kept hw, h3⟩, hF, ?_, hb, h.gu, h.gw, h.gp, h.ne⟩⟩
  · rw [updF_ne _ _ _ (by omega)]; exact k3 d
  · rw [updF_ne _ _ _ (by omega)]; exact hp.trans h.box
end
end Go.Proofs.Ytbflodefmookiaa.Gr
