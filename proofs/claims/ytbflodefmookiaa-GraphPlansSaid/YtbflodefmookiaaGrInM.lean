/-
  WHAT inOrder HOLDS: who waits for whom, for how many each waits, those that are ready.
  WHAT inOrder HOLDS: the heap of those that are ready, and the plan.
  WHAT inOrder'S FIRST LOOP KEEPS; a graph in memory.
-/
import Derived.Test.YtbflodefmookiaaGrFam
import Derived.Test.YtbflodefmookiaaGrPlan
namespace Go.Proofs.Ytbflodefmookiaa.Gr
open Go.RowKit Go.Maps Go.Proofs.Ytbflodefmookiaa Go.Proofs.Ytbflodefmookiaa.Pr

/-- rows of texts stand -/
def KeepT (w w' : World) : Prop := ∀ (g : Nat) C b, w.heap[g]? = some (.cells C 9 b) → w'.heap[g]? = w.heap[g]?
theorem KeepT.refl (w : World) : KeepT w w := fun _ _ _ _ => rfl
theorem KeepT.trans {a b c : World} (h : KeepT a b) (k : KeepT b c) : KeepT a c := fun g C x hc => by
  have h1 := h g C x hc
  exact (k g C x (h1.trans hc)).trans h1
theorem KeepT.map {w w' : World} {m : Nat} (hg : w.grownBy w' (some m)) (hm : ∃ es c, w.heap[m]? = some (.map es c)) : KeepT w w' := fun g C x hc => by
  refine hg.block g (lt_some hc) fun e => ?_
  have := Option.some.inj e
  subst this
  obtain ⟨es, c, h⟩ := hm
  rw [h] at hc
  cases hc

structure Io (w0 w : World) (mu mw p : Nat) (F : Nat → Value × List Nat) (wf : Nat → Nat) (cnt : Nat) : Prop where
  us : ∃ U n, n ≤ cnt ∧ MvI w n mu U ∧ ∀ d, (U d).getD (.slice none 0 0) = (F (d + 2)).1
  ws : ∃ V n, n ≤ cnt ∧ MvI w n mw V ∧ ∀ m, (V m).getD (.int .i64 0) = .int .i64 (wf m : Nat)
  fam : Fam w w0.heap.size F
  box : w.heap[p]? = some (.cells #[(F 0).1] 93 (0, 0))
  bel : Below w0.heap.size w0 w
  gu : w0.heap.size ≤ mu
  gw : w0.heap.size ≤ mw
  gp : w0.heap.size ≤ p
  ne : mu ≠ mw
section
variable {w0 w w' : World} {mu mw p : Nat} {F : Nat → Value × List Nat} {wf : Nat → Nat} {cnt : Nat}
theorem Io.below (h : Io w0 w mu mw p F wf cnt) (hb : Below w.heap.size w w') : Io w0 w' mu mw p F wf cnt := by
  obtain ⟨U, n, h1, h2, h3⟩ := h.us
  obtain ⟨V, m, h4, h5, h6⟩ := h.ws
  exact ⟨⟨U, n, h1, h2.kept (hb.block _ h2.lt), h3⟩, ⟨V, m, h4, h5.kept (hb.block _ h5.lt), h6⟩, h.fam.below hb, (hb.block _ (lt_some h.box)).trans h.box, h.bel.trans (hb.mono h.bel.size), h.gu, h.gw, h.gp, h.ne⟩
theorem Io.kindU (h : Io w0 w mu mw p F wf cnt) : ∃ es c, w.heap[mu]? = some (.map es c) := by obtain ⟨U, n, h1, h2, h3⟩ := h.us; exact h2.map
theorem Io.kindW (h : Io w0 w mu mw p F wf cnt) : ∃ es c, w.heap[mw]? = some (.map es c) := by obtain ⟨U, n, h1, h2, h3⟩ := h.ws; exact h2.map
theorem Io.own (h : Io w0 w mu mw p F wf cnt) (i : Nat) {g : Nat} (hg : (F i).1.ownBlock = some g) : g ≠ mu ∧ g ≠ mw ∧ g ≠ p ∧ w0.heap.size ≤ g ∧ g < w.heap.size := by
  obtain ⟨hb, C, hc⟩ := owns_block (h.fam.row i).2 hg
  obtain ⟨es, c, h1⟩ := h.kindU
  obtain ⟨es2, c2, h2⟩ := h.kindW
  refine ⟨?_, ?_, ?_, hb, lt_some hc⟩
  · rintro rfl; rw [h1] at hc; cases hc
  · rintro rfl; rw [h2] at hc; cases hc
  · rintro rfl; have := h.box; rw [this] at hc; cases hc
/-- one of the maps turned -/
theorem Io.mapped (h : Io w0 w mu mw p F wf cnt) {m : Nat} (hm : m = mu ∨ m = mw) (hg : w.grownBy w' (some m)) : Fam w' w0.heap.size F ∧ w'.heap[p]? = some (.cells #[(F 0).1] 93 (0, 0)) ∧ Below w0.heap.size w0 w' := by
  have hk : ∃ es c, w.heap[m]? = some (.map es c) := by
    rcases hm with rfl | rfl
    · exact h.kindU
    · exact h.kindW
  obtain ⟨es, c, hk⟩ := hk
  have hge : w0.heap.size ≤ m := by
    rcases hm with rfl | rfl
    · exact h.gu
    · exact h.gw
  refine ⟨h.fam.keepT fun g C hc => hg.block g (lt_some hc) fun e => ?_, ?_, h.bel.trans ⟨hg.os, hg.tape, hg.output, hg.size, fun q hq => hg.block q (by have := h.bel.size; omega) fun e => ?_⟩⟩
  · have := Option.some.inj e
    subst this
    rw [hk] at hc
    cases hc
  · rw [hg.block p (lt_some h.box) fun e => ?_]
    · exact h.box
    · have e2 := Option.some.inj e
      have hb := h.box
      rw [e2, hk] at hb
      cases hb
  · have := Option.some.inj e
    omega
/-- for how many one waits: read, and turned -/
theorem Io.wait (h : Io w0 w mu mw p F wf cnt) {m : Nat} (hm : m ≤ 1000000) : (Instr.lookup 90 (.map (some mw)) (.int .i64 (m : Int)) false).run Try.prog w = .ok (.int .i64 (wf m : Nat)) w := by
  obtain ⟨V, n, h1, h2, h3⟩ := h.ws
  rw [h2.look1 Try.underlying90 (zeroI w) hm, h3]
theorem Io.setWait (h : Io w0 w mu mw p F wf cnt) (hc : cnt < maxLen) {m : Nat} (hm : m ≤ 1000000) (x : Nat) :
    ∃ w', (Instr.mapUpdate 90 (.map (some mw)) (.int .i64 (m : Int)) (.int .i64 (x : Nat))).run Try.prog w = .ok () w' ∧ Io w0 w' mu mw p F (fun k => if k = m then x else wf k) (cnt + 1) ∧ w'.heap.size = w.heap.size ∧ KeepT w w' := by
  obtain ⟨V, n, h1, h2, h3⟩ := h.ws
  obtain ⟨U, n2, k1, k2, k3⟩ := h.us
  obtain ⟨w', hrun, h4, h5, h6⟩ := h2.put Try.underlying90 (by omega) hm (.int .i64 (x : Nat))
  obtain ⟨r1, r2, r3⟩ := h.mapped (.inr rfl) h5
  refine ⟨w', hrun, ⟨⟨U, n2, by omega, k2.kept (h5.block _ k2.lt fun e => h.ne (Option.some.inj e)), k3⟩, ⟨_, n + 1, by omega, h4, fun k => ?_⟩, r1, r2, r3, h.gu, h.gw, h.gp, h.ne⟩, h6, KeepT.map h5 h.kindW⟩
  by_cases e : k = m
  · subst e; simp
  · simp only [if_neg e]; exact h3 k
/-- who waits for one: read -/
theorem Io.user (h : Io w0 w mu mw p F wf cnt) {d : Nat} (hd : d ≤ 1000000) : (Instr.lookup 89 (.map (some mu)) (.int .i64 (d : Int)) false).run Try.prog w = .ok (F (d + 2)).1 w := by
  obtain ⟨U, n, h1, h2, h3⟩ := h.us
  rw [h2.look1 Try.underlying89 (zeroR w) hd, h3]
/-- one row of the family grown, ahead of what holds it -/
theorem Io.grown (h : Io w0 w mu mw p F wf cnt) (i : Nat) {t : TypeId} (ht : Try.prog.underlying t = some (.slice 3)) (hl : (F i).2.length ≤ 1000000) {q x : Nat} (hq : w.heap[q]? = some (.cells #[.int .i64 (x : Int)] 3 (0, 0))) :
    ∃ a' c' W, (Builtin.append_ #[t, t] t #[(F i).1, .slice (some ⟨q, 0, none⟩) 1 1]).run Try.prog w = .ok (.slice a' ((F i).2 ++ [x]).length c') W ∧ Fam W w0.heap.size (updF F i (.slice a' ((F i).2 ++ [x]).length c') ((F i).2 ++ [x])) ∧ W.heap[p]? = w.heap[p]? ∧ W.heap[mu]? = w.heap[mu]? ∧ W.heap[mw]? = w.heap[mw]? ∧ Below w0.heap.size w0 W ∧ mu < W.heap.size ∧ KeepT w W := by
  obtain ⟨a', c', W, hrun, hr, hg, ho⟩ := run_pushI ht (h.fam.row i) h.bel.size hl hq
  have hne := fun g (hgo : (F i).1.ownBlock = some g) => h.own i hgo
  obtain ⟨es, c, hku⟩ := h.kindU
  obtain ⟨es2, c2, hkw⟩ := h.kindW
  refine ⟨a', c', W, hrun, h.fam.turn i hr (fun g C hc hne2 => hg.block g (lt_some hc) fun e => hne2 e.symm) ?_, hg.block p (lt_some h.box) fun e => (hne p e.symm).2.2.1 rfl, hg.block mu (lt_some hku) fun e => (hne mu e.symm).1 rfl, hg.block mw (lt_some hkw) fun e => (hne mw e.symm).2.1 rfl, h.bel.trans ⟨hg.os, hg.tape, hg.output, hg.size, fun k hk => hg.block k (by have := h.bel.size; omega) fun e => ?_⟩, ?_, ?_⟩
  · rcases ho with ho | ho
    · exact .inl ho
    · exact .inr ⟨_, ho, Nat.le_refl _⟩
  · have := (hne k e.symm).2.2.2.1
    omega
  · have := lt_some hku
    have := hg.size
    omega
  · intro g C x hc
    refine hg.block g (lt_some hc) fun e => ?_
    obtain ⟨_, C2, hc2⟩ := owns_block (h.fam.row i).2 e.symm
    rw [hc] at hc2
    simp only [Option.some.injEq, Obj.cells.injEq] at hc2
    exact absurd hc2.2.1 (by decide)
/-- one more who waits for d -/
theorem Io.addUser (h : Io w0 w mu mw p F wf cnt) (hc : cnt < maxLen) {d x : Nat} (hd : d ≤ 1000000) (hl : (F (d + 2)).2.length ≤ 1000000) {q : Nat} (hq : w.heap[q]? = some (.cells #[.int .i64 (x : Int)] 3 (0, 0))) :
    ∃ a' c' W w', (Builtin.append_ #[37, 37] 37 #[(F (d + 2)).1, .slice (some ⟨q, 0, none⟩) 1 1]).run Try.prog w = .ok (.slice a' ((F (d + 2)).2 ++ [x]).length c') W ∧
      (Instr.mapUpdate 89 (.map (some mu)) (.int .i64 (d : Int)) (.slice a' ((F (d + 2)).2 ++ [x]).length c')).run Try.prog W = .ok () w' ∧ Io w0 w' mu mw p (updF F (d + 2) (.slice a' ((F (d + 2)).2 ++ [x]).length c') ((F (d + 2)).2 ++ [x])) wf (cnt + 1) ∧ KeepT w w' := by
  obtain ⟨a', c', W, hrun, hF, hp, hu, hw, hb, hlt, hkt⟩ := h.grown (d + 2) Try.underlying37 hl hq
  obtain ⟨V, n, h1, h2, h3⟩ := h.ws
  obtain ⟨U, n2, k1, k2, k3⟩ := h.us
  have k4 := k2.kept hu
  have h4 := h2.kept hw
  obtain ⟨w', hrun2, k5, k6, k7⟩ := k4.put Try.underlying89 (by omega) hd (.slice a' ((F (d + 2)).2 ++ [x]).length c')
  have hIo : Io w0 W mu mw p (updF F (d + 2) (.slice a' ((F (d + 2)).2 ++ [x]).length c') ((F (d + 2)).2 ++ [x])) wf cnt → True := fun _ => trivial
  obtain ⟨es, c, hku⟩ := k4.map
  have hge : w0.heap.size ≤ mu := h.gu
  have hboxW : W.heap[p]? = some (.cells #[(F 0).1] 93 (0, 0)) := hp.trans h.box
  have hF0 : (updF F (d + 2) (.slice a' ((F (d + 2)).2 ++ [x]).length c') ((F (d + 2)).2 ++ [x]) 0).1 = (F 0).1 := by rw [updF_ne _ _ _ (by omega)]
  refine ⟨a', c', W, w', hrun, hrun2, ⟨⟨_, n2 + 1, by omega, k5, fun k => ?_⟩, ⟨V, n, by omega, h4.kept (k6.block _ h4.lt fun e => h.ne (Option.some.inj e).symm), h3⟩, hF.keepT fun g C hc => k6.block g (lt_some hc) fun e => ?_, ?_, hb.trans ⟨k6.os, k6.tape, k6.output, k6.size, fun q hq => k6.block q (by have := hb.size; omega) fun e => ?_⟩, h.gu, h.gw, h.gp, h.ne⟩, hkt.trans (KeepT.map k6 k4.map)⟩
  · by_cases e : k = d
    · subst e
      rw [updF_same]
      simp
    · rw [updF_ne _ _ _ (by omega)]
      simp only [if_neg e]
      exact k3 k
  · have := Option.some.inj e
    subst this
    rw [hku] at hc
    cases hc
  · rw [hF0, k6.block p (lt_some hboxW) fun e => ?_]
    · exact hboxW
    · have e2 := Option.some.inj e
      rw [e2, hku] at hboxW
      cases hboxW
  · have := Option.some.inj e
    omega
end
end Go.Proofs.Ytbflodefmookiaa.Gr
namespace Go.Proofs.Ytbflodefmookiaa.Gr
open Go.RowKit Go.Maps Go.Proofs.Ytbflodefmookiaa Go.Proofs.Ytbflodefmookiaa.Pr
theorem hp_least {H : List Nat} (h : Hp H H.length) : ∀ x ∈ H, H.getD 0 0 ≤ x := fun x hx => by
  obtain ⟨i, hi⟩ := List.getElem?_of_mem hx
  obtain ⟨h1, e⟩ := List.getElem?_eq_some_iff.1 hi
  have := h.min i h1
  have e2 : H.getD i 0 = x := by rw [List.getD_eq_getElem?_getD, hi]; rfl
  omega
/-- what rises is a heap -/
theorem hp_rising {H : List Nat} (h : H.Pairwise (· < ·)) : Hp H H.length := fun k h0 hk => by
  have hp : par k < k := by unfold par; omega
  have h1 := (List.pairwise_iff_getElem.1 h) (par k) k (by omega) hk hp
  rw [List.getD_eq_getElem?_getD, List.getD_eq_getElem?_getD, List.getElem?_eq_getElem hk, List.getElem?_eq_getElem (by omega : par k < H.length)]
  exact Nat.le_of_lt h1
section
variable {w0 w w' : World} {mu mw p : Nat} {F : Nat → Value × List Nat} {wf : Nat → Nat} {cnt : Nat}
theorem Io.lts (h : Io w0 w mu mw p F wf cnt) : mu < w.heap.size ∧ mw < w.heap.size ∧ p < w.heap.size ∧ mu ≠ p ∧ mw ≠ p := by
  obtain ⟨es, c, h1⟩ := h.kindU
  obtain ⟨es2, c2, h2⟩ := h.kindW
  refine ⟨lt_some h1, lt_some h2, lt_some h.box, ?_, ?_⟩
  · rintro rfl; have := h.box; rw [this] at h1; cases h1
  · rintro rfl; have := h.box; rw [this] at h2; cases h2
theorem Io.heap (h : Io w0 w mu mw p F wf cnt) : Hs w w0.heap.size p (F 0).1.ownBlock (F 0).2 :=
  ⟨_, h.box, h.fam.row 0, rfl, fun e => (h.own 0 e).2.2.1 rfl⟩
/-- the heap turned -/
theorem Io.chg (h : Io w0 w mu mw p F wf cnt) {b' : Option Nat} {H' : List Nat} (hs : Hs w' w0.heap.size p b' H') (hc : Chg p (F 0).1.ownBlock b' w w') : ∃ v, Io w0 w' mu mw p (updF F 0 v H') wf cnt := by
  obtain ⟨v, hbox, hrow, hob, hne⟩ := hs
  obtain ⟨l1, l2, l3, l4, l5⟩ := h.lts
  obtain ⟨U, n2, k1, k2, k3⟩ := h.us
  obtain ⟨V, n, h1, h2, h3⟩ := h.ws
  have hou := fun g (hg : (F 0).1.ownBlock = some g) => h.own 0 hg
  refine ⟨v, ⟨⟨U, n2, k1, k2.kept (hc.block _ l1 l4 fun e => (hou _ e).1 rfl), fun d => ?_⟩, ⟨V, n, h1, h2.kept (hc.block _ l2 l5 fun e => (hou _ e).2.1 rfl), h3⟩, h.fam.turn 0 hrow (fun g C hg hne2 => ?_) ?_, ?_, h.bel.trans ⟨hc.os, hc.tape, hc.output, hc.size, fun q hq => ?_⟩, h.gu, h.gw, h.gp, h.ne⟩⟩
  · rw [updF_ne _ _ _ (by omega)]; exact k3 d
  · refine hc.block g (lt_some hg) (fun e => ?_) hne2
    subst e
    have := h.box
    rw [this] at hg
    cases hg
  · rw [hob]
    rcases hc.row with e | ⟨k, e, hk⟩
    · exact .inl e
    · exact .inr ⟨k, e, hk⟩
  · rw [updF_same]; exact hbox
  · have := h.bel.size
    have := h.gp
    refine hc.block q (by omega) (by omega) fun e => ?_
    have := (hou q e).2.2.2.1
    omega
/-- one more that is ready, behind the others -/
theorem Io.addReady (h : Io w0 w mu mw p F wf cnt) {x : Nat} {t : TypeId} (ht : Try.prog.underlying t = some (.slice 3)) (hl : (F 0).2.length ≤ 1000000) {q : Nat} (hq : w.heap[q]? = some (.cells #[.int .i64 (x : Int)] 3 (0, 0))) :
    ∃ a' c' W, (Builtin.append_ #[t, t] t #[(F 0).1, .slice (some ⟨q, 0, none⟩) 1 1]).run Try.prog w = .ok (.slice a' ((F 0).2 ++ [x]).length c') W ∧ W.cell? ⟨p, 0, none⟩ = some (F 0).1 ∧ W.frozen? ⟨p, 0, none⟩ = false ∧
      Io w0 (W.setCell ⟨p, 0, none⟩ (.slice a' ((F 0).2 ++ [x]).length c')) mu mw p (updF F 0 (.slice a' ((F 0).2 ++ [x]).length c') ((F 0).2 ++ [x])) wf cnt := by
  obtain ⟨a', c', W, hrun, hF, hp, hu, hw, hb, hlt, hkt⟩ := h.grown 0 ht hl hq
  obtain ⟨V, n, h1, h2, h3⟩ := h.ws
  obtain ⟨U, n2, k1, k2, k3⟩ := h.us
  obtain ⟨l1, l2, l3, l4, l5⟩ := h.lts
  have hboxW : W.heap[p]? = some (.cells #[(F 0).1] 93 (0, 0)) := hp.trans h.box
  have ho := one_cell hboxW
  refine ⟨a', c', W, hrun, ho.1, ho.2, ⟨⟨U, n2, k1, (k2.kept hu).kept (set_other l4), fun d => ?_⟩, ⟨V, n, h1, (h2.kept hw).kept (set_other l5), h3⟩, hF.keepT fun g C hg => set_other fun e => ?_, ?_, ?_, h.gu, h.gw, h.gp, h.ne⟩⟩
  · rw [updF_ne _ _ _ (by omega)]; exact k3 d
  · subst e
    rw [hboxW] at hg
    cases hg
  · rw [updF_same]; exact set_one hboxW
  · refine hb.trans ⟨rfl, rfl, rfl, by simp [World.setCell, World.heap], fun k hk => set_other ?_⟩
    have := h.gp
    omega
/-- one more of the plan -/
theorem Io.addPlan (h : Io w0 w mu mw p F wf cnt) {x : Nat} (hl : (F 1).2.length ≤ 1000000) {q : Nat} (hq : w.heap[q]? = some (.cells #[.int .i64 (x : Int)] 3 (0, 0))) :
    ∃ a' c' W, (Builtin.append_ #[37, 37] 37 #[(F 1).1, .slice (some ⟨q, 0, none⟩) 1 1]).run Try.prog w = .ok (.slice a' ((F 1).2 ++ [x]).length c') W ∧ 
      Io w0 W mu mw p (updF F 1 (.slice a' ((F 1).2 ++ [x]).length c') ((F 1).2 ++ [x])) wf cnt := by
  obtain ⟨a', c', W, hrun, hF, hp, hu, hw, hb, hlt, hkt⟩ := h.grown 1 Try.underlying37 hl hq
  obtain ⟨V, n, h1, h2, h3⟩ := h.ws
  obtain ⟨U, n2, k1, k2, k3⟩ := h.us
  refine ⟨a', c', W, hrun, ⟨⟨U, n2, k1, k2.kept hu, fun d => ?_⟩, ⟨V, n, h1, h2.kept hw, h3⟩, hF, ?_, hb, h.gu, h.gw, h.gp, h.ne⟩⟩
  · rw [updF_ne _ _ _ (by omega)]; exact k3 d
  · rw [updF_ne _ _ _ (by omega)]; exact hp.trans h.box
end
end Go.Proofs.Ytbflodefmookiaa.Gr
namespace Go.Proofs.Ytbflodefmookiaa.Gr
open Go.RowKit Go.Maps Go.Proofs.Ytbflodefmookiaa Go.Proofs.Ytbflodefmookiaa.Pr
section
variable {deps : Nat → List Nat} {M : List Nat} {mkr : Bs → Option Nat} {K : List Bs}
theorem usersOf_len {B d : Nat} (h : ∀ n ∈ M, (deps n).length ≤ B) : (usersOf deps M d).length ≤ M.length * B := by
  induction M with
  | nil => simp [usersOf]
  | cons m M ih =>
    have h1 := ih fun n hn => h n (by simp [hn])
    have h2 := h m (by simp)
    have h3 : (deps m).count d ≤ (deps m).length := List.count_le_length
    unfold usersOf at h1 ⊢
    rw [List.flatMap_cons, List.length_append, List.length_replicate, List.length_cons, Nat.succ_mul]
    omega
structure L1 (deps : Nat → List Nat) (M : List Nat) (t : Nat) (G : Nat → List Nat) (wf : Nat → Nat) : Prop where
  rd : G 0 = (M.take t).filter fun n => (deps n).length == 0
  pl : G 1 = []
  us : ∀ d, G (d + 2) = usersOf deps (M.take t) d
  ws : ∀ n, wf n = if n ∈ M.take t then (deps n).length else 0
structure L1m (mkr : Bs → Option Nat) (K : List Bs) (deps : Nat → List Nat) (M : List Nat) (t n j : Nat) (G : Nat → List Nat) (wf : Nat → Nat) : Prop where
  rd : G 0 = (M.take t).filter fun n => (deps n).length == 0
  pl : G 1 = []
  us : ∀ d, G (d + 2) = usersOf deps (M.take t) d ++ List.replicate (((K.take j).filterMap mkr).count d) n
  ws : ∀ m, wf m = if m = n then ((K.take j).filterMap mkr).length else if m ∈ M.take t then (deps m).length else 0
variable {t n j : Nat} {G : Nat → List Nat} {wf : Nat → Nat}
theorem L1.start : L1 deps M 0 (fun _ => []) (fun _ => 0) := ⟨by simp, rfl, fun d => by simp [usersOf], fun n => by simp⟩
theorem not_taken (hM : M.Nodup) (hn : M[t]? = some n) : n ∉ M.take t := fun h => by
  obtain ⟨i, hi⟩ := List.getElem?_of_mem h
  have hit : i < t := by
    have := (List.getElem?_eq_some_iff.1 hi).1
    rw [List.length_take] at this
    omega
  rw [List.getElem?_take_of_lt hit] at hi
  obtain ⟨h1, e1⟩ := List.getElem?_eq_some_iff.1 hi
  obtain ⟨h2, e2⟩ := List.getElem?_eq_some_iff.1 hn
  exact (List.pairwise_iff_getElem.1 hM) i t h1 h2 hit (e1.trans e2.symm)
theorem L1.enter (h : L1 deps M t G wf) (hM : M.Nodup) (hn : M[t]? = some n) : L1m mkr K deps M t n 0 G wf := by
  refine ⟨h.rd, h.pl, fun d => by simp [h.us d], fun m => ?_⟩
  by_cases e : m = n
  · subst e
    rw [if_pos rfl, h.ws, if_neg (not_taken hM hn)]
    simp
  · rw [if_neg e]; exact h.ws m
theorem L1m.skip (h : L1m mkr K deps M t n j G wf) {s : Bs} (hs : K[j]? = some s) (hk : mkr s = none) : L1m mkr K deps M t n (j + 1) G wf := by
  have e : (K.take (j + 1)).filterMap mkr = (K.take j).filterMap mkr := by rw [filterMap_take hs, hk]; simp
  exact ⟨h.rd, h.pl, fun d => by rw [e]; exact h.us d, fun m => by rw [e]; exact h.ws m⟩
theorem L1m.step (h : L1m mkr K deps M t n j G wf) {s : Bs} {d : Nat} (hs : K[j]? = some s) (hk : mkr s = some d) :
    L1m mkr K deps M t n (j + 1) (fun i => if i = d + 2 then G (d + 2) ++ [n] else G i) (fun m => if m = n then wf n + 1 else wf m) := by
  have e : (K.take (j + 1)).filterMap mkr = (K.take j).filterMap mkr ++ [d] := by rw [filterMap_take hs, hk]; simp
  refine ⟨by simpa using h.rd, by simpa using h.pl, fun x => ?_, fun m => ?_⟩
  · rw [e, replicate_snoc, ← List.append_assoc, ← h.us x]
    by_cases ex : d = x
    · subst ex; simp
    · rw [if_neg ex, if_neg (by omega)]; simp
  · rw [e]
    by_cases em : m = n
    · subst em
      have := h.ws m
      simp at this
      simp [this]
    · simp only [if_neg em]
      have := h.ws m
      rw [if_neg em] at this
      exact this
theorem L1m.wait (h : L1m mkr K deps M t n K.length G wf) (hd : deps n = K.filterMap mkr) : wf n = (deps n).length := by
  rw [h.ws n, if_pos rfl, List.take_length, hd]
theorem L1m.us_t (h : L1m mkr K deps M t n K.length G wf) (hd : deps n = K.filterMap mkr) (hn : M[t]? = some n) (d : Nat) : G (d + 2) = usersOf deps (M.take (t + 1)) d := by
  rw [usersOf_take hn, h.us d, List.take_length, hd]
theorem L1m.ws_t (h : L1m mkr K deps M t n K.length G wf) (hd : deps n = K.filterMap mkr) (hn : M[t]? = some n) (m : Nat) : wf m = if m ∈ M.take (t + 1) then (deps m).length else 0 := by
  have hmem : m ∈ M.take (t + 1) ↔ m ∈ M.take t ∨ m = n := by rw [List.take_add_one, hn]; simp
  by_cases e : m = n
  · subst e
    rw [h.wait hd, if_pos (hmem.2 (.inr rfl))]
  · have := h.ws m
    rw [if_neg e] at this
    rw [this]
    by_cases e2 : m ∈ M.take t
    · rw [if_pos e2, if_pos (hmem.2 (.inl e2))]
    · rw [if_neg e2, if_neg fun h => (hmem.1 h).elim e2 e]
theorem L1m.waits (h : L1m mkr K deps M t n K.length G wf) (hd : deps n = K.filterMap mkr) (hn : M[t]? = some n) (h0 : wf n ≠ 0) : L1 deps M (t + 1) G wf := by
  rw [h.wait hd] at h0
  refine ⟨?_, h.pl, h.us_t hd hn, h.ws_t hd hn⟩
  rw [h.rd, List.take_add_one, hn]
  simp [h0]
theorem L1m.ready (h : L1m mkr K deps M t n K.length G wf) (hd : deps n = K.filterMap mkr) (hn : M[t]? = some n) (h0 : wf n = 0) : L1 deps M (t + 1) (fun i => if i = 0 then G 0 ++ [n] else G i) wf := by
  rw [h.wait hd] at h0
  refine ⟨?_, by simpa using h.pl, fun d => by simpa using h.us_t hd hn d, h.ws_t hd hn⟩
  simp only [if_true]
  rw [h.rd, List.take_add_one, hn]
  simp [h0]
theorem L1m.lens (h : L1m mkr K deps M t n j G wf) (hl : M.length ≤ 1000) (hd : ∀ n ∈ M, (deps n).length ≤ 30) (hK : K.length ≤ 30) (d : Nat) : (G (d + 2)).length ≤ 1000000 := by
  rw [h.us d, List.length_append, List.length_replicate]
  have h1 := usersOf_len (deps := deps) (M := M.take t) (B := 30) (d := d) fun n hn => hd n (List.mem_of_mem_take hn)
  have h2 : (M.take t).length ≤ 1000 := by rw [List.length_take]; omega
  have h3 : ((K.take j).filterMap mkr).count d ≤ 30 := Nat.le_trans List.count_le_length (Nat.le_trans (List.length_filterMap_le ..) (by rw [List.length_take]; omega))
  omega
end
theorem updF_snd (F : Nat → Value × List Nat) (i : Nat) (v : Value) (H : List Nat) : (fun k => (updF F i v H k).2) = fun k => if k = i then H else (F k).2 := by
  funext k
  by_cases e : k = i
  · subst e; rw [updF_same]; simp
  · rw [updF_ne _ _ _ e]; simp [e]

/-- a graph in memory -/
structure Gph (w : World) (gp : Nat) (ve vd : Value) (m n : Nat) (L : List Ed) (D : List Bs) (mkr : Bs → Option Nat) : Prop where
  box : w.heap[gp]? = some (.cells #[ve, vd, .map (some m)] 70 (0, 0))
  ed : Eds w ve L
  df : Strs w vd D
  mks : MvS w n m fun x => (mkr x).map fun (k : Nat) => Value.int .i64 (k : Int)
  small : ∀ e ∈ L, Sm e
  few : L.length ≤ 1000
  to : ∀ s k, mkr s = some k → k < L.length
theorem Gph.below {w w' : World} {gp : Nat} {ve vd : Value} {m n : Nat} {L : List Ed} {D : List Bs} {mkr : Bs → Option Nat} (h : Gph w gp ve vd m n L D mkr) (hb : Below w.heap.size w w') : Gph w' gp ve vd m n L D mkr :=
  ⟨(hb.block _ (lt_some h.box)).trans h.box, h.ed.below hb, h.df.below hb, h.mks.kept (hb.block _ h.mks.lt), h.small, h.few, h.to⟩
end Go.Proofs.Ytbflodefmookiaa.Gr
