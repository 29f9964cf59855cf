/-
  WHAT inOrder HOLDS: who waits for whom, for how many each waits, those that are ready.
-/
import Derived.Test.YtbflodefmookiaaGrFam
namespace Go.Proofs.Ytbflodefmookiaa.Gr
open Go.RowKit Go.Maps Go.Proofs.Ytbflodefmookiaa Go.Proofs.Ytbflodefmookiaa.Pr

/-- rows of texts stand -/
def KeepT (w w' : World) : Prop := ∀ (g : Nat) C b, w.heap[g]? = some (.cells C 9 b) → w'.heap[g]? = w.heap[g]?
theorem KeepT.refl (w : World) : KeepT w w := fun _ _ _ _ => rfl
theorem KeepT.trans {a b c : World} (h : KeepT a b) (k : KeepT b c) : KeepT a c := fun g C x hc => by
  have h1 := h g C x hc
  exact (k g C x (h1.trans hc)).trans h1
theorem KeepT.map {w w' : World} {m : Nat} (hg : w.grownBy w' (some m)) (hm : ∃ es c, w.heap[m]? = some (.map es c)) : KeepT w w' := fun g C x hc => by
  refine hg.block g (lt_some hc) fun e => ?_
  have := Option.some.inj e
  subst this
  obtain ⟨es, c, h⟩ := hm
  rw [h] at hc
  cases hc

structure Io (w0 w : World) (mu mw p : Nat) (F : Nat → Value × List Nat) (wf : Nat → Nat) (cnt : Nat) : Prop where
  us : ∃ U n, n ≤ cnt ∧ MvI w n mu U ∧ ∀ d, (U d).getD (.slice none 0 0) = (F (d + 2)).1
  ws : ∃ V n, n ≤ cnt ∧ MvI w n mw V ∧ ∀ m, (V m).getD (.int .i64 0) = .int .i64 (wf m : Nat)
  fam : Fam w w0.heap.size F
  box : w.heap[p]? = some (.cells #[(F 0).1] 93 (0, 0))
  bel : Below w0.heap.size w0 w
  gu : w0.heap.size ≤ mu
  gw : w0.heap.size ≤ mw
  gp : w0.heap.size ≤ p
  ne : mu ≠ mw
section
variable {w0 w w' : World} {mu mw p : Nat} {F : Nat → Value × List Nat} {wf : Nat → Nat} {cnt : Nat}
theorem Io.below (h : Io w0 w mu mw p F wf cnt) (hb : Below w.heap.size w w') : Io w0 w' mu mw p F wf cnt := by
  obtain ⟨U, n, h1, h2, h3⟩ := h.us
  obtain ⟨V, m, h4, h5, h6⟩ := h.ws
  exact ⟨⟨U, n, h1, h2.kept (hb.block _ h2.lt), h3⟩, ⟨V, m, h4, h5.kept (hb.block _ h5.lt), h6⟩, h.fam.below hb, (hb.block _ (lt_some h.box)).trans h.box, h.bel.trans (hb.mono h.bel.size), h.gu, h.gw, h.gp, h.ne⟩
theorem Io.kindU (h : Io w0 w mu mw p F wf cnt) : ∃ es c, w.heap[mu]? = some (.map es c) := by obtain ⟨U, n, h1, h2, h3⟩ := h.us; exact h2.map
theorem Io.kindW (h : Io w0 w mu mw p F wf cnt) : ∃ es c, w.heap[mw]? = some (.map es c) := by obtain ⟨U, n, h1, h2, h3⟩ := h.ws; exact h2.map
theorem Io.own (h : Io w0 w mu mw p F wf cnt) (i : Nat) {g : Nat} (hg : (F i).1.ownBlock = some g) : g ≠ mu ∧ g ≠ mw ∧ g ≠ p ∧ w0.heap.size ≤ g ∧ g < w.heap.size := by
  obtain ⟨hb, C, hc⟩ := owns_block (h.fam.row i).2 hg
  obtain ⟨es, c, h1⟩ := h.kindU
  obtain ⟨es2, c2, h2⟩ := h.kindW
  refine ⟨?_, ?_, ?_, hb, lt_some hc⟩
  · rintro rfl; rw [h1] at hc; cases hc
  · rintro rfl; rw [h2] at hc; cases hc
  · rintro rfl; have := h.box; rw [this] at hc; cases hc
/-- one of the maps turned -/
theorem Io.mapped (h : Io w0 w mu mw p F wf cnt) {m : Nat} (hm : m = mu ∨ m = mw) (hg : w.grownBy w' (some m)) : Fam w' w0.heap.size F ∧ w'.heap[p]? = some (.cells #[(F 0).1] 93 (0, 0)) ∧ Below w0.heap.size w0 w' := by
  have hk : ∃ es c, w.heap[m]? = some (.map es c) := by
    rcases hm with rfl | rfl
    · exact h.kindU
    · exact h.kindW
  obtain ⟨es, c, hk⟩ := hk
  have hge : w0.heap.size ≤ m := by
    rcases hm with rfl | rfl
    · exact h.gu
    · exact h.gw
  refine ⟨h.fam.keepT fun g C hc => hg.block g (lt_some hc) fun e => ?_, ?_, h.bel.trans ⟨hg.os, hg.tape, hg.output, hg.size, fun q hq => hg.block q (by have := h.bel.size; omega) fun e => ?_⟩⟩
  · have := Option.some.inj e
    subst this
    rw [hk] at hc
    cases hc
  · rw [hg.block p (lt_some h.box) fun e => ?_]
    · exact h.box
    · have e2 := Option.some.inj e
      have hb := h.box
      rw [e2, hk] at hb
      cases hb
  · have := Option.some.inj e
    omega
/-- for how many one waits: read, and turned -/
theorem Io.wait (h : Io w0 w mu mw p F wf cnt) {m : Nat} (hm : m ≤ 1000000) : (Instr.lookup 90 (.map (some mw)) (.int .i64 (m : Int)) false).run Try.prog w = .ok (.int .i64 (wf m : Nat)) w := by
  obtain ⟨V, n, h1, h2, h3⟩ := h.ws
  rw [h2.look1 Try.underlying90 (zeroI w) hm, h3]
theorem Io.setWait (h : Io w0 w mu mw p F wf cnt) (hc : cnt < maxLen) {m : Nat} (hm : m ≤ 1000000) (x : Nat) :
    ∃ w', (Instr.mapUpdate 90 (.map (some mw)) (.int .i64 (m : Int)) (.int .i64 (x : Nat))).run Try.prog w = .ok () w' ∧ Io w0 w' mu mw p F (fun k => if k = m then x else wf k) (cnt + 1) ∧ w'.heap.size = w.heap.size ∧ KeepT w w' := by
  obtain ⟨V, n, h1, h2, h3⟩ := h.ws
  obtain ⟨U, n2, k1, k2, k3⟩ := h.us
  obtain ⟨w', hrun, h4, h5, h6⟩ := h2.put Try.underlying90 (by omega) hm (.int .i64 (x : Nat))
  obtain ⟨r1, r2, r3⟩ := h.mapped (.inr rfl) h5
  refine ⟨w', hrun, ⟨⟨U, n2, by omega, k2.kept (h5.block _ k2.lt fun e => h.ne (Option.some.inj e)), k3⟩, ⟨_, n + 1, by omega, h4, fun k => ?_⟩, r1, r2, r3, h.gu, h.gw, h.gp, h.ne⟩, h6, KeepT.map h5 h.kindW⟩
  by_cases e : k = m
  · subst e; simp
  · simp only [if_neg e]; exact h3 k
/-- who waits for one: read -/
theorem Io.user (h : Io w0 w mu mw p F wf cnt) {d : Nat} (hd : d ≤ 1000000) : (Instr.lookup 89 (.map (some mu)) (.int .i64 (d : Int)) false).run Try.prog w = .ok (F (d + 2)).1 w := by
  obtain ⟨U, n, h1, h2, h3⟩ := h.us
  rw [h2.look1 Try.underlying89 (zeroR w) hd, h3]
/-- one row of the family grown, ahead of what holds it -/
theorem Io.grown (h : Io w0 w mu mw p F wf cnt) (i : Nat) {t : TypeId} (ht : Try.prog.underlying t = some (.slice 3)) (hl : (F i).2.length ≤ 1000000) {q x : Nat} (hq : w.heap[q]? = some (.cells #[.int .i64 (x : Int)] 3 (0, 0))) :
    ∃ a' c' W, (Builtin.append_ #[t, t] t #[(F i).1, .slice (some ⟨q, 0, none⟩) 1 1]).run Try.prog w = .ok (.slice a' ((F i).2 ++ [x]).length c') W ∧ Fam W w0.heap.size (updF F i (.slice a' ((F i).2 ++ [x]).length c') ((F i).2 ++ [x])) ∧ W.heap[p]? = w.heap[p]? ∧ W.heap[mu]? = w.heap[mu]? ∧ W.heap[mw]? = w.heap[mw]? ∧ Below w0.heap.size w0 W ∧ mu < W.heap.size ∧ KeepT w W := by
  obtain ⟨a', c', W, hrun, hr, hg, ho⟩ := run_pushI ht (h.fam.row i) h.bel.size hl hq
  have hne := fun g (hgo : (F i).1.ownBlock = some g) => h.own i hgo
  obtain ⟨es, c, hku⟩ := h.kindU
  obtain ⟨es2, c2, hkw⟩ := h.kindW
  refine ⟨a', c', W, hrun, h.fam.turn i hr (fun g C hc hne2 => hg.block g (lt_some hc) fun e => hne2 e.symm) ?_, hg.block p (lt_some h.box) fun e => (hne p e.symm).2.2.1 rfl, hg.block mu (lt_some hku) fun e => (hne mu e.symm).1 rfl, hg.block mw (lt_some hkw) fun e => (hne mw e.symm).2.1 rfl, h.bel.trans ⟨hg.os, hg.tape, hg.output, hg.size, fun k hk => hg.block k (by have := h.bel.size; omega) fun e => ?_⟩, ?_, ?_⟩
  · rcases ho with ho | ho
    · exact .inl ho
    · exact .inr ⟨_, ho, Nat.le_refl _⟩
  · have := (hne k e.symm).2.2.2.1
    omega
  · have := lt_some hku
    have := hg.size
    omega
  · intro g C x hc
    refine hg.block g (lt_some hc) fun e => ?_
    obtain ⟨_, C2, hc2⟩ := owns_block (h.fam.row i).2 e.symm
    rw [hc] at hc2
    simp only [Option.some.injEq, Obj.cells.injEq] at hc2
    exact absurd hc2.2.1 (by decide)
/-- one more who waits for d -/
theorem Io.addUser (h : Io w0 w mu mw p F wf cnt) (hc : cnt < maxLen) {d x : Nat} (hd : d ≤ 1000000) (hl : (F (d + 2)).2.length ≤ 1000000) {q : Nat} (hq : w.heap[q]? = some (.cells #[.int .i64 (x : Int)] 3 (0, 0))) :
    ∃ a' c' W w', (Builtin.append_ #[37, 37] 37 #[(F (d + 2)).1, .slice (some ⟨q, 0, none⟩) 1 1]).run Try.prog w = .ok (.slice a' ((F (d + 2)).2 ++ [x]).length c') W ∧
      (Instr.mapUpdate 89 (.map (some mu)) (.int .i64 (d : Int)) (.slice a' ((F (d + 2)).2 ++ [x]).length c')).run Try.prog W = .ok () w' ∧ Io w0 w' mu mw p (updF F (d + 2) (.slice a' ((F (d + 2)).2 ++ [x]).length c') ((F (d + 2)).2 ++ [x])) wf (cnt + 1) ∧ KeepT w w' := by
  obtain ⟨a', c', W, hrun, hF, hp, hu, hw, hb, hlt, hkt⟩ := h.grown (d + 2) Try.underlying37 hl hq
  obtain ⟨V, n, h1, h2, h3⟩ := h.ws
  obtain ⟨U, n2, k1, k2, k3⟩ := h.us
  have k4 := k2.kept hu
  have h4 := h2.kept hw
  obtain ⟨w', hrun2, k5, k6, k7⟩ := k4.put Try.underlying89 (by omega) hd (.slice a' ((F (d + 2)).2 ++ [x]).length c')
  have hIo : Io w0 W mu mw p (updF F (d + 2) (.slice a' ((F (d + 2)).2 ++ [x]).length c') ((F (d + 2)).2 ++ [x])) wf cnt → True := fun _ => trivial
  obtain ⟨es, c, hku⟩ := k4.map
  have hge : w0.heap.size ≤ mu := h.gu
  have hboxW : W.heap[p]? = some (.cells #[(F 0).1] 93 (0, 0)) := hp.trans h.box
  have hF0 : (updF F (d + 2) (.slice a' ((F (d + 2)).2 ++ [x]).length c') ((F (d + 2)).2 ++ [x]) 0).1 = (F 0).1 := by rw [updF_ne _ _ _ (by omega)]
  refine ⟨a', c', W, w', hrun, hrun2, ⟨⟨_, n2 + 1, by omega, k5, fun k => ?_⟩, ⟨V, n, by omega, h4.kept (k6.block _ h4.lt fun e => h.ne (Option.some.inj e).symm), h3⟩, hF.keepT fun g C hc => k6.block g (lt_some hc) fun e => ?_, ?_, hb.trans ⟨k6.os, k6.tape, k6.output, k6.size, fun q hq => k6.block q (by have := hb.size; omega) fun e => ?_⟩, h.gu, h.gw, h.gp, h.ne⟩, hkt.trans (KeepT.map k6 k4.map)⟩
  · by_cases e : k = d
    · subst e
      rw [updF_same]
      simp
    · rw [updF_ne _ _ _ (by omega)]
      simp only [if_neg e]
      exact k3 k
  · have := Option.some.inj e
    subst this
    rw [hku] at hc
    cases hc
  · rw [hF0, k6.block p (lt_some hboxW) fun e => ?_]
    · exact hboxW
    · have e2 := Option.some.inj e
      rw [e2, hku] at hboxW
      cases hboxW
  · have := Option.some.inj e
    omega
end
end Go.Proofs.Ytbflodefmookiaa.Gr
