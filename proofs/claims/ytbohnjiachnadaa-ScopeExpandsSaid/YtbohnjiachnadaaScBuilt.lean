/-
  THREE SCOPES THAT THE LAWS BUILD, and the document's rows beside them: the state, its two steps.
-/
import Derived.Test.YtbohnjiachnadaaScRows
namespace Go.Proofs.Ytbohnjiachnadaa.Sc
open Go.RowKit Go.Maps

def upOf (p : Nat → Nat) (k : Nat) : Option Nat := if k = 2 then none else some (p (k + 1))
def put (f : Nat → Value) (k : Nat) (v : Value) : Nat → Value := fun j => if j = k then v else f j
theorem put_same (f : Nat → Value) (k : Nat) (v : Value) : put f k v k = v := if_pos rfl
theorem put_ne (f : Nat → Value) {j k : Nat} (v : Value) (h : j ≠ k) : put f k v j = f j := if_neg h

theorem Node.mono {w : World} {n n' p : Nat} {mv : Value} {up : Option Nat} {f : Bs → Option Bs} (h : Node w n p mv up f) (hn : n ≤ n') : Node w n' p mv up f := by
  refine ⟨h.box, ?_, h.low⟩
  rcases h.map with h | ⟨m, e, D, hD, r⟩
  · exact .inl h
  · exact .inr ⟨m, e, D, hD.mono hn, r⟩

structure Bu (w W : World) (ba bw : Nat) (p : Nat → Nat) (mv un tn : Nat → Value) (L M : List S3) : Prop where
  all : W.heap[ba]? = some (.cells #[ptr (some (p 0)), ptr (some (p 1)), ptr (some (p 2))] 29 (0, 0))
  ref : W.heap[bw]? = some (.cells #[un 0, tn 0, un 1, tn 1, un 2, tn 2] 54 (0, 0))
  node : ∀ k, k < 3 → Node W L.length (p k) (mv k) (upOf p k) (fk L k)
  names : ∀ k, k < 3 → W.ownsRow (bw + 1) 9 1 (un k) (nk M k).length (strV (nk M k))
  texts : ∀ k, k < 3 → W.ownsRow (bw + 1) 9 1 (tn k) (tk M k).length (strV (tk M k))
  ord : w.heap.size ≤ p 2 ∧ p 2 < p 1 ∧ p 1 < p 0 ∧ p 0 < ba ∧ ba < bw
  maps : ∀ j k, j < 3 → k < 3 → j ≠ k → ∀ m, mapBlk (mv j) = some m → mapBlk (mv k) ≠ some m
  mapsw : ∀ k, k < 3 → ∀ m, mapBlk (mv k) = some m → w.heap.size ≤ m
  dUU : ∀ j k, j < 3 → k < 3 → j ≠ k → ∀ g, (un j).ownBlock = some g → (un k).ownBlock ≠ some g
  dTT : ∀ j k, j < 3 → k < 3 → j ≠ k → ∀ g, (tn j).ownBlock = some g → (tn k).ownBlock ≠ some g
  dUT : ∀ j k, j < 3 → k < 3 → ∀ g, (un j).ownBlock = some g → (tn k).ownBlock ≠ some g
  bel : Below w.heap.size w W

variable {w W W' : World} {ba bw : Nat} {p : Nat → Nat} {mv un tn : Nat → Value} {L M : List S3}

theorem Bu.keep (h : Bu w W ba bw p mv un tn L M) (hb : Below W.heap.size W W') : Bu w W' ba bw p mv un tn L M :=
  ⟨(hb.block _ (lt_some h.all)).trans h.all, (hb.block _ (lt_some h.ref)).trans h.ref, fun k hk => (h.node k hk).below hb, fun k hk => owns_below (h.names k hk) hb, fun k hk => owns_below (h.texts k hk) hb, h.ord, h.maps, h.mapsw, h.dUU, h.dTT, h.dUT, h.bel.trans (hb.mono h.bel.size)⟩

theorem Bu.pk (h : Bu w W ba bw p mv un tn L M) {k : Nat} (hk : k < 3) : w.heap.size ≤ p k ∧ p k < ba := by
  have := h.ord
  match k, hk with
  | 0, _ => omega
  | 1, _ => omega
  | 2, _ => omega

theorem Bu.pne (h : Bu w W ba bw p mv un tn L M) {j k : Nat} (hj : j < 3) (hk : k < 3) (hjk : j ≠ k) : p j ≠ p k := by
  have := h.ord
  match j, hj, k, hk with
  | 0, _, 0, _ => omega
  | 0, _, 1, _ => omega
  | 0, _, 2, _ => omega
  | 1, _, 0, _ => omega
  | 1, _, 1, _ => omega
  | 1, _, 2, _ => omega
  | 2, _, 0, _ => omega
  | 2, _, 1, _ => omega
  | 2, _, 2, _ => omega

/-- a name is set at level k -/
theorem Bu.set (h : Bu w W ba bw p mv un tn L M) {k : Nat} (hk : k < 3) {x : S3} (hx : x.lv % 3 = k) (hn : nameB x.name = true) {mv' : Value}
    (hq : SetQ W W' L.length (p k) (mv k) (upOf p k) (fk L k) x.name x.text mv') : Bu w W' ba bw p (put mv k mv') un tn (L ++ [x]) M := by
  have hnk := h.node k hk
  have hpk := h.pk hk
  have hord := h.ord
  have hmapk : ∀ m, mapBlk (mv k) = some m → ∃ es c, W.heap[m]? = some (.map es c) := fun m hm => hnk.map.blk hm
  have hoff : ∀ b, (∃ C t fr, W.heap[b]? = some (.cells C t fr)) → b ≠ p k → W'.heap[b]? = W.heap[b]? := by
    rintro b ⟨C, t, fr, hc⟩ hb
    refine hq.off.block b (lt_some hc) ?_
    rintro (e | e)
    · exact hb e
    · obtain ⟨es, c, hm⟩ := hmapk b e
      rw [hc] at hm
      cases hm
  have hrow : ∀ {v : Value} {n : Nat} {xs : List Value}, W.ownsRow (bw + 1) 9 1 v n xs → W'.ownsRow (bw + 1) 9 1 v n xs := fun ho =>
    owns_kept ho fun g hg => by
      obtain ⟨hge, cur, hc⟩ := owns_block ho hg
      exact hoff g ⟨_, _, _, hc⟩ (by omega)
  have hat : ∀ j, at3 x j = decide (k = j) := fun j => by
    unfold at3
    rw [hn, hx, Bool.and_true]
  refine ⟨(hoff ba ⟨_, _, _, h.all⟩ (by omega)).trans h.all, (hoff bw ⟨_, _, _, h.ref⟩ (by omega)).trans h.ref, fun j hj => ?_, fun j hj => hrow (h.names j hj), fun j hj => hrow (h.texts j hj), h.ord, ?_, ?_, h.dUU, h.dTT, h.dUT, h.bel.trans (hq.below hpk.1 (h.mapsw k hk) h.bel.size)⟩
  · rw [fk_snoc, hat, List.length_append, List.length_singleton]
    by_cases hjk : j = k
    · subst hjk
      rw [put_same, if_pos (by simp)]
      exact hq.node
    · rw [put_ne _ _ hjk, if_neg (by simp; omega)]
      exact (hq.other hnk (h.node j hj) (h.pne hj hk hjk) (h.maps j k hj hk hjk)).mono (by omega)
  · intro i j hi hj hij m hm
    have hlt : ∀ q, q < 3 → ∀ m, mapBlk (mv q) = some m → m < W.heap.size := fun q hq m hm => by
      obtain ⟨es, c, hc⟩ := (h.node q hq).map.blk hm
      exact lt_some hc
    by_cases hik : i = k
    · subst hik
      rw [put_same] at hm
      rw [put_ne _ _ (Ne.symm hij)]
      rcases hq.new with e | ⟨m', e, hge⟩
      · rw [e] at hm; exact h.maps i j hi hj hij m hm
      · rw [e] at hm
        cases hm
        intro e2
        have := hlt j hj m e2
        omega
    · rw [put_ne _ _ hik] at hm
      by_cases hjk : j = k
      · subst hjk
        rw [put_same]
        rcases hq.new with e | ⟨m', e, hge⟩
        · rw [e]; exact h.maps i j hi hj hij m hm
        · rw [e]
          intro e2
          cases e2
          have := hlt i hi m hm
          omega
      · rw [put_ne _ _ hjk]
        exact h.maps i j hi hj hij m hm
  · intro j hj m hm
    by_cases hjk : j = k
    · subst hjk
      rw [put_same] at hm
      rcases hq.new with e | ⟨m', e, hge⟩
      · rw [e] at hm; exact h.mapsw j hj m hm
      · rw [e] at hm
        cases hm
        exact Nat.le_trans h.bel.size hge
    · rw [put_ne _ _ hjk] at hm
      exact h.mapsw j hj m hm

/-- no name: nothing is set -/
theorem Bu.skip (h : Bu w W ba bw p mv un tn L L) {x : S3} (hn : nameB x.name = false) : Bu w W ba bw p mv un tn (L ++ [x]) (L ++ [x]) := by
  have hat : ∀ j, ¬ at3 x j = true := fun j e => by
    unfold at3 at e
    rw [hn, Bool.and_false] at e
    cases e
  refine ⟨h.all, h.ref, fun j hj => ?_, fun j hj => ?_, fun j hj => ?_, h.ord, h.maps, h.mapsw, h.dUU, h.dTT, h.dUT, h.bel⟩
  · rw [fk_snoc, if_neg (hat j), List.length_append]
    exact (h.node j hj).mono (by omega)
  · rw [nk_snoc, if_neg (hat j)]; exact h.names j hj
  · rw [tk_snoc, if_neg (hat j)]; exact h.texts j hj

/-- the document's two rows at level k are longer by one -/
theorem Bu.rows {x : S3} (h : Bu w W ba bw p mv un tn (L ++ [x]) L) {k : Nat} (hk : k < 3) (hx : x.lv % 3 = k) (hn : nameB x.name = true) {u' t' : Value}
    (hp : PS (bw + 1) W W' (un k) (tn k) u' t' ((nk L k).length + 1) ((tk L k).length + 1) (strV (nk L k ++ [x.name])) (strV (tk L k ++ [x.text]))) :
    Bu w ((W'.setCell ⟨bw, k * 2, none⟩ u').setCell ⟨bw, k * 2 + 1, none⟩ t') ba bw p mv (put un k u') (put tn k t') (L ++ [x]) (L ++ [x]) := by
  have hord := h.ord
  have hat : ∀ j, at3 x j = decide (k = j) := fun j => by
    unfold at3
    rw [hn, hx, Bool.and_true]
  have hlow : ∀ b, b < W.heap.size → b ≤ bw → W'.heap[b]? = W.heap[b]? := fun b hb hle => hp.keep b hb
    (fun e => by have := (owns_block (h.names k hk) e.symm).1; omega) (fun e => by have := (owns_block (h.texts k hk) e.symm).1; omega)
  have hmap : ∀ b es c, W.heap[b]? = some (Obj.map es c) → W'.heap[b]? = W.heap[b]? := fun b es c hb => hp.keep b (lt_some hb)
    (fun e => by obtain ⟨_, cur, hc⟩ := owns_block (h.names k hk) e.symm; rw [hb] at hc; cases hc) (fun e => by obtain ⟨_, cur, hc⟩ := owns_block (h.texts k hk) e.symm; rw [hb] at hc; cases hc)
  have hset : ∀ b, b ≠ bw → ((W'.setCell ⟨bw, k * 2, none⟩ u').setCell ⟨bw, k * 2 + 1, none⟩ t').heap[b]? = W'.heap[b]? := fun b hb => (set_other hb).trans (set_other hb)
  have hgeU : ∀ g, u'.ownBlock = some g → bw + 1 ≤ g := fun g hg => (owns_block hp.own1 hg).1
  have hgeT : ∀ g, t'.ownBlock = some g → bw + 1 ≤ g := fun g hg => (owns_block hp.own2 hg).1
  have hothU : ∀ j, j < 3 → j ≠ k → ∀ g, (un j).ownBlock = some g → W'.heap[g]? = W.heap[g]? := fun j hj hjk g hg => by
    obtain ⟨_, cur, hc⟩ := owns_block (h.names j hj) hg
    exact hp.keep g (lt_some hc) (fun e => h.dUU j k hj hk hjk g hg e.symm) (fun e => h.dUT j k hj hk g hg e.symm)
  have hothT : ∀ j, j < 3 → j ≠ k → ∀ g, (tn j).ownBlock = some g → W'.heap[g]? = W.heap[g]? := fun j hj hjk g hg => by
    obtain ⟨_, cur, hc⟩ := owns_block (h.texts j hj) hg
    exact hp.keep g (lt_some hc) (fun e => h.dUT k j hk hj g e.symm hg) (fun e => h.dTT j k hj hk hjk g hg e.symm)
  have hltU : ∀ j, j < 3 → ∀ g, (un j).ownBlock = some g → g < W.heap.size := fun j hj g hg => by
    obtain ⟨_, cur, hc⟩ := owns_block (h.names j hj) hg; exact lt_some hc
  have hltT : ∀ j, j < 3 → ∀ g, (tn j).ownBlock = some g → g < W.heap.size := fun j hj g hg => by
    obtain ⟨_, cur, hc⟩ := owns_block (h.texts j hj) hg; exact lt_some hc
  have hrefW : W'.heap[bw]? = some (.cells #[un 0, tn 0, un 1, tn 1, un 2, tn 2] 54 (0, 0)) := (hlow bw (lt_some h.ref) (Nat.le_refl _)).trans h.ref
  refine ⟨?_, ?_, fun j hj => ?_, fun j hj => ?_, fun j hj => ?_, h.ord, h.maps, h.mapsw, ?_, ?_, ?_, ?_⟩
  · exact (hset ba (by omega)).trans ((hlow ba (lt_some h.all) (by omega)).trans h.all)
  · have h1 := set_block (j := k * 2) (u := u') hrefW
    have h2 := set_block (j := k * 2 + 1) (u := t') h1
    rw [h2]
    match k, hk with
    | 0, _ => simp [put]
    | 1, _ => simp [put]
    | 2, _ => simp [put]
  · have hpj := h.pk hj
    refine (h.node j hj).kept ((hset _ (by omega)).trans (hlow _ (lt_some (h.node j hj).box) (by omega))) fun m hm => ?_
    obtain ⟨es, c, hc⟩ := (h.node j hj).map.blk hm
    refine (hset m ?_).trans (hmap m es c hc)
    rintro rfl
    rw [h.ref] at hc
    cases hc
  · rw [nk_snoc, hat]
    by_cases hjk : j = k
    · subst hjk
      rw [put_same, if_pos (by simp), List.length_append, List.length_singleton]
      exact owns_kept hp.own1 fun g hg => hset g (by have := hgeU g hg; omega)
    · rw [put_ne _ _ hjk, if_neg (by simp; omega)]
      refine owns_kept (h.names j hj) fun g hg => (hset g ?_).trans (hothU j hj hjk g hg)
      have := (owns_block (h.names j hj) hg).1
      omega
  · rw [tk_snoc, hat]
    by_cases hjk : j = k
    · subst hjk
      rw [put_same, if_pos (by simp), List.length_append, List.length_singleton]
      exact owns_kept hp.own2 fun g hg => hset g (by have := hgeT g hg; omega)
    · rw [put_ne _ _ hjk, if_neg (by simp; omega)]
      refine owns_kept (h.texts j hj) fun g hg => (hset g ?_).trans (hothT j hj hjk g hg)
      have := (owns_block (h.texts j hj) hg).1
      omega
  · intro i j hi hj hij g hg
    by_cases hik : i = k
    · subst hik
      rw [put_same] at hg
      rw [put_ne _ _ (Ne.symm hij)]
      intro e
      rcases hp.new1 g hg with h1 | h1
      · exact h.dUU i j hi hj hij g h1 e
      · have := hltU j hj g e; omega
    · rw [put_ne _ _ hik] at hg
      by_cases hjk : j = k
      · subst hjk
        rw [put_same]
        intro e
        rcases hp.new1 g e with h1 | h1
        · exact h.dUU i j hi hj hij g hg h1
        · have := hltU i hi g hg; omega
      · rw [put_ne _ _ hjk]
        exact h.dUU i j hi hj hij g hg
  · intro i j hi hj hij g hg
    by_cases hik : i = k
    · subst hik
      rw [put_same] at hg
      rw [put_ne _ _ (Ne.symm hij)]
      intro e
      rcases hp.new2 g hg with h1 | h1
      · exact h.dTT i j hi hj hij g h1 e
      · have := hltT j hj g e; omega
    · rw [put_ne _ _ hik] at hg
      by_cases hjk : j = k
      · subst hjk
        rw [put_same]
        intro e
        rcases hp.new2 g e with h1 | h1
        · exact h.dTT i j hi hj hij g hg h1
        · have := hltT i hi g hg; omega
      · rw [put_ne _ _ hjk]
        exact h.dTT i j hi hj hij g hg
  · intro i j hi hj g hg
    by_cases hik : i = k
    · subst hik
      rw [put_same] at hg
      by_cases hjk : j = i
      · subst hjk
        rw [put_same]
        exact hp.ne g hg
      · rw [put_ne _ _ hjk]
        intro e
        rcases hp.new1 g hg with h1 | h1
        · exact h.dUT i j hi hj g h1 e
        · have := hltT j hj g e; omega
    · rw [put_ne _ _ hik] at hg
      by_cases hjk : j = k
      · subst hjk
        rw [put_same]
        intro e
        rcases hp.new2 g e with h1 | h1
        · exact h.dUT i j hi hj g hg h1
        · have := hltU i hi g hg; omega
      · rw [put_ne _ _ hjk]
        exact h.dUT i j hi hj g hg
  · have hb1 : Below w.heap.size w W' := by
      refine h.bel.trans ⟨hp.os, hp.tape, hp.output, hp.size, fun b hb => ?_⟩
      have := h.bel.size
      exact hlow b (by omega) (by omega)
    exact (hb1.setCell (p := ⟨bw, k * 2, none⟩) (by show w.heap.size ≤ bw; omega) _).setCell (p := ⟨bw, k * 2 + 1, none⟩) (by show w.heap.size ≤ bw; omega) _
end Go.Proofs.Ytbohnjiachnadaa.Sc
