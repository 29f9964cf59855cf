/-
  A TELLING: the record that grows beside the records of new names.
-/
import Derived.Test.YtmppjlgmopfaeaaNmNumber
namespace Go.Proofs.Ytmppjlgmopfaeaa.Nm
open Go.RowKit Go.Maps

theorem app_bytes {W : World} {base base2 : Nat} {v : Value} {n : Nat} {xs ys : List Nat} {a2 : Option Addr} {m c2 : Nat} (hown : W.ownsRow base 5 1 v n (Pk.bytesV xs)) (hrow : W.ownsRow base2 5 1 (.slice a2 m c2) m (Pk.bytesV ys)) (hy : 0 < m) (hb : n + m ≤ 100000000) (hbase : base ≤ W.heap.size) :
    ∃ a' c' W', (Builtin.append_ #[32, 32] 32 #[v, .slice a2 m c2]).run Try.prog W = .ok (.slice a' (n + m) c') W' ∧ W'.ownsRow base 5 1 (.slice a' (n + m) c') (n + m) (Pk.bytesV (xs ++ ys)) ∧ W.grownBy W' v.ownBlock ∧ ∀ k, (Value.slice a' (n + m) c').ownBlock = some k → v.ownBlock = some k ∨ k = W.heap.size := by
  obtain ⟨i0, hi, hz0, hz1, hz2⟩ := info_parts Pk.info5
  rcases own_at hrow with ⟨_, h0⟩ | ⟨g, cap, e, _, _, _, hc⟩
  · omega
  · obtain ⟨rfl, -, rfl⟩ := Value.slice.inj e
    have hcells : ∀ j u, (Pk.bytesV ys)[j]? = some u → W.cell? ((⟨g, 0, Option.none⟩ : Addr).add j) = some u := fun j u hj => by
      rw [Go.WideShapes.add_plain, Nat.zero_add]
      exact hc j u hj
    obtain ⟨v', W', hr, h2, h3, _, h5⟩ := run_append_own_at (P := Try.prog) W base 32 32 5 i0 (.int .u8 0) 1 1 Try.underlying32 hi hz0 hz1 hz2 rfl (by decide) v n (Pk.bytesV xs) hown ⟨g, 0, Option.none⟩ m c2 (Pk.bytesV ys) (by have := hrow.1; omega) hcells (Pk.one_bytes ys) (by unfold maxLen; omega) (by omega) hbase
    obtain ⟨a', c', rfl⟩ := own_slice h2
    refine ⟨a', c', W', hr, by rw [Pk.bytesV_append]; exact h2, h3, fun k hk => ?_⟩
    rcases h5 with h5 | h5
    · exact .inl (by rw [← h5]; exact hk)
    · rw [h5] at hk
      exact .inr (Option.some.inj hk).symm

section
variable {V W W' : World} {p b2 b6 b5 fm : Nat} {vr : Value} {N K : List ByteArray} {recs : List (List Nat)} {S : Nat → Prop} {F : List (Option Fd)} {o o' : Option Nat}

theorem Ts.avoid (h : Ts V W p b2 b6 b5 fm vr N K recs S F o) (hb : Below W.heap.size W W') (ho : ∀ k, o' = some k → W.heap.size ≤ k ∧ k < W'.heap.size) : Ts V W' p b2 b6 b5 fm vr N K recs S F o' := by
  have h2 := h.below hb
  exact ⟨h2.h2, h2.h6, h2.h5, (h.rows.avoid fun k hk => (ho k hk).1).below hb, fun k hk => (ho k hk).2, h2.fresh, h2.low, h2.book, h2.inS, h2.bel⟩

/-- the record has grown -/
theorem Ts.grow {v v' : Value} {n n' : Nat} {xs ys : List Value} (h : Ts V W p b2 b6 b5 fm vr N K recs S F v.ownBlock) (hv : W.ownsRow V.heap.size 5 1 v n xs) (hg : W.grownBy W' v.ownBlock) (hv' : W'.ownsRow V.heap.size 5 1 v' n' ys) (hn : ∀ k, v'.ownBlock = some k → v.ownBlock = some k ∨ k = W.heap.size) :
    Ts V W' p b2 b6 b5 fm vr N K recs S F v'.ownBlock := by
  have kt : ∀ (k : Nat) (C : Array Value) (t : TypeId), W.heap[k]? = some (.cells C t (0, 0)) → t ≠ 5 → W'.heap[k]? = W.heap[k]? := fun k C t hc ht => hg.block k (lt_some hc) fun e => by
    obtain ⟨_, cur, hc2⟩ := owns_block hv e.symm
    exact ne_type hc hc2 ht rfl
  obtain ⟨es, c, hm⟩ := h.fresh.mi.map
  have kf : W'.heap[fm]? = W.heap[fm]? := hg.block fm (lt_some hm) fun e => by
    obtain ⟨_, cur, hc2⟩ := owns_block hv e.symm
    exact map_ne hc2 hm rfl
  refine ⟨(kt _ _ _ h.h2 (by decide)).trans h.h2, (kt _ _ _ h.h6 (by decide)).trans h.h6, (kt _ _ _ h.h5 (by decide)).trans h.h5, ?_, fun k hk => (hv'.lt k hk).2, h.fresh.kept kf, h.low, h.book, h.inS, h.bel.trans ⟨hg.os, hg.tape, hg.output, hg.size, fun k hk => hg.block k (by have := h.bel.size; omega) fun e => by have := (hv.lt k e.symm).1; omega⟩⟩
  obtain ⟨vs, r1, r2⟩ := h.rows
  refine ⟨vs, owns_kept r1 fun k hk => ?_, fun j r hj => ?_⟩
  · obtain ⟨_, cur, hc⟩ := owns_block r1 hk
    exact kt k _ _ hc (by decide)
  · obtain ⟨u, h3, h4, h5⟩ := r2 j r hj
    refine ⟨u, h3, owns_kept h4 fun k hk => hg.block k (h4.lt k hk).2 (fun e => h5 k hk e.symm), fun k hk e => ?_⟩
    rcases hn k e with h6 | h6
    · exact h5 k hk h6
    · have := (h4.lt k hk).2; omega

/-- the record stands while a number is told -/
theorem nu_row {v : Value} {n : Nat} {xs : List Value} (h : Ts V W p b2 b6 b5 fm vr N K recs S F o) (hv : W.ownsRow V.heap.size 5 1 v n xs) (hm : Mod (fun k => k = fm ∨ k = b5 ∨ vr.ownBlock = some k) W W') : W'.ownsRow V.heap.size 5 1 v n xs :=
  owns_kept hv fun k hk => by
    obtain ⟨_, cur, hc⟩ := owns_block hv hk
    refine hm.block k (lt_some hc) ?_
    rintro (e | e | e)
    · obtain ⟨es, c, hm2⟩ := h.fresh.mi.map
      exact map_ne hc hm2 e
    · exact ne_type hc h.h5 (by decide) e
    · obtain ⟨_, cur2, hc2⟩ := h.rows.blk e
      exact ne_type hc hc2 (by decide) rfl
end

theorem wpList_append_b {w w2 : World} {ops : Array Oper} {rest : List Oper} {o : Oper} {a : Act} {Q : Exit → Act → World → Prop} (hgd : o.guard = Option.none) (s x : Operand)
    (ho : o.op = .call { callee := .builtin .append, args := #[s, x], argTypes := #[32, 32] }) (hty : o.type = 32) (v1 v2 v : Value) (hs : a.eval s = v1) (hx : a.eval x = v2)
    (hrun : (Builtin.append_ #[32, 32] 32 #[v1, v2]).run Try.prog w = .ok v w2) (h : wpList Try.prog ops Q rest (a.put o.dst v) w2) : wpList Try.prog ops Q (o :: rest) a w := by
  refine wpList_plain hgd fun K hK => ?_
  unfold Oper.wp
  simp [execOp, ho, hty, resolve, invoke, builtin, hs, hx, hrun, Result.andThen]
  exact hK _ _ h
end Go.Proofs.Ytmppjlgmopfaeaa.Nm
