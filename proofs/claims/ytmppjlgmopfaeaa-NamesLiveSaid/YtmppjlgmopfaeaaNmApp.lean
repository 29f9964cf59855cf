/-
  A Ytmppjlgmopfaeaa MORE: two rows of a book grow, in whatever order.
-/
import Derived.Test.YtmppjlgmopfaeaaNmMem
import Derived.Test.YtmppjlgmopfaeaaRgLate
import Derived.Deep.AppendLies
namespace Go.Proofs.Ytmppjlgmopfaeaa.Lt
open Go
section
variable {P : Program} {ops : Array Oper} {Q : Exit → Act → World → Prop} {md : Region.Mode} {S : World → Prop} {T : List Nat}
/-- two operations may come up next -/
theorem wpAnyL_two {i k : Nat} {oi ok : Oper} {fuel : Nat} {listed : Array Bool} {a : Act} {w : World} (hr : Region.ready md ops listed = [i, k]) (hoi : ops[i]? = some oi) (hok : ops[k]? = some ok)
    (hi : ∀ K' : Act → World → Prop, Shut (∀ a w, (T.contains i = false → S w) → (wpAnyL P md ops Q S T fuel (listed.setIfInBounds i true) a w) → K' a w) → if Region.wanted oi (yielded ops a.tmps) = true then Oper.wp P oi a w K' Q else K' (a.put oi.dst undef) w)
    (hk : ∀ K' : Act → World → Prop, Shut (∀ a w, (T.contains k = false → S w) → (wpAnyL P md ops Q S T fuel (listed.setIfInBounds k true) a w) → K' a w) → if Region.wanted ok (yielded ops a.tmps) = true then Oper.wp P ok a w K' Q else K' (a.put ok.dst undef) w) :
    wpAnyL P md ops Q S T (fuel + 1) listed a w := by
  refine ⟨fun h0 => (by rw [hr] at h0; cases h0), fun j hj => ?_⟩
  rw [hr] at hj
  rcases List.mem_cons.1 hj with rfl | hj
  · exact wpOp_step hoi (fun K' hK => hi K' (fun a w hS hW => hK a w ⟨hS, hW⟩))
  · obtain rfl := List.mem_singleton.1 hj
    exact wpOp_step hok (fun K' hK => hk K' (fun a w hS hW => hK a w ⟨hS, hW⟩))
end
end Go.Proofs.Ytmppjlgmopfaeaa.Lt

namespace Go.Proofs.Ytmppjlgmopfaeaa.Nm
open Go.RowKit Go.Maps

/-- the two rows on their way: nothing older than world w has turned but the rows' own blocks -/
structure Two (w W : World) (v1 v3 n1 f1 : Value) (xs ys : List Value) : Prop where
  names : W.ownsRow 0 9 1 n1 xs.length xs
  found : W.ownsRow 0 85 1 f1 ys.length ys
  nblk : ∀ k, n1.ownBlock = some k → v1.ownBlock = some k ∨ w.heap.size ≤ k
  fblk : ∀ k, f1.ownBlock = some k → v3.ownBlock = some k ∨ w.heap.size ≤ k
  os : W.os = w.os
  tape : W.tape = w.tape
  output : W.output = w.output
  size : w.heap.size ≤ W.heap.size
  block : ∀ k, k < w.heap.size → v1.ownBlock ≠ some k → v3.ownBlock ≠ some k → W.heap[k]? = w.heap[k]?

section
variable {w W : World} {v1 v3 n1 f1 : Value} {xs ys : List Value}

theorem Two.alloc (h : Two w W v1 v3 n1 f1 xs ys) (o : Obj) : Two w (W.alloc o) v1 v3 n1 f1 xs ys :=
  ⟨owns_below h.names (Pk.below_alloc _ _), owns_below h.found (Pk.below_alloc _ _), h.nblk, h.fblk, h.os, h.tape, h.output, by rw [World.size_alloc]; have := h.size; omega,
    fun k hk h1 h2 => (Below.heap_alloc _ _ _ (by have := h.size; omega)).trans (h.block k hk h1 h2)⟩

theorem infoS : (Try.prog.info? 9).map (fun i => (i.zero, i.size, i.bytes)) = some (some (.string ⟨#[]⟩), 1, 16) := by kernel_rfl
theorem infoP : (Try.prog.info? 85).map (fun i => (i.zero, i.size, i.bytes)) = some (some (.pointer Option.none), 1, 8) := by kernel_rfl

theorem two_appN (h : Two w W v1 v3 n1 f1 xs ys) {s : ByteArray} {a : Nat} (ha : W.heap[a]? = some (.cells #[.string s] 9 (0, 0))) (hn : xs.length ≤ 2000000) (ty : TypeId) :
    ∃ b c W', (Builtin.append_ #[27, 27] ty #[n1, .slice (some ⟨a, 0, Option.none⟩) 1 1]).run Try.prog W = .ok (.slice b (xs.length + 1) c) W' ∧ Two w W' v1 v3 (.slice b (xs.length + 1) c) f1 (xs ++ [.string s]) ys ∧
      ∀ (k : Nat) (u : Value), W.heap[k]? = some (.cells #[u] 85 (0, 0)) → W'.heap[k]? = some (.cells #[u] 85 (0, 0)) := by
  obtain ⟨i0, hi, hz0, hz1, hz2⟩ := info_parts infoS
  have hc : ∀ j u, [Value.string s][j]? = some u → W.cell? ((⟨a, 0, Option.none⟩ : Addr).add j) = some u := World.news_of_block (cs := #[.string s]) ha
  obtain ⟨v', W', hr, h2, h3, _, h5⟩ := run_append_own_at (P := Try.prog) W 0 27 ty 9 i0 (.string ⟨#[]⟩) 1 16 Try.underlying27 hi hz0 hz1 hz2 rfl (by decide) n1 xs.length xs h.names ⟨a, 0, Option.none⟩ 1 1 [.string s] rfl hc (by intro u hu; rw [List.mem_singleton] at hu; subst hu; rfl) (by unfold maxLen; omega) (by omega) (Nat.zero_le _)
  obtain ⟨b, c, rfl⟩ := own_slice h2
  have hne : ∀ (k : Nat) (C : Array Value), W.heap[k]? = some (.cells C 85 (0, 0)) → W'.heap[k]? = W.heap[k]? := fun k C hk => h3.block k (lt_some hk) fun e => by
    obtain ⟨_, cur, hc2⟩ := owns_block h.names e.symm
    exact ne_type hk hc2 (by decide) rfl
  refine ⟨b, c, W', hr, ⟨by rw [List.length_append]; exact h2, owns_kept h.found fun k hk => ?_, fun k hk => ?_, h.fblk, h3.os.trans h.os, h3.tape.trans h.tape, h3.output.trans h.output, Nat.le_trans h.size h3.size, fun k hk k1 k3 => (h3.block k (by have := h.size; omega) fun e => ?_).trans (h.block k hk k1 k3)⟩, fun k u hk => (hne k _ hk).trans hk⟩
  · obtain ⟨_, cur, hc2⟩ := owns_block h.found hk
    exact hne k _ hc2
  · rcases h5 with h5 | h5
    · exact h.nblk k (by rw [← h5]; exact hk)
    · rw [h5] at hk; cases hk; exact .inr h.size
  · rcases h.nblk k e.symm with h6 | h6
    · exact k1 h6
    · omega

theorem two_appF (h : Two w W v1 v3 n1 f1 xs ys) {a : Nat} (ha : W.heap[a]? = some (.cells #[.pointer Option.none] 85 (0, 0))) (hn : ys.length ≤ 2000000) (ty : TypeId) :
    ∃ b c W', (Builtin.append_ #[67, 67] ty #[f1, .slice (some ⟨a, 0, Option.none⟩) 1 1]).run Try.prog W = .ok (.slice b (ys.length + 1) c) W' ∧ Two w W' v1 v3 n1 (.slice b (ys.length + 1) c) xs (ys ++ [.pointer Option.none]) ∧
      ∀ (k : Nat) (u : Value), W.heap[k]? = some (.cells #[u] 9 (0, 0)) → W'.heap[k]? = some (.cells #[u] 9 (0, 0)) := by
  obtain ⟨i0, hi, hz0, hz1, hz2⟩ := info_parts infoP
  have hc : ∀ j u, [Value.pointer Option.none][j]? = some u → W.cell? ((⟨a, 0, Option.none⟩ : Addr).add j) = some u := World.news_of_block (cs := #[.pointer Option.none]) ha
  obtain ⟨v', W', hr, h2, h3, _, h5⟩ := run_append_own_at (P := Try.prog) W 0 67 ty 85 i0 (.pointer Option.none) 1 8 Try.underlying67 hi hz0 hz1 hz2 rfl (by decide) f1 ys.length ys h.found ⟨a, 0, Option.none⟩ 1 1 [.pointer Option.none] rfl hc (by intro u hu; rw [List.mem_singleton] at hu; subst hu; rfl) (by unfold maxLen; omega) (by omega) (Nat.zero_le _)
  obtain ⟨b, c, rfl⟩ := own_slice h2
  have hne : ∀ (k : Nat) (C : Array Value), W.heap[k]? = some (.cells C 9 (0, 0)) → W'.heap[k]? = W.heap[k]? := fun k C hk => h3.block k (lt_some hk) fun e => by
    obtain ⟨_, cur, hc2⟩ := owns_block h.found e.symm
    exact ne_type hk hc2 (by decide) rfl
  refine ⟨b, c, W', hr, ⟨owns_kept h.names fun k hk => ?_, by rw [List.length_append]; exact h2, h.nblk, fun k hk => ?_, h3.os.trans h.os, h3.tape.trans h.tape, h3.output.trans h.output, Nat.le_trans h.size h3.size, fun k hk k1 k3 => (h3.block k (by have := h.size; omega) fun e => ?_).trans (h.block k hk k1 k3)⟩, fun k u hk => (hne k _ hk).trans hk⟩
  · obtain ⟨_, cur, hc2⟩ := owns_block h.names hk
    exact hne k _ hc2
  · rcases h5 with h5 | h5
    · exact h.fblk k (by rw [← h5]; exact hk)
    · rw [h5] at hk; cases hk; exact .inr h.size
  · rcases h.fblk k e.symm with h6 | h6
    · exact k3 h6
    · omega
end

theorem step_run {ops : Array Oper} {o : Oper} {a : Act} {w w' : World} {K : Act → World → Prop} {Q : Exit → Act → World → Prop} {E : Prop} (hgd : o.guard = Option.none) (s x : Operand) {t : TypeId}
    (ho : o.op = .call { callee := .builtin .append, args := #[s, x], argTypes := #[t, t] }) {v src v' : Value} (hs : a.eval s = v) (hx : a.eval x = src)
    (hr : (Builtin.append_ #[t, t] o.type #[v, src]).run Try.prog w = .ok v' w') (h : K (a.put o.dst v') w') :
    if Region.wanted o (yielded ops a.tmps) = true then Oper.wp Try.prog o a w K Q else E := by
  rw [if_pos (by simp [Region.wanted, hgd])]
  unfold Oper.wp execOp
  simp only [ho, resolve, invoke, builtin, Sem.run_bind, Sem.run_pure, Result.andThen_ok, List.map_toArray, List.map_cons, List.map_nil, hs, hx, hr]
  exact h
end Go.Proofs.Ytmppjlgmopfaeaa.Nm
