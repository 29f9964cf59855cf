/-
  A Ytofdnbddpageoaa MORE: two rows of a book grow, in whatever order.
-/
import Derived.Test.YtofdnbddpageoaaNmMem
import Derived.Test.YtofdnbddpageoaaRgLate
import Derived.Deep.AppendLies
namespace Go.Proofs.Ytofdnbddpageoaa.Lt
open Go
section
variable {P : Program} {ops : Array Oper} {Q : Exit → Act → World → Prop} {md : Region.Mode} {S : World → Prop} {T : List Nat}
/-- two operations may come up next -/
theorem wpAnyL_two {i k : Nat} {oi ok : Oper} {fuel : Nat} {listed : Array Bool} {a : Act} {w : World} (hr : Region.ready md ops listed = [i, k]) (hoi : ops[i]? = some oi) (hok : ops[k]? = some ok)
    (hi : ∀ K' : Act → World → Prop, Shut (∀ a w, (T.contains i = false → S w) → (wpAnyL P md ops Q S T fuel (listed.setIfInBounds i true) a w) → K' a w) → if Region.wanted oi (yielded ops a.tmps) = true then Oper.wp P oi a w K' Q else K' (a.put oi.dst undef) w)
    (hk : ∀ K' : Act → World → Prop, Shut (∀ a w, (T.contains k = false → S w) → (wpAnyL P md ops Q S T fuel (listed.setIfInBounds k true) a w) → K' a w) → if Region.wanted ok (yielded ops a.tmps) = true then Oper.wp P ok a w K' Q else K' (a.put ok.dst undef) w) :
    wpAnyL P md ops Q S T (fuel + 1) listed a w := by
  refine ⟨fun h0 => (by rw [hr] at h0; cases h0), fun j hj => ?_⟩
  rw [hr] at hj
  rcases List.mem_cons.1 hj with rfl | hj
  · exact wpOp_step hoi (fun K' hK => hi K' (fun a w hS hW => hK a w ⟨hS, hW⟩))
  · obtain rfl := List.mem_singleton.1 hj
    exact wpOp_step hok (fun K' hK => hk K' (fun a w hS hW => hK a w ⟨hS, hW⟩))
end
end Go.Proofs.Ytofdnbddpageoaa.Lt

namespace Go.Proofs.Ytofdnbddpageoaa.Nm
open Go.RowKit Go.Maps

/-- the two rows on their way: nothing older than world w has turned but the rows' own blocks -/
structure Two (w W : World) (v1 v3 n1 f1 : Value) (xs ys : List Value) : Prop where
  names : W.ownsRow 0 9 1 n1 xs.length xs
  found : W.ownsRow 0 85 1 f1 ys.length ys
  nblk : ∀ k, n1.ownBlock = some k → v1.ownBlock = some k ∨ w.heap.size ≤ k
  fblk : ∀ k, f1.ownBlock = some k → v3.ownBlock = some k ∨ w.heap.size ≤ k
  os : W.os = w.os
  tape : W.tape = w.tape
  output : W.output = w.output
  size : w.heap.size ≤ W.heap.size
  block : ∀ k, k < w.heap.size → v1.ownBlock ≠ some k → v3.ownBlock ≠ some k → W.heap[k]? = w.heap[k]?

section
variable {w W : World} {v1 v3 n1 f1 : Value} {xs ys : List Value}

theorem Two.alloc (h : Two w W v1 v3 n1 f1 xs ys) (o : Obj) : Two w (W.alloc o) v1 v3 n1 f1 xs ys :=
  ⟨owns_below h.names (Pk.below_alloc _ _), owns_below h.found (Pk.below_alloc _ _), h.nblk, h.fblk, h.os, h.tape, h.output, by rw [World.size_alloc]; have := h.size; omega,
    fun k hk h1 h2 => (Below.heap_alloc _ _ _ (by have := h.size; omega)).trans (h.block k hk h1 h2)⟩

theorem infoS : (Try.prog.info? 9).map (fun i => (i.zero, i.size, i.bytes)) = some (some (.string ⟨#[]⟩), 1, 16) := by kernel_rfl
theorem infoP : (Try.prog.info? 85).map (fun i => (i.zero, i.size, i.bytes)) = some (some (.pointer Option.none), 1, 8) := by kernel_rfl

theorem two_appN (h : Two w W v1 v3 n1 f1 xs ys) {s : ByteArray} {a : Nat} (ha : W.heap[a]? = some (.cells #[.string s] 9 (0, 0))) (hn : xs.length ≤ 2000000) (ty : TypeId) :
    ∃ b c W', (Builtin.append_ #[27, 27] ty #[n1, .slice (some ⟨a, 0, Option.none⟩) 1 1]).run Try.prog W = .ok (.slice b (xs.length + 1) c) W' ∧ Two w W' v1 v3 (.slice b (xs.length + 1) c) f1 (xs ++ [.string s]) ys ∧
      ∀ (k : Nat) (u : Value), W.heap[k]? = some (.cells #[u] 85 (0, 0)) → W'.heap[k]? = some (.cells #[u] 85 (0, 0)) := by
  obtain ⟨i0, hi, hz0, hz1, hz2⟩ := info_parts infoS
  have hc : ∀ j u, [Value.string s][j]? = some u → W.cell? ((⟨a, 0, Option.none⟩ : Addr).add j) = some u := World.news_of_block (cs := #[.string s]) ha
  obtain ⟨v', W', hr, h2, h3, _, h5⟩ := run_append_own_at (P := Try.prog) W 0 27 ty 9 i0 (.string ⟨#[]⟩) 1 16 Try.underlying27 hi hz0 hz1 hz2 rfl (by decide) n1 xs.length xs h.names ⟨a, 0, Option.none⟩ 1 1 [.string s] rfl hc (by intro u hu; rw [List.mem_singleton] at hu; subst hu; rfl) (by unfold maxLen; omega) (by omega) (Nat.zero_le _)
  obtain ⟨b, c, rfl⟩ := own_slice h2
  have hne : ∀ (k : Nat) (C : Array Value), W.heap[k]? = some (.cells C 85 (0, 0)) → W'.heap[k]? = W.heap[k]? := fun k C hk => h3.block k (lt_some hk) fun e => by
    obtain ⟨_, cur, hc2⟩ := owns_block h.names e.symm
    exact ne_type hk hc2 (by decide) rfl
  refine ⟨b, c, W', hr, ⟨by rw [List.length_append]; exact h2, owns_kept h.found fun k hk => ?_, fun k hk => ?_, h.fblk, h3.os.trans h.os, h3.tape.trans h.tape, h3.output.trans h.output, Nat.le_trans h.size h3.size, fun k hk k1 k3 => (h3.block k (by have := h.size; omega) fun e => ?_).trans (h.block k hk k1 k3)⟩, fun k u hk => (hne k _ hk).trans hk⟩
  · obtain ⟨_, cur, hc2⟩ := owns_block h.found hk
    exact hne k _ hc2
  · rcases h5 with h5 | h5
    · exact h.nblk k (by rw [← h5]; exact hk)
    · rw [h5] at hk; cases hk; exact .inr h.size
  · rcases h.nblk k e.symm with h6 | h6
    · exact k1 h6
    · omega

theorem two_appF (h : Two w W v1 v3 n1 f1 xs ys) {a : Nat} (ha : W.heap[a]? = some (.cells #[.pointer Option.none] 85 (0, 0))) (hn : ys.length ≤ 2000000) (ty : TypeId) :
    ∃ b c W', (Builtin.append_ #[67, 67] ty #[f1, .slice (some ⟨a, 0, Option.none⟩) 1 1]).run Try.prog W = .ok (.slice b (ys.length + 1) c) W' ∧ Two w W' v1 v3 n1 (.slice b (ys.length + 1) c) xs (ys ++ [.pointer Option.none]) ∧
      ∀ (k : Nat) (u : Value), W.heap[k]? = some (.cells #[u] 9 (0, 0)) → W'.heap[k]? = some (.cells #[u] 9 (0, 0)) := by
  obtain ⟨i0, hi, hz0, hz1, hz2⟩ := info_parts infoP
  have hc : ∀ j u, [Value.pointer Option.none][j]? = some u → W.cell? ((⟨a, 0, Option.none⟩ : Addr).add j) = some u := World.news_of_block (cs := #[.pointer Option.none]) ha
  obtain ⟨v', W', hr, h2, h3, _, h5⟩ := run_append_own_at (P := Try.prog) W 0 67 ty 85 i0 (.pointer Option.none) 1 8 Try.underlying67 hi hz0 hz1 hz2 rfl (by decide) f1 ys.length ys h.found ⟨a, 0, Option.none⟩ 1 1 [.pointer Option.none] rfl hc (by intro u hu; rw [List.mem_singleton] at hu; subst hu; rfl) (by unfold maxLen; omega) (by omega) (Nat.zero_le _)
  obtain ⟨b, c, rfl⟩ := own_slice h2
  have hne : ∀ (k : Nat) (C : Array Value), W.heap[k]? = some (.cells C 9 (0, 0)) → W'.heap[k]? = W.heap[k]? := fun k C hk => h3.block k (lt_some hk) fun e => by
    obtain ⟨_, cur, hc2⟩ := owns_block h.found e.symm
    exact ne_type hk hc2 (by decide) rfl
  refine ⟨b, c, W', hr, ⟨owns_kept h.names fun k hk => ?_, by rw [List.length_append]; exact h2, h.nblk, fun k hk => ?_, h3.os.trans h.os, h3.tape.trans h.tape, h3.output.trans h.output, Nat.le_trans h.size h3.size, fun k hk k1 k3 => (h3.block k (by have := h.size; omega) fun e => ?_).trans (h.block k hk k1 k3)⟩, fun k u hk => (hne k _ hk).trans hk⟩
  · obtain ⟨_, cur, hc2⟩ := owns_block h.names hk
    exact hne k _ hc2
  · rcases h5 with h5 | h5
    · exact h.fblk k (by rw [← h5]; exact hk)
    · rw [h5] at hk; cases hk; exact .inr h.size
  · rcases h.fblk k e.symm with h6 | h6
    · exact k3 h6
    · omega
end

theorem step_run {ops : Array Oper} {o : Oper} {a : Act} {w w' : World} {K : Act → World → Prop} {Q : Exit → Act → World → Prop} {E : Prop} (hgd : o.guard = Option.none) (s x : Operand) {t : TypeId}
    (ho : o.op = .call { callee := .builtin .append, args := #[s, x], argTypes := #[t, t] }) {v src v' : Value} (hs : a.eval s = v) (hx : a.eval x = src)
    (hr : (Builtin.append_ #[t, t] o.type #[v, src]).run Try.prog w = .ok v' w') (h : K (a.put o.dst v') w') :
    if Region.wanted o (yielded ops a.tmps) = true then Oper.wp Try.prog o a w K Q else E := by
  rw [if_pos (by simp [Region.wanted, hgd])]
  unfold Oper.wp execOp
  simp only [ho, resolve, invoke, builtin, Sem.run_bind, Sem.run_pure, Result.andThen_ok, List.map_toArray, List.map_cons, List.map_nil, hs, hx, hr]
  exact h
end Go.Proofs.Ytofdnbddpageoaa.Nm

/-! A Ytofdnbddpageoaa MORE IN A BOOK: what stands behind the stores. -/
namespace Go.Proofs.Ytofdnbddpageoaa.Nm
open Go.RowKit Go.Maps

theorem map_ne {w : World} {p m : Nat} {C : Array Value} {t : TypeId} {fr : Nat × Nat} {es : Array MapEntry} {c : Nat} (h : w.heap[p]? = some (.cells C t fr)) (h' : w.heap[m]? = some (.map es c)) : p ≠ m := by
  rintro rfl
  rw [h] at h'
  cases h'

theorem box_set {w : World} {p j : Nat} {C : Array Value} {t : TypeId} (h : w.heap[p]? = some (.cells C t (0, 0))) (u : Value) : (w.setCell ⟨p, j, Option.none⟩ u).heap[p]? = some (.cells (C.setIfInBounds j u) t (0, 0)) :=
  heap_setCell_same w p j C t u h

theorem ofN_none {N : List ByteArray} (h : ofN N = fun _ => Option.none) : N = [] := by
  cases N with
  | nil => rfl
  | cons s N =>
    exfalso
    obtain ⟨i, hi⟩ := ixOf_mem (N := s :: N) (s := s) (by simp)
    have := congrFun h (bsOf s)
    rw [ofN_at, hi] at this
    cases this

section
variable {S : Nat → Prop} {W W2 W4 : World} {p m : Nat} {B : Bo} {v1 v2 v3 n1 f1 : Value} {Q : List (Option Nat)} {s : ByteArray}

theorem Bk.ne1 (h : Bk S W p B v1 v2 v3 Q) : v1.ownBlock ≠ some p := fun e => by
  obtain ⟨_, cur, hc⟩ := owns_block h.names e
  exact ne_type h.box hc (by decide) rfl
theorem Bk.ne3 (h : Bk S W p B v1 v2 v3 Q) : v3.ownBlock ≠ some p := fun e => by
  obtain ⟨_, cur, hc⟩ := owns_block h.found e
  exact ne_type h.box hc (by decide) rfl
theorem Bk.ne2 (h : Bk S W p B v1 v2 v3 Q) : mapBlk v2 ≠ some p := fun e => by
  obtain ⟨es, c, hc⟩ := h.map.blk e
  exact map_ne h.box hc rfl

/-- a map is laid where there was none -/
theorem bk_mapped (h : Bk S W p B v1 (.map Option.none) v3 Q) :
    Bk (more S W ((W.alloc (.map #[] 0)).setCell ⟨p, 1, Option.none⟩ (.map (some W.heap.size)))) ((W.alloc (.map #[] 0)).setCell ⟨p, 1, Option.none⟩ (.map (some W.heap.size))) p B v1 (.map (some W.heap.size)) v3 Q ∧
      Mod S W ((W.alloc (.map #[] 0)).setCell ⟨p, 1, Option.none⟩ (.map (some W.heap.size))) := by
  obtain ⟨W1, hW1⟩ : ∃ W1, (W.alloc (.map #[] 0)).setCell ⟨p, 1, Option.none⟩ (.map (some W.heap.size)) = W1 := ⟨_, rfl⟩
  have hpl := lt_some h.box
  have z1 : (W.alloc (.map #[] 0)).heap.size = W.heap.size + 1 := Array.size_push _
  have hsz : W1.heap.size = W.heap.size + 1 := by rw [← hW1, ← z1]; simp [World.setCell]
  have hk : ∀ k, k < W.heap.size → k ≠ p → W1.heap[k]? = W.heap[k]? := fun k hk hp => by
    rw [← hW1, Below.heap_setCell _ _ _ _ (fun e => hp e)]
    exact Below.heap_alloc _ _ _ hk
  have hm : W1.heap[W.heap.size]? = some (.map #[] 0) := by
    rw [← hW1, Below.heap_setCell _ _ _ _ (fun e => by have : W.heap.size = p := e; omega)]
    exact heap_alloc_new _ _
  have hN : B.N = [] := by
    rcases h.map with ⟨_, e⟩ | ⟨m, e, _⟩
    · exact ofN_none e
    · cases e
  have hmod : Mod S W W1 := ⟨by rw [← hW1]; rfl, by rw [← hW1]; rfl, by rw [← hW1]; rfl, by omega, fun k hkk hs => hk k hkk (by rintro rfl; exact hs h.inS)⟩
  have hw : ∀ k, S k → more S W W1 k := fun k hk => .inl hk
  rw [hW1]
  refine ⟨?_, hmod⟩
  refine ⟨?_, .inl h.inS, owns_kept h.names fun g hg => hk g (h.names.lt g hg).2 (by rintro rfl; exact h.ne1 hg), fun k hk' => .inl (h.namesS k hk'), .inr ⟨_, rfl, ?_⟩, fun k hk' => ?_, owns_kept h.found fun g hg => hk g (h.found.lt g hg).2 (by rintro rfl; exact h.ne3 hg), fun k hk' => .inl (h.foundS k hk'), h.len, h.qlen, h.no, fun i fd hi => ?_, h.nums, h.few, h.short⟩
  · rw [← hW1, box_set ((Below.heap_alloc _ _ _ hpl).trans h.box)]
    rfl
  · have := (Mi.made W).kept (w' := W1) (by rw [hm]; exact (heap_alloc_new _ _).symm)
    rw [hN]
    exact this
  · cases hk'
    exact .inr ⟨Nat.le_refl _, by omega⟩
  · obtain ⟨q, h1, h2⟩ := h.yes i fd hi
    obtain ⟨v, c1, c2, c3⟩ := h2.ex
    have hqp : q ≠ p := fun e => by subst e; exact ne_type h.box c1 (by decide) rfl
    refine ⟨q, h1, .inl h2.inS, v, (hk q (lt_some c1) hqp).trans c1, owns_kept c2 fun g hg => hk g (c2.lt g hg).2 ?_, fun k hk' => .inl (c3 k hk')⟩
    rintro rfl
    obtain ⟨_, cur, hc⟩ := owns_block c2 hg
    exact ne_type h.box hc (by decide) rfl

/-- a name more -/
theorem bk_named (h : Bk S W p B v1 (.map (some m)) v3 Q) (hs : s.size ≤ 1000000) (hN : B.N.length < 1000000) (hmi : Mi W2 (B.N.length + 1) m (ofN (B.N ++ [s]))) (hg : W.grownBy W2 (some m)) (hz : W2.heap.size = W.heap.size)
    (hT : Two W2.drew W4 v1 v3 n1 f1 (strV B.N ++ [.string s]) (Q.map ptrO ++ [.pointer Option.none])) :
    Bk (more S W ((W4.setCell ⟨p, 0, Option.none⟩ n1).setCell ⟨p, 2, Option.none⟩ f1)) ((W4.setCell ⟨p, 0, Option.none⟩ n1).setCell ⟨p, 2, Option.none⟩ f1) p ⟨B.N ++ [s], B.F ++ [Option.none]⟩ n1 (.map (some m)) f1 (Q ++ [Option.none]) ∧
      Mod S W ((W4.setCell ⟨p, 0, Option.none⟩ n1).setCell ⟨p, 2, Option.none⟩ f1) := by
  obtain ⟨W5, hW5⟩ : ∃ W5, (W4.setCell ⟨p, 0, Option.none⟩ n1).setCell ⟨p, 2, Option.none⟩ f1 = W5 := ⟨_, rfl⟩
  have hpl := lt_some h.box
  have z4 : W.heap.size ≤ W4.heap.size := by have := hT.size; have e : W2.drew.heap.size = W2.heap.size := rfl; omega
  have z5 : W5.heap.size = W4.heap.size := by rw [← hW5]; simp [World.setCell]
  have hpm : p ≠ m := fun e => h.ne2 (by subst e; rfl)
  have h4 : ∀ k, k < W.heap.size → k ≠ m → v1.ownBlock ≠ some k → v3.ownBlock ≠ some k → W4.heap[k]? = W.heap[k]? := fun k hk k2 k1 k3 => (hT.block k (by show k < W2.heap.size; omega) k1 k3).trans (hg.block k hk (fun e => k2 (Option.some.inj e)))
  have h5 : ∀ k, k ≠ p → W5.heap[k]? = W4.heap[k]? := fun k hk => by
    rw [← hW5, Below.heap_setCell _ _ _ _ (fun e => hk e), Below.heap_setCell _ _ _ _ (fun e => hk e)]
  have hk : ∀ k, k < W.heap.size → k ≠ p → k ≠ m → v1.ownBlock ≠ some k → v3.ownBlock ≠ some k → W5.heap[k]? = W.heap[k]? := fun k hk hp k2 k1 k3 => (h5 k hp).trans (h4 k hk k2 k1 k3)
  have hb4 : W4.heap[p]? = some (.cells #[v1, .map (some m), v3] 69 (0, 0)) := (h4 p hpl hpm h.ne1 h.ne3).trans h.box
  have hmod : Mod S W W5 := by
    refine ⟨?_, ?_, ?_, by omega, fun k hkk hs => hk k hkk (by rintro rfl; exact hs h.inS) (by rintro rfl; exact hs (h.mapS k rfl)) (fun e => hs (h.namesS k e)) (fun e => hs (h.foundS k e))⟩
    · rw [← hW5]; exact hT.os.trans hg.os
    · rw [← hW5]; exact hT.tape.trans hg.tape
    · rw [← hW5]; exact hT.output.trans hg.output
  have hnp : ∀ {v : Value} {e : TypeId} {n : Nat} {xs : List Value}, W4.ownsRow 0 e 1 v n xs → e ≠ 69 → ∀ g, v.ownBlock = some g → g ≠ p := fun {v e n xs} hv hne g hg => by
    rintro rfl
    obtain ⟨_, cur, hc⟩ := owns_block hv hg
    exact ne_type hb4 hc (fun e => hne e.symm) rfl
  obtain ⟨es0, c0, hm0⟩ := hmi.map
  rw [hW5]
  refine ⟨?_, hmod⟩
  refine ⟨?_, .inl h.inS, ?_, fun k hk' => ?_, .inr ⟨m, rfl, ?_⟩, fun k hk' => ?_, ?_, fun k hk' => ?_, ?_, ?_, fun i hi => ?_, fun i fd hi => ?_, fun i fd hi => ?_, ?_, ?_⟩
  · rw [← hW5, box_set (box_set hb4 n1) f1]
    rfl
  · have := owns_kept (w' := W5) hT.names fun g hg => h5 g (hnp hT.names (by decide) g hg)
    rw [List.length_append] at this
    simpa [strV] using this
  · rcases hT.nblk k hk' with h6 | h6
    · exact .inl (h.namesS k h6)
    · exact .inr ⟨by have e : W2.drew.heap.size = W2.heap.size := rfl; omega, by have := (hT.names.lt k hk').2; omega⟩
  · have hml : m < W.heap.size := map_blk h.map rfl
    have e4 : W4.heap[m]? = W2.heap[m]? := hT.block m (by show m < W2.heap.size; omega) (fun e => by
      obtain ⟨_, cur, hc⟩ := owns_block h.names e
      obtain ⟨es, c, hc2⟩ := h.map.blk rfl
      exact map_ne hc hc2 rfl) (fun e => by
      obtain ⟨_, cur, hc⟩ := owns_block h.found e
      obtain ⟨es, c, hc2⟩ := h.map.blk rfl
      exact map_ne hc hc2 rfl)
    have := hmi.kept (w' := W5) ((h5 m (fun e => hpm e.symm)).trans e4)
    simpa using this
  · cases hk'
    exact .inl (h.mapS m rfl)
  · have := owns_kept (w' := W5) hT.found fun g hg => h5 g (hnp hT.found (by decide) g hg)
    rw [List.length_append, List.length_map, h.qlen] at this
    simpa [ptrO] using this
  · rcases hT.fblk k hk' with h6 | h6
    · exact .inl (h.foundS k h6)
    · exact .inr ⟨by have e : W2.drew.heap.size = W2.heap.size := rfl; omega, by have := (hT.found.lt k hk').2; omega⟩
  · simp [h.len]
  · simp [h.qlen]
  · rcases Nat.lt_or_ge i B.F.length with hl | hl
    · rw [List.getElem?_append_left hl] at hi
      rw [List.getElem?_append_left (by rw [h.qlen]; exact hl)]
      exact h.no i hi
    · have hil := (List.getElem?_eq_some_iff.1 hi).1
      simp at hil
      have : i = B.F.length := by omega
      subst this
      rw [List.getElem?_append_right (by rw [h.qlen]; exact Nat.le_refl _), h.qlen]
      simp
  · rcases Nat.lt_or_ge i B.F.length with hl | hl
    · rw [List.getElem?_append_left hl] at hi
      obtain ⟨q, h1, h2⟩ := h.yes i fd hi
      obtain ⟨v, c1, c2, c3⟩ := h2.ex
      have kk : ∀ (k : Nat) (C : Array Value) (t : TypeId), W.heap[k]? = some (.cells C t (0, 0)) → t ≠ 9 → t ≠ 85 → t ≠ 69 → W5.heap[k]? = W.heap[k]? := fun k C t hc t1 t2 t3 => by
        refine hk k (lt_some hc) (fun e => ?_) (fun e => ?_) (fun e => ?_) (fun e => ?_)
        · subst e; exact ne_type hc h.box t3 rfl
        · obtain ⟨es, c, hc2⟩ := h.map.blk rfl
          exact map_ne hc hc2 e
        · obtain ⟨_, cur, hc2⟩ := owns_block h.names e
          exact ne_type hc hc2 t1 rfl
        · obtain ⟨_, cur, hc2⟩ := owns_block h.found e
          exact ne_type hc hc2 t2 rfl
      refine ⟨q, by rw [List.getElem?_append_left (by rw [h.qlen]; exact hl)]; exact h1, .inl h2.inS, v, (kk q _ _ c1 (by decide) (by decide) (by decide)).trans c1, owns_kept c2 fun g hg => ?_, fun k hk' => .inl (c3 k hk')⟩
      obtain ⟨_, cur, hc⟩ := owns_block c2 hg
      exact kk g _ _ hc (by decide) (by decide) (by decide)
    · rw [List.getElem?_append_right hl] at hi
      have hil := (List.getElem?_eq_some_iff.1 hi).1
      simp at hil
      have : i - B.F.length = 0 := by omega
      rw [this] at hi
      simp at hi
  · rcases Nat.lt_or_ge i B.F.length with hl | hl
    · rw [List.getElem?_append_left hl] at hi
      obtain ⟨h1, h2, h3⟩ := h.nums i fd hi
      exact ⟨fun n hn => by have := h1 n hn; simp; omega, h2, h3⟩
    · rw [List.getElem?_append_right hl] at hi
      have hil := (List.getElem?_eq_some_iff.1 hi).1
      simp at hil
      have : i - B.F.length = 0 := by omega
      rw [this] at hi
      simp at hi
  · simp; omega
  · intro x hx
    rcases List.mem_append.1 hx with hx | hx
    · exact h.short x hx
    · rw [List.mem_singleton.1 hx]; exact hs
end
end Go.Proofs.Ytofdnbddpageoaa.Nm
