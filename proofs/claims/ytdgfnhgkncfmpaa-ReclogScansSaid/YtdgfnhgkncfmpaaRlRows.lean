/-
  ROWS OF RECORDS THAT THE CALL HAS MADE; bytes that are compared.
-/
import Derived.Test.YtdgfnhgkncfmpaaRlScan
namespace Go.Proofs.Ytdgfnhgkncfmpaa.Rl
open Go.RowKit Go.Maps

variable {w : World}

/-- rows of bytes of the call's own -/
def Rows (base : Nat) (w : World) (v : Value) (rs : List (List UInt8)) : Prop :=
  ∃ vs : List Value, w.ownsRow base 23 1 v rs.length vs ∧ ∀ (j : Nat) (r : List UInt8), rs[j]? = some r → ∃ u, vs[j]? = some u ∧ w.ownsRow base 5 1 u r.length (bytesV r)

theorem rows_nil (base : Nat) (w : World) : Rows base w (.slice none 0 0) [] := ⟨[], World.ownsRow_nil _ _ _ _, fun j r hj => by cases hj⟩
theorem Rows.val {base : Nat} {v : Value} {rs : List (List UInt8)} (h : Rows base w v rs) : ∃ a c, v = .slice a rs.length c := by
  obtain ⟨vs, h, _⟩ := h
  exact row_len h
theorem owns_mono1 {w : World} {b b' : Nat} {e : TypeId} {size : Nat} {v : Value} {n : Nat} {xs : List Value} (h : w.ownsRow b e size v n xs) (hb : b' ≤ b) : w.ownsRow b' e size v n xs := by
  refine ⟨h.1, ?_⟩
  rcases h.2 with h | ⟨g, cap, cur, h1, h2, h3⟩
  · exact .inl h
  · exact .inr ⟨g, cap, cur, h1, by omega, h3⟩
theorem Rows.mono {base base' : Nat} {v : Value} {rs : List (List UInt8)} (h : Rows base w v rs) (hb : base' ≤ base) : Rows base' w v rs := by
  obtain ⟨vs, h1, h2⟩ := h
  refine ⟨vs, owns_mono1 h1 hb, fun j r hj => ?_⟩
  obtain ⟨u, h3, h4⟩ := h2 j r hj
  exact ⟨u, h3, owns_mono1 h4 hb⟩
theorem Rows.keptBy {base : Nat} {v : Value} {rs : List (List UInt8)} (h : Rows base w v rs) {w' : World} (hb : ∀ k, base ≤ k → k < w.heap.size → w'.heap[k]? = w.heap[k]?) : Rows base w' v rs := by
  obtain ⟨vs, h1, h2⟩ := h
  refine ⟨vs, row_kept h1 fun k hk => hb k (h1.lt k hk).1 (h1.lt k hk).2, fun j r hj => ?_⟩
  obtain ⟨u, h3, h4⟩ := h2 j r hj
  exact ⟨u, h3, row_kept h4 fun k hk => hb k (h4.lt k hk).1 (h4.lt k hk).2⟩
theorem Rows.below {base : Nat} {v : Value} {rs : List (List UInt8)} (h : Rows base w v rs) {w' : World} (hb : Below w.heap.size w w') : Rows base w' v rs := h.keptBy fun k _ hk => hb.block k hk
theorem Rows.mat {base : Nat} {v : Value} {rs : List (List UInt8)} (h : Rows base w v rs) : Mat w v rs := by
  obtain ⟨vs, h1, h2⟩ := h
  obtain ⟨a, c, rfl⟩ := row_len h1
  refine ⟨a, c, rfl, fun j r hj => ?_⟩
  obtain ⟨u, h3, h4⟩ := h2 j r hj
  have hlt := (List.getElem?_eq_some_iff.1 hj).1
  rcases h1.2 with ⟨_, h0⟩ | ⟨g, cap, cur, e, _, hg, _⟩
  · omega
  · cases e
    refine ⟨g, 0, u, rfl, lt_of_some hg, ?_, row_bytes h4⟩
    have := h1.cells (g := g) rfl j u h3
    rwa [Go.WideShapes.add_plain] at this

theorem infoRow : (Try.prog.info? 23).map (fun i => (i.zero, i.size, i.bytes)) = some (some (.slice none 0 0), 1, 24) := by kernel_rfl

theorem wpList_append_rows {w w2 : World} {ops : Array Oper} {rest : List Oper} {o : Oper} {a : Act} {Q : Exit → Act → World → Prop} (hgd : o.guard = none) (s x : Operand)
    (ho : o.op = .call { callee := .builtin .append, args := #[s, x], argTypes := #[54, 54] }) (hty : o.type = 54) (v1 v2 v : Value) (hs : a.eval s = v1) (hx : a.eval x = v2)
    (hrun : (Builtin.append_ #[54, 54] 54 #[v1, v2]).run Try.prog w = .ok v w2) (h : wpList Try.prog ops Q rest (a.put o.dst v) w2) : wpList Try.prog ops Q (o :: rest) a w := by
  refine wpList_plain hgd fun K hK => ?_
  unfold Oper.wp
  simp [execOp, ho, hty, resolve, invoke, builtin, hs, hx, hrun, Result.andThen]
  exact hK _ _ h

/-- a record more -/
theorem rows_app {base base' : Nat} {a : Option Addr} {c : Nat} {u : Value} {rs : List (List UInt8)} {r : List UInt8} (h : Rows base w (.slice a rs.length c) rs) (hu : w.ownsRow base' 5 1 u r.length (bytesV r)) (hbb : base ≤ base') (hbs : base ≤ w.heap.size) (hn : rs.length ≤ 1000000) :
    ∃ a' c' w', (Builtin.append_ #[54, 54] 54 #[.slice a rs.length c, .slice (some ⟨w.heap.size, 0, none⟩) 1 1]).run Try.prog (w.alloc (.cells #[u] 23)) = .ok (.slice a' (rs.length + 1) c') w' ∧ Rows base w' (.slice a' (rs.length + 1) c') (rs ++ [r]) ∧ Below base w w' := by
  obtain ⟨i0, hi, hz0, hz1, hz2⟩ := info_parts infoRow
  obtain ⟨vs, h1, h2⟩ := h
  obtain ⟨w1, hw1⟩ : ∃ W, w.alloc (.cells #[u] 23) = W := ⟨_, rfl⟩
  have hb1 : Below w.heap.size w w1 := by rw [← hw1]; exact below_alloc _ _
  have e1 : w1.heap[w.heap.size]? = some (.cells #[u] 23 (0, 0)) := by rw [← hw1]; exact heap_alloc_new _ _
  rw [hw1]
  have h11 := row_kept (w' := w1) h1 fun k hk => hb1.block k (h1.lt k hk).2
  have huo : ∀ x ∈ [u], x.oneCell' = true := by
    intro x hx
    rw [List.mem_singleton] at hx
    subst hx
    obtain ⟨ua, uc, rfl⟩ := row_len hu
    rfl
  obtain ⟨v', w', hrun, hown, hg, _⟩ := run_append_own (P := Try.prog) w1 base 54 54 23 i0 (.slice none 0 0) 1 24 Try.underlying54 hi hz0 hz1 hz2 rfl (by decide) _ _ vs h11 ⟨w.heap.size, 0, none⟩ 1 1 [u] rfl (World.news_of_block (cs := #[u]) e1) huo (by unfold maxLen; omega) (by omega) (by have := hb1.size; omega)
  obtain ⟨a', c', rfl⟩ := row_len hown
  have hg5 : ∀ (k : Nat) (v : Value) (n : Nat) (xs : List Value) (b : Nat), w1.ownsRow b 5 1 v n xs → v.ownBlock = some k → w'.heap[k]? = w1.heap[k]? := by
    intro k v n xs b hv hk
    refine hg.block k (hv.lt k hk).2 fun e => ?_
    obtain ⟨cur, hc⟩ := row_elem hv hk
    obtain ⟨cur2, hc2⟩ := row_elem h11 e.symm
    rw [hc] at hc2
    cases hc2
  refine ⟨a', c', w', hrun, ⟨vs ++ [u], ?_, fun j x hj => ?_⟩, ?_⟩
  · rw [List.length_append]
    exact hown
  · have hvl : vs.length = rs.length := by have := h1.1; omega
    by_cases hjl : j < rs.length
    · rw [List.getElem?_append_left hjl] at hj
      obtain ⟨y, h3, h4⟩ := h2 j x hj
      have h4' := row_kept (w' := w1) h4 fun k hk => hb1.block k (h4.lt k hk).2
      exact ⟨y, by rw [List.getElem?_append_left (by omega)]; exact h3, row_kept h4' fun k hk => hg5 k _ _ _ _ h4' hk⟩
    · rw [List.getElem?_append_right (by omega)] at hj
      have hj0 : j - rs.length = 0 := by
        have := (List.getElem?_eq_some_iff.1 hj).1
        simp at this
        omega
      rw [hj0] at hj
      simp at hj
      subst hj
      have hu' := row_kept (w' := w1) hu fun k hk => hb1.block k (hu.lt k hk).2
      exact ⟨u, by rw [List.getElem?_append_right (by omega), hvl, hj0]; rfl, owns_mono1 (row_kept hu' fun k hk => hg5 k _ _ _ _ hu' hk) hbb⟩
  · exact (hb1.mono hbs).trans ⟨hg.os, hg.tape, hg.output, hg.size, fun k hk => hg.block k (by have := hb1.size; omega) fun e => by have := (h11.lt k e.symm).1; omega⟩

set_option maxHeartbeats 1000000 in
theorem equal_c {va vb : Value} {A B : List UInt8} (ha : BRow w va A) (hb : BRow w vb B) : Calls Try.prog 94 #[va, vb] w fun e w' => e = .returned (.bool (decide (A = B))) ∧ w = w' := by
  have ca := conv_b ha
  have cb := conv_b hb
  by_cases h : A = B
  · subst h
    rw [show decide (A = A) = true from decide_eq_true rfl]
    clear ha hb
    go_enter Try.func94, Try.ntmps94
    go_wp2
    go_ret
    exact ⟨rfl, rfl⟩
  · have hz : ((mk A).toList == (mk B).toList) = false := by rw [mk_toList, mk_toList]; exact beq_false_of_ne h
    rw [show decide (A = B) = false from decide_eq_false h]
    clear h ha hb
    go_enter Try.func94, Try.ntmps94
    go_wp2
    go_ret
    exact ⟨rfl, rfl⟩

theorem Bt.take {a : Option Addr} {n c : Nat} {l : List UInt8} (h : Bt w a n c l) {m : Nat} (hm : m ≤ n) : Bt w a m c (l.take m) := by
  have hl := h.len
  refine ⟨by rw [List.length_take]; omega, by have := h.cap; omega, h.nil, ?_⟩
  rcases h.cells with h1 | ⟨b, o, h1, h2, h3⟩
  · left; rw [h1, List.take_nil]
  · refine .inr ⟨b, o, h1, h2, fun j u hj => h3 j u ?_⟩
    rw [List.getElem?_take] at hj
    split at hj
    · exact hj
    · cases hj

set_option maxHeartbeats 1000000 in
/-- bytes.HasPrefix, of a prefix that is not longer -/
theorem hasPrefix_c {a b : Option Addr} {n c m k : Nat} {l p : List UInt8} (hs : Bt w a n c l) (hp : Bt w b m k p) (hm : m ≤ n) : Calls Try.prog 60 #[.slice a n c, .slice b m k] w fun e w' => e = .returned (.bool (decide (l.take m = p))) ∧ w = w' := by
  have he := equal_c (hs.take hm).row hp.row
  have hc := hs.cap
  clear hs hp
  go_enter Try.func60, Try.ntmps60
  go_wp2_with fail
  refine he.mono ?_
  rintro e w1 ⟨rfl, rfl⟩
  go_wp2
  go_ret
  exact ⟨rfl, rfl⟩
end Go.Proofs.Ytdgfnhgkncfmpaa.Rl
