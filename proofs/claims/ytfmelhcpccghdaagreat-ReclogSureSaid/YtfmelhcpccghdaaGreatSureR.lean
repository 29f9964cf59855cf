/-
  ROWS OF RECORDS THAT A LAW KEEPS BESIDE A DISK.
-/
import Derived.Test.YtfmelhcpccghdaaGreatRlLife2
import Derived.Maps.AppendAt
namespace Go.Proofs.YtfmelhcpccghdaaGreat.Rl
open Go.RowKit Go.Maps

variable {X Y Z : Nat → Prop} {K : Nat} {w w' : World} {p lp : Nat} {d : Ds}

/-- rows of bytes of the law's own, in blocks that the disk does not touch -/
def RowsY (Y : Nat → Prop) (base : Nat) (w : World) (v : Value) (rs : List (List UInt8)) : Prop :=
  ∃ vs : List Value, w.ownsRow base 31 1 v rs.length vs ∧ (∀ k, v.ownBlock = some k → Y k) ∧
    ∀ (j : Nat) (r : List UInt8), rs[j]? = some r → ∃ u, vs[j]? = some u ∧ w.ownsRow base 5 1 u r.length (bytesV r) ∧ ∀ k, u.ownBlock = some k → Y k
theorem rowsY_nil (Y : Nat → Prop) (base : Nat) (w : World) : RowsY Y base w (.slice none 0 0) [] := ⟨[], World.ownsRow_nil _ _ _ _, fun k hk => by (cases hk), fun j r hj => by (cases hj)⟩
theorem RowsY.rows {base : Nat} {v : Value} {rs : List (List UInt8)} (h : RowsY Y base w v rs) : Rows base w v rs := by
  obtain ⟨vs, h1, _, h3⟩ := h
  refine ⟨vs, h1, fun j r hj => ?_⟩
  obtain ⟨u, h4, h5, _⟩ := h3 j r hj
  exact ⟨u, h4, h5⟩
theorem RowsY.mat {base : Nat} {v : Value} {rs : List (List UInt8)} (h : RowsY Y base w v rs) : Mat w v rs := h.rows.mat
theorem RowsY.val {base : Nat} {v : Value} {rs : List (List UInt8)} (h : RowsY Y base w v rs) : ∃ a c, v = .slice a rs.length c := h.rows.val
theorem RowsY.same {base : Nat} {v : Value} {rs : List (List UInt8)} (h : RowsY Y base w v rs) (hs : Same Y w w') : RowsY Y base w' v rs := by
  obtain ⟨vs, h1, h2, h3⟩ := h
  refine ⟨vs, row_kept h1 fun k hk => hs.block k (h1.lt k hk).2 (h2 k hk), h2, fun j r hj => ?_⟩
  obtain ⟨u, h4, h5, h6⟩ := h3 j r hj
  exact ⟨u, h4, row_kept h5 fun k hk => hs.block k (h5.lt k hk).2 (h6 k hk), h6⟩
theorem RowsY.more {base : Nat} {v : Value} {rs : List (List UInt8)} (h : RowsY Y base w v rs) (hYZ : ∀ b, Y b → Z b) : RowsY Z base w v rs := by
  obtain ⟨vs, h1, h2, h3⟩ := h
  refine ⟨vs, h1, fun k hk => hYZ k (h2 k hk), fun j r hj => ?_⟩
  obtain ⟨u, h4, h5, h6⟩ := h3 j r hj
  exact ⟨u, h4, h5, fun k hk => hYZ k (h6 k hk)⟩
theorem own_take {base n c m : Nat} {e : TypeId} {a : Option Addr} {xs : List Value} (h : w.ownsRow base e 1 (.slice a n c) n xs) (hm : m ≤ n) : w.ownsRow base e 1 (.slice a m c) m (xs.take m) := by
  have hl := h.1
  refine ⟨by rw [List.length_take]; omega, ?_⟩
  rcases h.2 with ⟨e1, h0⟩ | ⟨g, cap, cur, e1, hb, hg, hle, hmx, hsz, htake⟩
  · cases e1
    have : m = 0 := by omega
    subst this
    exact .inl ⟨rfl, rfl⟩
  · cases e1
    refine .inr ⟨g, c, cur, rfl, hb, hg, by omega, hmx, hsz, ?_⟩
    rw [← htake, List.take_take]
    congr 1
    omega
theorem RowsY.take {base n c m : Nat} {a : Option Addr} {rs : List (List UInt8)} (h : RowsY Y base w (.slice a n c) rs) (hm : m ≤ n) : RowsY Y base w (.slice a m c) (rs.take m) := by
  obtain ⟨vs, h1, h2, h3⟩ := h
  obtain ⟨a', c', e⟩ := row_len h1
  cases e
  have hl : (rs.take m).length = m := by rw [List.length_take]; omega
  refine ⟨vs.take m, by rw [hl]; exact own_take h1 hm, fun k hk => h2 k (by cases a <;> exact hk), fun j r hj => ?_⟩
  have hjm : j < m := by
    have := (List.getElem?_eq_some_iff.1 hj).1
    omega
  rw [List.getElem?_take_of_lt hjm] at hj
  obtain ⟨u, h4, h5, h6⟩ := h3 j r hj
  exact ⟨u, by rw [List.getElem?_take_of_lt hjm]; exact h4, h5, h6⟩

/-- a record more: what is made anew, and the row's own block, are all that is written -/
theorem rowsY_app {base : Nat} {a : Option Addr} {c : Nat} {u : Value} {rs : List (List UInt8)} {r : List UInt8} (h : RowsY Y base w (.slice a rs.length c) rs) (hu : w.ownsRow base 5 1 u r.length (bytesV r)) (huY : ∀ k, u.ownBlock = some k → Y k) (hbs : base ≤ w.heap.size) (hn : rs.length ≤ 1000000) :
    ∃ a' c' w', (Builtin.append_ #[28, 28] 28 #[.slice a rs.length c, .slice (some ⟨w.heap.size, 0, none⟩) 1 1]).run Tryz.prog (w.alloc (.cells #[u] 31)) = .ok (.slice a' (rs.length + 1) c') w' ∧ RowsY (Since Y w w') base w' (.slice a' (rs.length + 1) c') (rs ++ [r]) ∧
      w.heap.size ≤ w'.heap.size ∧ (∀ k, k < w.heap.size → Value.ownBlock (.slice a rs.length c) ≠ some k → w'.heap[k]? = w.heap[k]?) ∧ Below base w w' ∧
      (∀ k, Value.ownBlock (.slice a' (rs.length + 1) c') = some k → Value.ownBlock (.slice a rs.length c) = some k ∨ w.heap.size ≤ k) ∧ w'.os = w.os ∧ w'.tape = w.tape ∧ w'.output = w.output := by
  obtain ⟨i0, hi, hz0, hz1, hz2⟩ := info_parts infoRow
  obtain ⟨vs, h1, hvY, h2⟩ := h
  obtain ⟨w1, hw1⟩ : ∃ W, w.alloc (.cells #[u] 31) = W := ⟨_, rfl⟩
  have hb1 : Below w.heap.size w w1 := by rw [← hw1]; exact below_alloc _ _
  have e1 : w1.heap[w.heap.size]? = some (.cells #[u] 31 (0, 0)) := by rw [← hw1]; exact heap_alloc_new _ _
  rw [hw1]
  have h11 := row_kept (w' := w1) h1 fun k hk => hb1.block k (h1.lt k hk).2
  have huo : ∀ x ∈ [u], x.oneCell' = true := by
    intro x hx
    rw [List.mem_singleton] at hx
    subst hx
    obtain ⟨ua, uc, rfl⟩ := row_len hu
    rfl
  obtain ⟨v', w', hrun, hown, hg, _, hat⟩ := run_append_own_at (P := Tryz.prog) w1 base 28 28 31 i0 (.slice none 0 0) 1 24 Tryz.underlying28 hi hz0 hz1 hz2 rfl (by decide) _ _ vs h11 ⟨w.heap.size, 0, none⟩ 1 1 [u] rfl (World.news_of_block (cs := #[u]) e1) huo (by unfold maxLen; omega) (by omega) (by have := hb1.size; omega)
  obtain ⟨a', c', rfl⟩ := row_len hown
  have hs1 := hb1.size
  have hkeep : ∀ k, k < w.heap.size → (Value.ownBlock (.slice a rs.length c)) ≠ some k → w'.heap[k]? = w.heap[k]? := fun k hk hne => (hg.block k (by omega) (fun e => hne e.symm)).trans (hb1.block k hk)
  have hg5 : ∀ (k : Nat) (v : Value) (n : Nat) (xs : List Value) (b : Nat), w.ownsRow b 5 1 v n xs → v.ownBlock = some k → w'.heap[k]? = w.heap[k]? := by
    intro k v n xs b hv hk
    refine hkeep k (hv.lt k hk).2 fun e => ?_
    obtain ⟨cur, hc⟩ := row_elem hv hk
    obtain ⟨cur2, hc2⟩ := row_elem h1 e
    rw [hc] at hc2
    cases hc2
  have hsz : w.heap.size ≤ w'.heap.size := Nat.le_trans hs1 hg.size
  have hvs : vs.length = rs.length := by have := h1.1; omega
  refine ⟨a', c', w', hrun, ⟨vs ++ [u], by rw [List.length_append]; exact hown, fun k hk => ?_, fun j x hj => ?_⟩, hsz, hkeep, ?_, ?_, hg.os.trans hb1.os, hg.tape.trans hb1.tape, hg.output.trans hb1.output⟩
  · rcases hat with h | h
    · rw [h] at hk
      exact .inl (hvY k hk)
    · rw [h] at hk
      cases hk
      exact .inr ⟨hs1, (hown.lt _ h).2⟩
  · by_cases hjl : j < rs.length
    · rw [List.getElem?_append_left hjl] at hj
      obtain ⟨y, h3, h4, h5⟩ := h2 j x hj
      exact ⟨y, by rw [List.getElem?_append_left (by omega)]; exact h3, row_kept h4 fun k hk => hg5 k _ _ _ _ h4 hk, fun k hk => .inl (h5 k hk)⟩
    · rw [List.getElem?_append_right (by omega)] at hj
      have hj0 : j - rs.length = 0 := by
        have := (List.getElem?_eq_some_iff.1 hj).1
        simp at this
        omega
      rw [hj0] at hj
      simp at hj
      subst hj
      exact ⟨u, by rw [List.getElem?_append_right (by omega), hvs, hj0]; rfl, row_kept hu fun k hk => hg5 k _ _ _ _ hu hk, fun k hk => .inl (huY k hk)⟩
  · exact (hb1.mono hbs).trans ⟨hg.os, hg.tape, hg.output, hg.size, fun k hk => hg.block k (by omega) fun e => by have := (h11.lt k e.symm).1; omega⟩
  · intro k hk
    rcases hat with h | h
    · rw [h] at hk
      exact .inl hk
    · rw [h] at hk
      cases hk
      exact .inr hs1

/-- the first ones, in a row of their own -/
theorem rowsY_copy {base : Nat} {a : Option Addr} {n c k : Nat} {rs : List (List UInt8)} (h : RowsY Y base w (.slice a n c) rs) (hk : k ≤ n) (hbs : base ≤ w.heap.size) (hn : n ≤ 1000000) (hnil : a = none → c = 0) :
    ∃ a' c' w', (Builtin.append_ #[28, 28] 28 #[.slice (some ⟨w.heap.size, 0, none⟩) 0 0, .slice a k c]).run Tryz.prog (w.alloc (.cells #[] 31)) = .ok (.slice a' k c') w' ∧ RowsY (Since Y w w') base w' (.slice a' k c') (rs.take k) ∧ Below w.heap.size w w' ∧
      (∀ b, Value.ownBlock (.slice a' k c') = some b → w.heap.size ≤ b) := by
  obtain ⟨i0, hi, hz0, hz1, hz2⟩ := info_parts infoRow
  obtain ⟨vs, h1, hvY, h2⟩ := h
  have hnr : n = rs.length := by obtain ⟨x, y, e⟩ := row_len h1; cases e; rfl
  obtain ⟨w1, hw1⟩ : ∃ W, w.alloc (.cells #[] 31) = W := ⟨_, rfl⟩
  have hb1 : Below w.heap.size w w1 := by rw [← hw1]; exact below_alloc _ _
  have hown0 : w1.ownsRow w.heap.size 31 1 (.slice (some ⟨w.heap.size, 0, none⟩) 0 0) 0 [] := by
    rw [← hw1]
    exact ⟨rfl, .inr ⟨_, _, _, rfl, Nat.le_refl _, heap_alloc_new _ _, Nat.le_refl _, by unfold maxLen; omega, rfl, rfl⟩⟩
  rw [hw1]
  have htl : (rs.take k).length = k := by rw [List.length_take]; omega
  have hs1 := hb1.size
  have hsz1 : w1.heap.size = w.heap.size + 1 := by rw [← hw1, World.size_alloc]
  rcases h1.2 with ⟨e, h0⟩ | ⟨g, cap, cur, e, _⟩
  · cases e
    have hk0 : k = 0 := by omega
    subst hk0
    have hrun := run_append_owned_none (P := Tryz.prog) (w := w1) w.heap.size 28 28 31 i0 1 Tryz.underlying28 hi _ _ _ hown0
    refine ⟨_, _, w1, hrun, ⟨[], by rw [htl]; exact owns_mono1 hown0 hbs, fun b hb => ?_, fun j r hj => by rw [List.take_zero] at hj; cases hj⟩, hb1, fun b hb => ?_⟩
    · cases hb; exact .inr ⟨Nat.le_refl _, by show w.heap.size < w1.heap.size; omega⟩
    · cases hb; exact Nat.le_refl _
  · cases e
    have hnews : ∀ (j : Nat) (u : Value), (vs.take k)[j]? = some u → w1.cell? ((⟨g, 0, none⟩ : Addr).add j) = some u := fun j u hj => by
      rw [List.getElem?_take] at hj
      split at hj
      · have h3 := h1.cells (g := g) rfl j u hj
        have h4 := Pk.lt_of_cell h3
        exact (hb1.cell h4).trans h3
      · cases hj
    have hvl : vs.length = rs.length := by have := h1.1; omega
    have huo : ∀ x ∈ vs.take k, x.oneCell' = true := fun x hx => by
      obtain ⟨j, hj⟩ := List.getElem?_of_mem (List.mem_of_mem_take hx)
      obtain ⟨hjl, _⟩ := List.getElem?_eq_some_iff.1 hj
      obtain ⟨u, h3, h4, _⟩ := h2 j rs[j] (List.getElem?_eq_getElem (by omega))
      rw [h3] at hj
      cases hj
      obtain ⟨ua, uc, rfl⟩ := row_len h4
      rfl
    obtain ⟨v', w', hrun, hown, hg, _, hat⟩ := run_append_own_at (P := Tryz.prog) w1 w.heap.size 28 28 31 i0 (.slice none 0 0) 1 24 Tryz.underlying28 hi hz0 hz1 hz2 rfl (by decide) _ _ [] hown0 ⟨g, 0, none⟩ k c (vs.take k) (by rw [List.length_take]; omega) hnews huo (by unfold maxLen; omega) (by omega) (by omega)
    rw [Nat.zero_add, List.nil_append] at hown
    obtain ⟨a', c', rfl⟩ := row_len hown
    have hbel : Below w.heap.size w1 w' := ⟨hg.os, hg.tape, hg.output, hg.size, fun b hb => hg.block b (by omega) fun e => by cases e; exact Nat.lt_irrefl _ hb⟩
    have hb2 := hb1.trans hbel
    have hnew : ∀ b, Value.ownBlock (.slice a' k c') = some b → w.heap.size ≤ b := fun b hb => by
      rcases hat with h | h
      · rw [h] at hb; cases hb; exact Nat.le_refl _
      · rw [h] at hb; cases hb; exact hs1
    refine ⟨a', c', w', hrun, ⟨vs.take k, by rw [htl]; exact owns_mono1 hown hbs, fun b hb => .inr ⟨hnew b hb, (hown.lt b hb).2⟩, fun j r hj => ?_⟩, hb2, hnew⟩
    have hjk : j < k := by
      have := (List.getElem?_eq_some_iff.1 hj).1
      omega
    rw [List.getElem?_take_of_lt hjk] at hj
    obtain ⟨u, h3, h4, h5⟩ := h2 j r hj
    exact ⟨u, by rw [List.getElem?_take_of_lt hjk]; exact h3, keep_own h4 hb2, fun b hb => .inl (h5 b hb)⟩

theorem wrap_small {z : Int} (h1 : -1000 ≤ z) (h2 : z ≤ 1000) : wrap64 z = z := by unfold wrap64; omega
theorem pick_index (xn : Int) (an : Nat) (h : an ≤ 60) : ∃ k : Nat, (wrap64 (wrap64 (xn.tmod ((an : Int) + 1) + an) + 1)).tmod ((an : Int) + 1) = (k : Int) ∧ k ≤ an := by
  have h1 := Int.lt_tmod_of_pos xn (b := (an : Int) + 1) (by omega)
  have h2 := Int.tmod_lt_of_pos xn (b := (an : Int) + 1) (by omega)
  generalize xn.tmod ((an : Int) + 1) = q at *
  rw [wrap_small (z := q + an) (by omega) (by omega), wrap_small (z := q + an + 1) (by omega) (by omega)]
  have h3 := Int.tmod_nonneg (a := q + an + 1) ((an : Int) + 1) (by omega)
  have h4 := Int.tmod_lt_of_pos (q + an + 1) (b := (an : Int) + 1) (by omega)
  generalize (q + (an : Int) + 1).tmod ((an : Int) + 1) = y at *
  exact ⟨y.toNat, by omega, by omega⟩

/-! ### starts -/
set_option maxRecDepth 100000 in
set_option maxHeartbeats 2000000 in
theorem starts_c {a b : Option Addr} {n c m k : Nat} {A B : List (List UInt8)} (l : Nat) (ha : Mat w (.slice a n c) A) (hb : Mat w (.slice b m k) B) (hmk : m ≤ k) (hn9 : n ≤ 1000000) :
    Calls Tryz.prog 14 #[.slice a n c, .slice b m k, .int .i64 (l : Int)] w fun e w' => e = .returned (.bool (decide (l ≤ A.length ∧ A.length ≤ B.length ∧ A = B.take A.length))) ∧ Below w.heap.size w w' := by
  have hA := (Mat.at ha).1
  have hB := (Mat.at hb).1
  by_cases h1 : l ≤ n
  · by_cases h2 : n ≤ m
    · have hs := same_c ha (Mat.take hb h2) hn9
      have hd : decide (A = B.take n) = decide (l ≤ A.length ∧ A.length ≤ B.length ∧ A = B.take A.length) := decide_eq_decide.2 (by rw [← hA, ← hB]; exact ⟨fun h => ⟨h1, h2, h⟩, fun h => h.2.2⟩)
      rw [hd] at hs
      clear ha hb hd hA hB
      generalize decide (l ≤ A.length ∧ A.length ≤ B.length ∧ A = B.take A.length) = rr at *
      have hnk : n ≤ k := by omega
      go_enter Tryz.func14, Tryz.ntmps14
      go_wp2_with fail
      refine hs.mono ?_
      rintro e w1 ⟨rfl, hb1⟩
      clear hs
      go_wp2
      go_ret
      exact ⟨rfl, hb1⟩
    · have hd : decide (l ≤ A.length ∧ A.length ≤ B.length ∧ A = B.take A.length) = false := decide_eq_false fun h => by rw [← hA, ← hB] at h; exact h2 h.2.1
      rw [hd]
      clear ha hb hd hA hB
      go_enter Tryz.func14, Tryz.ntmps14
      go_wp2
      go_ret
      exact ⟨rfl, Below.refl _ _⟩
  · have hd : decide (l ≤ A.length ∧ A.length ≤ B.length ∧ A = B.take A.length) = false := decide_eq_false fun h => by rw [← hA] at h; exact h1 h.1
    rw [hd]
    clear ha hb hd hA hB
    go_enter Tryz.func14, Tryz.ntmps14
    go_wp2
    go_ret
    exact ⟨rfl, Below.refl _ _⟩
end Go.Proofs.YtfmelhcpccghdaaGreat.Rl
