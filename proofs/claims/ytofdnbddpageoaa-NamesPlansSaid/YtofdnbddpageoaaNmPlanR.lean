/-
  THE DOCUMENT's PLAN: what it has made so far, in memory.
-/
import Derived.Test.YtofdnbddpageoaaNmSameB
namespace Go.Proofs.Ytofdnbddpageoaa.Nm
open Go.RowKit Go.Maps

/-! ### numbers -/
theorem tell_ix (t : Tl) (s : ByteArray) : ixOf (t.tell s).M s = some (numOf t.M s) := by
  unfold Tl.tell numOf
  cases h : ixOf t.M s with
  | some i => exact h
  | none =>
    show ixOf (t.M ++ [s]) s = _
    rw [ixOf_snoc, h, if_pos rfl]
    rfl
theorem tell_keep (t : Tl) (s x : ByteArray) {i : Nat} (h : ixOf t.M x = some i) : ixOf (t.tell s).M x = some i := by
  unfold Tl.tell
  cases hs : ixOf t.M s with
  | some j => exact h
  | none =>
    show ixOf (t.M ++ [s]) x = _
    rw [ixOf_snoc, h]
    rfl
theorem head_ix (N : List ByteArray) (out : ByteArray) (l : List ByteArray) : ixOf (tellAll N (out :: l)).M out = some ((tellAll N (out :: l)).ids.headD 0) := by
  refine snoc_ind (P := fun l => ixOf (tellAll N (out :: l)).M out = some ((tellAll N (out :: l)).ids.headD 0)) ?_ ?_ l
  · have e : tellAll N [out] = (⟨N, [], []⟩ : Tl).tell out := rfl
    rw [e, tell_ix, tell_ids]
    rfl
  · intro l s h
    have hl := (tell_len N (out :: l)).2.2
    rw [← List.cons_append, tellAll_snoc, tell_keep _ _ _ h, tell_ids]
    cases hi : (tellAll N (out :: l)).ids with
    | nil => rw [hi] at hl; simp at hl
    | cons i ids => rfl
theorem ids_snoc (N : List ByteArray) (out : ByteArray) (l : List ByteArray) (s : ByteArray) : idB (tellAll N (out :: (l ++ [s]))).ids.tail = idB (tellAll N (out :: l)).ids.tail ++ Pk.le (numOf (tellAll N (out :: l)).M s) 4 := by
  have hl := (tell_len N (out :: l)).2.2
  rw [← List.cons_append, tellAll_snoc, tell_ids]
  cases hi : (tellAll N (out :: l)).ids with
  | nil => rw [hi] at hl; simp at hl
  | cons i ids => simp [idB]
theorem ids_len (N : List ByteArray) (out : ByteArray) (l : List ByteArray) : (idB (tellAll N (out :: l)).ids.tail).length = 4 * l.length := by
  refine snoc_ind (P := fun l => (idB (tellAll N (out :: l)).ids.tail).length = 4 * l.length) ?_ ?_ l
  · have e : tellAll N [out] = (⟨N, [], []⟩ : Tl).tell out := rfl
    rw [e, tell_ids]
    rfl
  · intro l s h
    rw [ids_snoc, List.length_append, h, Pk.le_length]
    simp
    omega

/-! ### appends of bytes, of some or of none -/
theorem app_any {W : World} {base base2 : Nat} {v : Value} {n : Nat} {xs ys : List Nat} {a2 : Option Addr} {m c2 : Nat} (hown : W.ownsRow base 5 1 v n (Pk.bytesV xs)) (hrow : W.ownsRow base2 5 1 (.slice a2 m c2) m (Pk.bytesV ys)) (hb : n + m ≤ 100000000) (hbase : base ≤ W.heap.size) :
    ∃ a' c' W', (Builtin.append_ #[32, 32] 32 #[v, .slice a2 m c2]).run Try.prog W = .ok (.slice a' (n + m) c') W' ∧ W'.ownsRow base 5 1 (.slice a' (n + m) c') (n + m) (Pk.bytesV (xs ++ ys)) ∧ W.grownBy W' v.ownBlock ∧ ∀ k, (Value.slice a' (n + m) c').ownBlock = some k → v.ownBlock = some k ∨ k = W.heap.size := by
  obtain ⟨i0, hi, hz0, hz1, hz2⟩ := info_parts Pk.info5
  rcases own_at hrow with ⟨e, h0⟩ | ⟨g, cap, e, _, _, _, hc⟩
  · obtain ⟨rfl, rfl, rfl⟩ := Value.slice.inj e
    have hy : ys = [] := by
      have := hrow.1
      rw [Pk.bytesV_length] at this
      exact List.eq_nil_of_length_eq_zero this
    subst hy
    obtain ⟨a, c, rfl⟩ := own_slice hown
    refine ⟨a, c, W, run_append_owned_none (P := Try.prog) _ base 32 32 5 i0 1 Try.underlying32 hi _ _ _ hown, ?_, ⟨rfl, rfl, rfl, Nat.le_refl _, fun _ _ _ => rfl⟩, fun k hk => .inl hk⟩
    rw [List.append_nil]
    exact hown
  · obtain ⟨rfl, -, rfl⟩ := Value.slice.inj e
    have hcells : ∀ j u, (Pk.bytesV ys)[j]? = some u → W.cell? ((⟨g, 0, Option.none⟩ : Addr).add j) = some u := fun j u hj => by
      rw [Go.WideShapes.add_plain, Nat.zero_add]
      exact hc j u hj
    obtain ⟨v', W', hr, h2, h3, _, h5⟩ := run_append_own_at (P := Try.prog) W base 32 32 5 i0 (.int .u8 0) 1 1 Try.underlying32 hi hz0 hz1 hz2 rfl (by decide) v n (Pk.bytesV xs) hown ⟨g, 0, Option.none⟩ m c2 (Pk.bytesV ys) (by have := hrow.1; omega) hcells (Pk.one_bytes ys) (by unfold maxLen; omega) (by omega) hbase
    obtain ⟨a', c', rfl⟩ := own_slice h2
    refine ⟨a', c', W', hr, by rw [Pk.bytesV_append]; exact h2, h3, fun k hk => ?_⟩
    rcases h5 with h5 | h5
    · exact .inl (by rw [← h5]; exact hk)
    · rw [h5] at hk
      exact .inr (Option.some.inj hk).symm

/-! ### what it has made -/
structure Rp (V W : World) (bd bc : Nat) (D : Array Value) (vN vr vi : Value) (ni : Nat) (M : List ByteArray) (recs : List (List Nat)) (X : List Nat) : Prop where
  box : W.heap[bd]? = some (.cells D 42 (0, 0))
  cbox : W.heap[bc]? = some (.cells #[vN, .slice Option.none 0 0] 30 (0, 0))
  lowd : V.heap.size ≤ bd
  lowc : V.heap.size ≤ bc
  names : W.ownsRow V.heap.size 9 1 vN M.length (strV M)
  rows : Rows V.heap.size vi.ownBlock W vr recs
  ids : W.ownsRow V.heap.size 5 1 vi ni (Pk.bytesV X)
  bel : Below V.heap.size V W

section
variable {V W W' : World} {bd bc : Nat} {D : Array Value} {vN vr vi : Value} {ni : Nat} {M : List ByteArray} {recs : List (List Nat)} {X : List Nat}
theorem Rp.below (h : Rp V W bd bc D vN vr vi ni M recs X) (hb : Below W.heap.size W W') : Rp V W' bd bc D vN vr vi ni M recs X :=
  ⟨(hb.block _ (lt_some h.box)).trans h.box, (hb.block _ (lt_some h.cbox)).trans h.cbox, h.lowd, h.lowc, owns_below h.names hb, h.rows.below hb, owns_below h.ids hb, h.bel.trans (hb.mono h.bel.size)⟩
theorem Rp.cells {out : ByteArray} {time : Int} {dv : Value} (h : Rp V W bd bc #[.string out, .int .i64 time, dv] vN vr vi ni M recs X) : (W.cell? ⟨bd, 0, Option.none⟩ = some (.string out) ∧ W.cell? ⟨bd, 1, Option.none⟩ = some (.int .i64 time) ∧ W.cell? ⟨bd, 2, Option.none⟩ = some dv) ∧ W.cell? ⟨bc, 0, Option.none⟩ = some vN ∧ W.frozen? ⟨bc, 0, Option.none⟩ = false :=
  ⟨(thr_cells h.box).1, by simp [World.cell?, h.cbox], by simp [World.frozen?, h.cbox]⟩
theorem Rp.at (h : Rp V W bd bc D vN vr vi ni M recs X) (s : ByteArray) (hM : M.length ≤ 1000000) : Calls Try.prog 31 #[.pointer (some ⟨bc, 0, Option.none⟩), .string s] W fun e w' => e = .returned (.int .i64 (atZ M s)) ∧ W = w' :=
  at_c h.cbox (strRow_of h.names).1 hM

/-- a name more -/
theorem Rp.named {W3 : World} {v' : Value} {s : ByteArray} (h : Rp V W bd bc D vN vr vi ni M recs X)
    (ho : W3.ownsRow V.heap.size 9 1 v' (M ++ [s]).length (strV (M ++ [s]))) (hg : (W.alloc (.cells #[.string s] 9)).grownBy W3 vN.ownBlock) :
    Rp V (W3.setCell ⟨bc, 0, Option.none⟩ v') bd bc D v' vr vi ni (M ++ [s]) recs X ∧ W3.cell? ⟨bc, 0, Option.none⟩ = some vN ∧ W3.frozen? ⟨bc, 0, Option.none⟩ = false := by
  have hA := Pk.below_alloc W (.cells #[.string s] 9)
  have h0 := h.below hA
  generalize W.alloc (.cells #[.string s] 9) = W1 at *
  have kt : ∀ (k : Nat) (C : Array Value) (t : TypeId), W1.heap[k]? = some (.cells C t (0, 0)) → t ≠ 9 → W3.heap[k]? = W1.heap[k]? := fun k C t hc ht => hg.block k (lt_some hc) fun e => by
    obtain ⟨_, cur, hc2⟩ := owns_block h0.names e.symm
    exact ne_type hc hc2 ht rfl
  have cb3 : W3.heap[bc]? = some (.cells #[vN, .slice Option.none 0 0] 30 (0, 0)) := (kt _ _ _ h0.cbox (by decide)).trans h0.cbox
  have hbd : bd ≠ bc := ne_type h0.box h0.cbox (by decide)
  have hoff : ∀ (k : Nat) (C : Array Value) (t : TypeId), W3.heap[k]? = some (.cells C t (0, 0)) → t ≠ 30 → (W3.setCell ⟨bc, 0, Option.none⟩ v').heap[k]? = W3.heap[k]? := fun k C t hc ht => set_off (ne_type hc cb3 ht)
  have kt2 : ∀ (k : Nat) (C : Array Value) (t : TypeId), W1.heap[k]? = some (.cells C t (0, 0)) → t ≠ 9 → t ≠ 30 → (W3.setCell ⟨bc, 0, Option.none⟩ v').heap[k]? = W1.heap[k]? := fun k C t hc h1 h2 => (hoff k C t ((kt k C t hc h1).trans hc) h2).trans (kt k C t hc h1)
  refine ⟨⟨(kt2 _ _ _ h0.box (by decide) (by decide)).trans h0.box, ?_, h.lowd, h.lowc, ?_, ?_, ?_, ?_⟩, by simp [World.cell?, cb3], by simp [World.frozen?, cb3]⟩
  · rw [box_set cb3]; rfl
  · refine owns_kept ho fun g hgk => ?_
    obtain ⟨_, cur, hc2⟩ := owns_block ho hgk
    exact hoff _ _ _ hc2 (by decide)
  · exact h0.rows.keptT fun k C t hc ht => by
      rcases ht with rfl | rfl
      · exact kt2 _ _ _ hc (by decide) (by decide)
      · exact kt2 _ _ _ hc (by decide) (by decide)
  · refine owns_kept h0.ids fun g hgk => ?_
    obtain ⟨_, cur, hc2⟩ := owns_block h0.ids hgk
    exact kt2 _ _ _ hc2 (by decide) (by decide)
  · refine h0.bel.trans ⟨hg.os, hg.tape, hg.output, by rw [World.size_setCell]; exact hg.size, fun k hk => ?_⟩
    refine (set_off (show k ≠ bc by have := h.lowc; omega)).trans (hg.block k (by have := h0.bel.size; omega) fun e => ?_)
    have := (owns_block h0.names e.symm).1
    omega

/-- a record more -/
theorem Rp.more (h : Rp V W bd bc D vN vr vi ni M recs X) {u : Value} {r : List Nat} {W1 : World} (hb1 : Below W.heap.size W W1) (hu : W1.ownsRow W.heap.size 5 1 u r.length (Pk.bytesV r)) (hn : recs.length ≤ 1000000) :
    ∃ a c a' c' W', vr = .slice a recs.length c ∧ (Builtin.append_ #[22, 22] 22 #[.slice a recs.length c, .slice (some ⟨W1.heap.size, 0, Option.none⟩) 1 1]).run Try.prog (W1.alloc (.cells #[u] 32)) = .ok (.slice a' (recs.length + 1) c') W' ∧
      Rp V W' bd bc D vN (.slice a' (recs.length + 1) c') vi ni M (recs ++ [r]) X := by
  obtain ⟨a, c, rfl⟩ := h.rows.val
  have h1 := h.below hb1
  obtain ⟨a', c', W', hrun, hrows, hg⟩ := rows_app h1.rows (base' := W.heap.size) hu h.bel.size h1.bel.size hn (fun k hk e => by have x1 := (hu.lt k hk).1; have x2 := (h.ids.lt k e).2; omega)
  refine ⟨a, c, a', c', W', rfl, hrun, ?_⟩
  have hA := Pk.below_alloc W1 (.cells #[u] 32)
  have h2 := h1.below hA
  generalize W1.alloc (.cells #[u] 32) = W2 at *
  have kt : ∀ (k : Nat) (C : Array Value) (t : TypeId), W2.heap[k]? = some (.cells C t (0, 0)) → t ≠ 32 → W'.heap[k]? = W2.heap[k]? := fun k C t hc ht => hg.block k (lt_some hc) fun e => by
    obtain ⟨_, cur, hc2⟩ := h2.rows.blk e.symm
    exact ne_type hc hc2 ht rfl
  refine ⟨(kt _ _ _ h2.box (by decide)).trans h2.box, (kt _ _ _ h2.cbox (by decide)).trans h2.cbox, h.lowd, h.lowc, ?_, hrows, ?_, ?_⟩
  · refine owns_kept h2.names fun g hgk => ?_
    obtain ⟨_, cur, hc2⟩ := owns_block h2.names hgk
    exact kt _ _ _ hc2 (by decide)
  · refine owns_kept h2.ids fun g hgk => ?_
    obtain ⟨_, cur, hc2⟩ := owns_block h2.ids hgk
    exact kt _ _ _ hc2 (by decide)
  · exact h2.bel.trans ⟨hg.os, hg.tape, hg.output, hg.size, fun k hk => hg.block k (by have := h2.bel.size; omega) fun e => by have := (h2.rows.blk e.symm).1; omega⟩

/-- a number more -/
theorem Rp.num (h : Rp V W bd bc D vN vr vi ni M recs X) {a2 : Option Addr} {m c2 : Nat} {Y : List Nat} {W1 : World} (hb1 : Below W.heap.size W W1) (hu : W1.ownsRow W.heap.size 5 1 (.slice a2 m c2) m (Pk.bytesV Y)) (hn : ni + m ≤ 100000000) :
    ∃ a' c' W', (Builtin.append_ #[32, 32] 32 #[vi, .slice a2 m c2]).run Try.prog W1 = .ok (.slice a' (ni + m) c') W' ∧ Rp V W' bd bc D vN vr (.slice a' (ni + m) c') (ni + m) M recs (X ++ Y) := by
  have h1 := h.below hb1
  obtain ⟨a', c', W', hrun, ho, hg, hnew⟩ := app_any h1.ids hu hn h1.bel.size
  refine ⟨a', c', W', hrun, ?_⟩
  have kt : ∀ (k : Nat) (C : Array Value) (t : TypeId), W1.heap[k]? = some (.cells C t (0, 0)) → t ≠ 5 → W'.heap[k]? = W1.heap[k]? := fun k C t hc ht => hg.block k (lt_some hc) fun e => by
    obtain ⟨_, cur, hc2⟩ := owns_block h1.ids e.symm
    exact ne_type hc hc2 ht rfl
  refine ⟨(kt _ _ _ h1.box (by decide)).trans h1.box, (kt _ _ _ h1.cbox (by decide)).trans h1.cbox, h.lowd, h.lowc, ?_, ?_, ho, ?_⟩
  · refine owns_kept h1.names fun g hgk => ?_
    obtain ⟨_, cur, hc2⟩ := owns_block h1.names hgk
    exact kt _ _ _ hc2 (by decide)
  · obtain ⟨vs, r1, r2⟩ := h1.rows
    refine ⟨vs, owns_kept r1 fun k hk => ?_, fun j r hj => ?_⟩
    · obtain ⟨_, cur, hc⟩ := owns_block r1 hk
      exact kt k _ _ hc (by decide)
    · obtain ⟨u, h3, h4, h5⟩ := r2 j r hj
      refine ⟨u, h3, owns_kept h4 fun k hk => hg.block k (h4.lt k hk).2 (fun e => h5 k hk e.symm), fun k hk e => ?_⟩
      rcases hnew k e with h6 | h6
      · exact h5 k hk h6
      · have := (h4.lt k hk).2; omega
  · exact h1.bel.trans ⟨hg.os, hg.tape, hg.output, hg.size, fun k hk => hg.block k (by have := h1.bel.size; omega) fun e => by have := (owns_block h1.ids e.symm).1; omega⟩

/-- a row of bytes beside it, made behind world E -/
theorem app_beside {E W1 W2 : World} {v : Value} {n : Nat} {xs Y : List Nat} {a2 : Option Addr} {m c2 base2 : Nat} (hv : W1.ownsRow E.heap.size 5 1 v n (Pk.bytesV xs)) (hbe : Below E.heap.size E W1) (hb : Below W1.heap.size W1 W2) (hu : W2.ownsRow base2 5 1 (.slice a2 m c2) m (Pk.bytesV Y)) (hn : n + m ≤ 100000000) :
    ∃ a' c' W', (Builtin.append_ #[32, 32] 32 #[v, .slice a2 m c2]).run Try.prog W2 = .ok (.slice a' (n + m) c') W' ∧ W'.ownsRow E.heap.size 5 1 (.slice a' (n + m) c') (n + m) (Pk.bytesV (xs ++ Y)) ∧ Below E.heap.size E W' := by
  have hb2 := hbe.trans (hb.mono hbe.size)
  have hv2 := owns_below hv hb
  obtain ⟨a', c', W', hrun, ho, hg, -⟩ := app_any hv2 hu hn hb2.size
  exact ⟨a', c', W', hrun, ho, hb2.trans (Pk.below_grown hv2 hg hb2.size)⟩
end
end Go.Proofs.Ytofdnbddpageoaa.Nm
