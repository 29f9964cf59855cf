/-
  A TELLING: the record that grows beside the records of new names.
-/
import Derived.Test.YtofdnbddpageoaaNmNumber
namespace Go.Proofs.Ytofdnbddpageoaa.Nm
open Go.RowKit Go.Maps

theorem app_bytes {W : World} {base base2 : Nat} {v : Value} {n : Nat} {xs ys : List Nat} {a2 : Option Addr} {m c2 : Nat} (hown : W.ownsRow base 5 1 v n (Pk.bytesV xs)) (hrow : W.ownsRow base2 5 1 (.slice a2 m c2) m (Pk.bytesV ys)) (hy : 0 < m) (hb : n + m ≤ 100000000) (hbase : base ≤ W.heap.size) :
    ∃ a' c' W', (Builtin.append_ #[32, 32] 32 #[v, .slice a2 m c2]).run Try.prog W = .ok (.slice a' (n + m) c') W' ∧ W'.ownsRow base 5 1 (.slice a' (n + m) c') (n + m) (Pk.bytesV (xs ++ ys)) ∧ W.grownBy W' v.ownBlock ∧ ∀ k, (Value.slice a' (n + m) c').ownBlock = some k → v.ownBlock = some k ∨ k = W.heap.size := by
  obtain ⟨i0, hi, hz0, hz1, hz2⟩ := info_parts Pk.info5
  rcases own_at hrow with ⟨_, h0⟩ | ⟨g, cap, e, _, _, _, hc⟩
  · omega
  · obtain ⟨rfl, -, rfl⟩ := Value.slice.inj e
    have hcells : ∀ j u, (Pk.bytesV ys)[j]? = some u → W.cell? ((⟨g, 0, Option.none⟩ : Addr).add j) = some u := fun j u hj => by
      rw [Go.WideShapes.add_plain, Nat.zero_add]
      exact hc j u hj
    obtain ⟨v', W', hr, h2, h3, _, h5⟩ := run_append_own_at (P := Try.prog) W base 32 32 5 i0 (.int .u8 0) 1 1 Try.underlying32 hi hz0 hz1 hz2 rfl (by decide) v n (Pk.bytesV xs) hown ⟨g, 0, Option.none⟩ m c2 (Pk.bytesV ys) (by have := hrow.1; omega) hcells (Pk.one_bytes ys) (by unfold maxLen; omega) (by omega) hbase
    obtain ⟨a', c', rfl⟩ := own_slice h2
    refine ⟨a', c', W', hr, by rw [Pk.bytesV_append]; exact h2, h3, fun k hk => ?_⟩
    rcases h5 with h5 | h5
    · exact .inl (by rw [← h5]; exact hk)
    · rw [h5] at hk
      exact .inr (Option.some.inj hk).symm

section
variable {V W W' : World} {p b2 b6 b5 fm : Nat} {vr : Value} {N K : List ByteArray} {recs : List (List Nat)} {S : Nat → Prop} {F : List (Option Fd)} {o o' : Option Nat}

theorem Ts.avoid (h : Ts V W p b2 b6 b5 fm vr N K recs S F o) (hb : Below W.heap.size W W') (ho : ∀ k, o' = some k → W.heap.size ≤ k ∧ k < W'.heap.size) : Ts V W' p b2 b6 b5 fm vr N K recs S F o' := by
  have h2 := h.below hb
  exact ⟨h2.h2, h2.h6, h2.h5, (h.rows.avoid fun k hk => (ho k hk).1).below hb, fun k hk => (ho k hk).2, h2.fresh, h2.low, h2.book, h2.inS, h2.bel⟩

/-- the record has grown -/
theorem Ts.grow {v v' : Value} {n n' : Nat} {xs ys : List Value} (h : Ts V W p b2 b6 b5 fm vr N K recs S F v.ownBlock) (hv : W.ownsRow V.heap.size 5 1 v n xs) (hg : W.grownBy W' v.ownBlock) (hv' : W'.ownsRow V.heap.size 5 1 v' n' ys) (hn : ∀ k, v'.ownBlock = some k → v.ownBlock = some k ∨ k = W.heap.size) :
    Ts V W' p b2 b6 b5 fm vr N K recs S F v'.ownBlock := by
  have kt : ∀ (k : Nat) (C : Array Value) (t : TypeId), W.heap[k]? = some (.cells C t (0, 0)) → t ≠ 5 → W'.heap[k]? = W.heap[k]? := fun k C t hc ht => hg.block k (lt_some hc) fun e => by
    obtain ⟨_, cur, hc2⟩ := owns_block hv e.symm
    exact ne_type hc hc2 ht rfl
  obtain ⟨es, c, hm⟩ := h.fresh.mi.map
  have kf : W'.heap[fm]? = W.heap[fm]? := hg.block fm (lt_some hm) fun e => by
    obtain ⟨_, cur, hc2⟩ := owns_block hv e.symm
    exact map_ne hc2 hm rfl
  refine ⟨(kt _ _ _ h.h2 (by decide)).trans h.h2, (kt _ _ _ h.h6 (by decide)).trans h.h6, (kt _ _ _ h.h5 (by decide)).trans h.h5, ?_, fun k hk => (hv'.lt k hk).2, h.fresh.kept kf, h.low, h.book, h.inS, h.bel.trans ⟨hg.os, hg.tape, hg.output, hg.size, fun k hk => hg.block k (by have := h.bel.size; omega) fun e => by have := (hv.lt k e.symm).1; omega⟩⟩
  obtain ⟨vs, r1, r2⟩ := h.rows
  refine ⟨vs, owns_kept r1 fun k hk => ?_, fun j r hj => ?_⟩
  · obtain ⟨_, cur, hc⟩ := owns_block r1 hk
    exact kt k _ _ hc (by decide)
  · obtain ⟨u, h3, h4, h5⟩ := r2 j r hj
    refine ⟨u, h3, owns_kept h4 fun k hk => hg.block k (h4.lt k hk).2 (fun e => h5 k hk e.symm), fun k hk e => ?_⟩
    rcases hn k e with h6 | h6
    · exact h5 k hk h6
    · have := (h4.lt k hk).2; omega

/-- the record stands while a number is told -/
theorem nu_row {v : Value} {n : Nat} {xs : List Value} (h : Ts V W p b2 b6 b5 fm vr N K recs S F o) (hv : W.ownsRow V.heap.size 5 1 v n xs) (hm : Mod (fun k => k = fm ∨ k = b5 ∨ vr.ownBlock = some k) W W') : W'.ownsRow V.heap.size 5 1 v n xs :=
  owns_kept hv fun k hk => by
    obtain ⟨_, cur, hc⟩ := owns_block hv hk
    refine hm.block k (lt_some hc) ?_
    rintro (e | e | e)
    · obtain ⟨es, c, hm2⟩ := h.fresh.mi.map
      exact map_ne hc hm2 e
    · exact ne_type hc h.h5 (by decide) e
    · obtain ⟨_, cur2, hc2⟩ := h.rows.blk e
      exact ne_type hc hc2 (by decide) rfl
end

theorem wpList_append_b {w w2 : World} {ops : Array Oper} {rest : List Oper} {o : Oper} {a : Act} {Q : Exit → Act → World → Prop} (hgd : o.guard = Option.none) (s x : Operand)
    (ho : o.op = .call { callee := .builtin .append, args := #[s, x], argTypes := #[32, 32] }) (hty : o.type = 32) (v1 v2 v : Value) (hs : a.eval s = v1) (hx : a.eval x = v2)
    (hrun : (Builtin.append_ #[32, 32] 32 #[v1, v2]).run Try.prog w = .ok v w2) (h : wpList Try.prog ops Q rest (a.put o.dst v) w2) : wpList Try.prog ops Q (o :: rest) a w := by
  refine wpList_plain hgd fun K hK => ?_
  unfold Oper.wp
  simp [execOp, ho, hty, resolve, invoke, builtin, hs, hx, hrun, Result.andThen]
  exact hK _ _ h
end Go.Proofs.Ytofdnbddpageoaa.Nm

/-! telling, WALKED. -/
namespace Go.Proofs.Ytofdnbddpageoaa.Nm
open Go.RowKit Go.Maps

/-- a row of texts -/
def StrRow (w : World) (v : Value) (l : List ByteArray) : Prop :=
  ∃ a c, v = .slice a l.length c ∧ l.length ≤ c ∧ (l = [] ∨ ∃ b off, a = some ⟨b, off, Option.none⟩ ∧ b < w.heap.size ∧ ∀ i x, l[i]? = some x → w.cell? ⟨b, off + i, Option.none⟩ = some (.string x))
theorem StrRow.below {w w' : World} {v : Value} {l : List ByteArray} (h : StrRow w v l) (hb : Below w.heap.size w w') : StrRow w' v l := by
  obtain ⟨a, c, e, h1, h2⟩ := h
  refine ⟨a, c, e, h1, h2.imp id fun ⟨b, off, e, hl, hc⟩ => ⟨b, off, e, Nat.lt_of_lt_of_le hl hb.size, fun i x hi => (cell_of_block (hb.block b hl)).trans (hc i x hi)⟩⟩

theorem tell_ids (t : Tl) (s : ByteArray) : (t.tell s).ids = t.ids ++ [numOf t.M s] := by
  unfold Tl.tell numOf
  cases ixOf t.M s <;> rfl
theorem tell_M (M : List ByteArray) (recs : List (List Nat)) (ids ids' : List Nat) (s : ByteArray) : ((⟨M, recs, ids⟩ : Tl).tell s).M = ((⟨M, recs, ids'⟩ : Tl).tell s).M ∧ ((⟨M, recs, ids⟩ : Tl).tell s).recs = ((⟨M, recs, ids'⟩ : Tl).tell s).recs := by
  unfold Tl.tell
  cases ixOf M s <;> exact ⟨rfl, rfl⟩
theorem tellAll_snoc (N l : List ByteArray) (s : ByteArray) : tellAll N (l ++ [s]) = (tellAll N l).tell s := by simp [tellAll]

theorem tell_len (N : List ByteArray) (l : List ByteArray) : (tellAll N l).M.length ≤ N.length + l.length ∧ (tellAll N l).recs.length ≤ l.length ∧ (tellAll N l).ids.length = l.length := by
  refine snoc_ind (P := fun l => (tellAll N l).M.length ≤ N.length + l.length ∧ (tellAll N l).recs.length ≤ l.length ∧ (tellAll N l).ids.length = l.length) ?_ ?_ l
  · simp [tellAll]
  · intro l s ⟨h1, h2, h3⟩
    rw [tellAll_snoc]
    refine ⟨?_, ?_, by rw [tell_ids]; simp [h3]⟩
    · unfold Tl.tell
      cases ixOf (tellAll N l).M s <;> simp <;> omega
    · unfold Tl.tell
      cases ixOf (tellAll N l).M s <;> simp <;> omega

/-- the record, so far -/
def recJ (N : List ByteArray) (out : ByteArray) (time dn : Nat) (l : List ByteArray) : List Nat :=
  2 :: (Pk.le ((tellAll N (out :: l)).ids.headD 0) 4 ++ Pk.le time 8 ++ Pk.le dn 4 ++ idB (tellAll N (out :: l)).ids.tail)

theorem recJ_nil (N : List ByteArray) (out : ByteArray) (time dn : Nat) : [2] ++ Pk.le (numOf (N ++ []) out) 4 ++ Pk.le time 8 ++ Pk.le dn 4 = recJ N out time dn [] := by
  have e : (tellAll N [out]).ids = [numOf N out] := by
    have : tellAll N [out] = (⟨N, [], []⟩ : Tl).tell out := rfl
    rw [this, tell_ids]
    rfl
  unfold recJ
  rw [e]
  simp [idB]

theorem recJ_snoc (N : List ByteArray) (out : ByteArray) (time dn : Nat) (l : List ByteArray) (s : ByteArray) : recJ N out time dn l ++ Pk.le (numOf (tellAll N (out :: l)).M s) 4 = recJ N out time dn (l ++ [s]) := by
  have e : (tellAll N (out :: (l ++ [s]))).ids = (tellAll N (out :: l)).ids ++ [numOf (tellAll N (out :: l)).M s] := by
    rw [← List.cons_append, tellAll_snoc, tell_ids]
  have hl := (tell_len N (out :: l)).2.2
  unfold recJ
  rw [e]
  cases hi : (tellAll N (out :: l)).ids with
  | nil => rw [hi] at hl; simp at hl
  | cons i ids => simp [idB]

theorem recJ_end (N : List ByteArray) (out : ByteArray) (time : Nat) (l : List ByteArray) : recJ N out time l.length l = recO ((tellAll N (out :: l)).ids.headD 0) time (tellAll N (out :: l)).ids.tail := by
  have hl := (tell_len N (out :: l)).2.2
  unfold recJ recO
  rw [List.length_tail, hl]
  simp

/-- a telling with its record -/
structure Tt (V W : World) (p b2 b6 b5 fm bd : Nat) (vr v : Value) (n : Nat) (N K : List ByteArray) (recs : List (List Nat)) (S : Nat → Prop) (F : List (Option Fd)) (X : List Nat) (D : Array Value) : Prop where
  ts : Ts V W p b2 b6 b5 fm vr N K recs S F v.ownBlock
  row : W.ownsRow V.heap.size 5 1 v n (Pk.bytesV X)
  box : W.heap[bd]? = some (.cells D 39 (0, 0))

section
variable {V W W' : World} {p b2 b6 b5 fm bd : Nat} {vr v : Value} {n : Nat} {N K : List ByteArray} {recs : List (List Nat)} {S : Nat → Prop} {F : List (Option Fd)} {X : List Nat} {D : Array Value}
theorem Tt.below (h : Tt V W p b2 b6 b5 fm bd vr v n N K recs S F X D) (hb : Below W.heap.size W W') : Tt V W' p b2 b6 b5 fm bd vr v n N K recs S F X D :=
  ⟨h.ts.below hb, owns_below h.row hb, (hb.block _ (lt_some h.box)).trans h.box⟩

/-- another record, newly made, stands for it -/
theorem Tt.made (h : Tt V W p b2 b6 b5 fm bd vr v n N K recs S F X D) (hb : Below W.heap.size W W') {v' : Value} {n' : Nat} {Y : List Nat} (hv : W'.ownsRow W.heap.size 5 1 v' n' (Pk.bytesV Y)) : Tt V W' p b2 b6 b5 fm bd vr v' n' N K recs S F Y D :=
  ⟨h.ts.avoid hb fun k hk => hv.lt k hk, owns_base hv h.ts.bel.size, (hb.block _ (lt_some h.box)).trans h.box⟩

/-- a number is told, and put behind the record -/
theorem Tt.number (h : Tt V W p b2 b6 b5 fm bd vr v n N K recs S F X D) {s : ByteArray} {e : Ending} (hq : NuQ V W p b2 b6 b5 fm vr N K recs S F v.ownBlock s e W') (hn : n ≤ 1000000) :
    ∃ a2 c2, e = .returned (.slice a2 4 c2) ∧ ∃ a' c' W3 vr' K' recs', (Builtin.append_ #[32, 32] 32 #[v, .slice a2 4 c2]).run Try.prog W' = .ok (.slice a' (n + 4) c') W3 ∧
      Tt V W3 p b2 b6 b5 fm bd vr' (.slice a' (n + 4) c') (n + 4) N K' recs' S F (X ++ Pk.le (numOf (N ++ K) s) 4) D ∧ N ++ K' = ((⟨N ++ K, recs, []⟩ : Tl).tell s).M ∧ recs' = ((⟨N ++ K, recs, []⟩ : Tl).tell s).recs := by
  obtain ⟨a2, m, c2, vr', K', recs', rfl, hown, hts, hm, hM, hR⟩ := hq
  have hm4 : m = 4 := by have := hown.1; rw [Pk.bytesV_length, Pk.le_length] at this; omega
  subst hm4
  have row1 := nu_row h.ts h.row hm
  obtain ⟨a', c', W3, hrun, h2, hg, hn3⟩ := app_bytes row1 hown (by omega) (by omega) hts.bel.size
  have ts3 := hts.grow row1 hg h2 hn3
  have b1 : W'.heap[bd]? = some (.cells D 39 (0, 0)) := (hm.block bd (lt_some h.box) (by
    rintro (e | e | e)
    · obtain ⟨es, c, hm2⟩ := h.ts.fresh.mi.map
      exact map_ne h.box hm2 e
    · exact ne_type h.box h.ts.h5 (by decide) e
    · obtain ⟨_, cur2, hc2⟩ := h.ts.rows.blk e
      exact ne_type h.box hc2 (by decide) rfl)).trans h.box
  have b3 : W3.heap[bd]? = some (.cells D 39 (0, 0)) := (hg.block bd (lt_some b1) (fun e => by
    obtain ⟨_, cur2, hc2⟩ := owns_block row1 e.symm
    exact ne_type b1 hc2 (by decide) rfl)).trans b1
  exact ⟨a2, c2, rfl, a', c', W3, vr', K', recs', hrun, ⟨ts3, h2, b3⟩, hM, hR⟩

theorem Tt.cells {out : ByteArray} {time : Nat} {dv : Value} (h : Tt V W p b2 b6 b5 fm bd vr v n N K recs S F X #[.string out, .int .i64 (time : Int), dv]) : W.cell? ⟨bd, 0, Option.none⟩ = some (.string out) ∧ W.cell? ⟨bd, 1, Option.none⟩ = some (.int .i64 (time : Int)) ∧ W.cell? ⟨bd, 2, Option.none⟩ = some dv := by
  simp [World.cell?, h.box]
end

/-- what a telling starts from -/
theorem tt_start {S : Nat → Prop} {w : World} {p : Nat} {B : Bo} {v1 v2 v3 : Value} {Q : List (Option Nat)} {D : Array Value} (h : Bk S w p B v1 v2 v3 Q) (hSw : ∀ k, S k → k < w.heap.size) :
    Tt w ((((((w.alloc (.cells #[.pointer (some ⟨p, 0, Option.none⟩)] 24)).alloc (.cells D 39)).alloc (.cells #[.slice Option.none 0 0] 22)).alloc (.map #[] 0)).alloc (.cells #[.map (some (w.heap.size + 1 + 1 + 1))] 66)).alloc (.cells #[.int .u8 2] 5))
      p w.heap.size (w.heap.size + 1 + 1 + 1 + 1) (w.heap.size + 1 + 1) (w.heap.size + 1 + 1 + 1) (w.heap.size + 1) (.slice Option.none 0 0) (.slice (some ⟨w.heap.size + 1 + 1 + 1 + 1 + 1, 0, Option.none⟩) 1 1) 1 B.N [] [] S B.F [2] D := by
  obtain ⟨U1, hU1⟩ : ∃ U, w.alloc (.cells #[.pointer (some ⟨p, 0, Option.none⟩)] 24) = U := ⟨_, rfl⟩
  have z1 : U1.heap.size = w.heap.size + 1 := by rw [← hU1]; exact Array.size_push _
  have q1 : U1.heap[w.heap.size]? = some (.cells #[.pointer (some ⟨p, 0, Option.none⟩)] 24 (0, 0)) := by rw [← hU1]; exact heap_alloc_new _ _
  have m1 : Below w.heap.size w U1 := by rw [← hU1]; exact Pk.below_alloc _ _
  rw [hU1]
  obtain ⟨U2, hU2⟩ : ∃ U, U1.alloc (.cells D 39) = U := ⟨_, rfl⟩
  have z2 : U2.heap.size = w.heap.size + 1 + 1 := by rw [← hU2, ← z1]; exact Array.size_push _
  have q2 : U2.heap[w.heap.size + 1]? = some (.cells D 39 (0, 0)) := by rw [← hU2, ← z1]; exact heap_alloc_new _ _
  have m2 : Below U1.heap.size U1 U2 := by rw [← hU2]; exact Pk.below_alloc _ _
  rw [hU2]
  obtain ⟨U3, hU3⟩ : ∃ U, U2.alloc (.cells #[.slice Option.none 0 0] 22) = U := ⟨_, rfl⟩
  have z3 : U3.heap.size = w.heap.size + 1 + 1 + 1 := by rw [← hU3, ← z2]; exact Array.size_push _
  have q3 : U3.heap[w.heap.size + 1 + 1]? = some (.cells #[.slice Option.none 0 0] 22 (0, 0)) := by rw [← hU3, ← z2]; exact heap_alloc_new _ _
  have m3 : Below U2.heap.size U2 U3 := by rw [← hU3]; exact Pk.below_alloc _ _
  rw [hU3]
  have f4 := Fm.made U3
  obtain ⟨U4, hU4⟩ : ∃ U, U3.alloc (.map #[] 0) = U := ⟨_, rfl⟩
  have z4 : U4.heap.size = w.heap.size + 1 + 1 + 1 + 1 := by rw [← hU4, ← z3]; exact Array.size_push _
  have m4 : Below U3.heap.size U3 U4 := by rw [← hU4]; exact Pk.below_alloc _ _
  rw [hU4] at f4 ⊢
  rw [z3] at f4
  obtain ⟨U5, hU5⟩ : ∃ U, U4.alloc (.cells #[.map (some (w.heap.size + 1 + 1 + 1))] 66) = U := ⟨_, rfl⟩
  have z5 : U5.heap.size = w.heap.size + 1 + 1 + 1 + 1 + 1 := by rw [← hU5, ← z4]; exact Array.size_push _
  have q5 : U5.heap[w.heap.size + 1 + 1 + 1 + 1]? = some (.cells #[.map (some (w.heap.size + 1 + 1 + 1))] 66 (0, 0)) := by rw [← hU5, ← z4]; exact heap_alloc_new _ _
  have m5 : Below U4.heap.size U4 U5 := by rw [← hU5]; exact Pk.below_alloc _ _
  rw [hU5]
  have bb : Below w.heap.size w U5 := m1.trans ((m2.mono (by omega)).trans ((m3.mono (by omega)).trans ((m4.mono (by omega)).trans (m5.mono (by omega)))))
  have e2 : U5.heap[w.heap.size]? = U1.heap[w.heap.size]? := (m5.block _ (by omega)).trans ((m4.block _ (by omega)).trans ((m3.block _ (by omega)).trans (m2.block _ (by omega))))
  have e3 : U5.heap[w.heap.size + 1]? = U2.heap[w.heap.size + 1]? := (m5.block _ (by omega)).trans ((m4.block _ (by omega)).trans (m3.block _ (by omega)))
  have e4 : U5.heap[w.heap.size + 1 + 1]? = U3.heap[w.heap.size + 1 + 1]? := (m5.block _ (by omega)).trans (m4.block _ (by omega))
  have ts5 : Ts w U5 p w.heap.size (w.heap.size + 1 + 1 + 1 + 1) (w.heap.size + 1 + 1) (w.heap.size + 1 + 1 + 1) (.slice Option.none 0 0) B.N [] [] S B.F Option.none :=
    ⟨e2.trans q1, q5, e4.trans q3, rows_nil _ _ _, (fun k hk => nomatch hk), by
      rw [freshF_nil]
      exact f4.kept (m5.block _ (by omega)), ⟨by omega, by omega, by omega, by omega⟩, ⟨v1, v2, v3, Q, h⟩, hSw, bb⟩
  have lit := World.ownsRow_lit (base := w.heap.size) (e := 5) (size := 1) U5 #[.int .u8 2] 1 (by omega) (by unfold maxLen; omega) rfl
  have zl : (U5.alloc (.cells #[.int .u8 2] 5)).heap.size = U5.heap.size + 1 := Array.size_push _
  rw [z5] at lit
  refine ⟨ts5.avoid (Pk.below_alloc _ _) fun k hk => ?_, lit, (Below.heap_alloc _ _ _ (by omega)).trans (e3.trans q2)⟩
  have : w.heap.size + 1 + 1 + 1 + 1 + 1 = k := Option.some.inj hk
  omega

set_option maxRecDepth 100000 in
set_option maxHeartbeats 8000000 in
theorem telling_c {S : Nat → Prop} {w : World} {p : Nat} {B : Bo} {v1 v2 v3 dv : Value} {Q : List (Option Nat)} {out : ByteArray} {time : Nat} {deps : List ByteArray} (h : Bk S w p B v1 v2 v3 Q) (hSw : ∀ k, S k → k < w.heap.size) (hd : StrRow w dv deps) (hs : ∀ s ∈ out :: deps, s.size ≤ 65535) (ht : time < 4611686018427387904) (hN : B.N.length + deps.length + 1 < 50000) :
    Calls Try.prog 40 #[.pointer (some ⟨p, 0, Option.none⟩), .agg #[.string out, .int .i64 (time : Int), dv]] w fun e W' => ∃ vr, e = .returned vr ∧ Rows w.heap.size Option.none W' vr (plan B.N out time deps) ∧ Below w.heap.size w W' := by
  obtain ⟨da, dc, rfl, hdc, hdrow⟩ := hd
  have hmk := @run_makeMap Try.prog
  have T0 := tt_start (D := #[.string out, .int .i64 (time : Int), .slice da deps.length dc]) h hSw
  obtain ⟨W1, hW1⟩ : ∃ W, ((((((w.alloc (.cells #[.pointer (some ⟨p, 0, Option.none⟩)] 24)).alloc (.cells #[.string out, .int .i64 (time : Int), .slice da deps.length dc] 39)).alloc (.cells #[.slice Option.none 0 0] 22)).alloc (.map #[] 0)).alloc (.cells #[.map (some (w.heap.size + 1 + 1 + 1))] 66)).alloc (.cells #[.int .u8 2] 5)) = W := ⟨_, rfl⟩
  rw [hW1] at T0
  obtain ⟨b0, b1, b2⟩ := T0.cells
  have cn := number_c T0.ts (s := out) (hs out (by simp)) (by simp; omega) (by simp)
  have HT0 := Lib.hid T0
  have HS := Lib.hid hs
  have HDR := Lib.hid hdrow
  have wt : IntKind.u64.wrap (time : Int) = (time : Int) := by rw [IntKind.wrap_u64]; omega
  have wd : IntKind.u32.wrap (deps.length : Int) = (deps.length : Int) := by rw [IntKind.wrap_u32]; omega
  have PLAN : Hid (plan B.N out time deps = (tellAll B.N (out :: deps)).recs ++ [recO ((tellAll B.N (out :: deps)).ids.headD 0) time (tellAll B.N (out :: deps)).ids.tail]) := Lib.hid rfl
  clear T0 h hSw hs hdrow
  go_enter Try.func40, Try.ntmps40
  go_wp2_with fail
  refine cn.mono ?_
  rintro e W2 hq
  obtain ⟨a2, c2, rfl, a3, c3, W3, vr3, K3, R3, hrun, T3, hM3, hR3⟩ := Tt.number HT0.out hq (by omega)
  have HT3 : Hid (Tt w W3 p w.heap.size (w.heap.size + 1 + 1 + 1 + 1) (w.heap.size + 1 + 1) (w.heap.size + 1 + 1 + 1) (w.heap.size + 1) vr3 (.slice a3 5 c3) 5 B.N K3 R3 S B.F ([2] ++ Pk.le (numOf (B.N ++ []) out) 4) #[.string out, .int .i64 (time : Int), .slice da deps.length dc]) := Lib.hid T3
  have hrun' : (Builtin.append_ #[32, 32] 32 #[.slice (some ⟨w.heap.size + 1 + 1 + 1 + 1 + 1, 0, Option.none⟩) 1 1, .slice a2 4 c2]).run Try.prog W2 = .ok (.slice a3 5 c3) W3 := hrun
  obtain ⟨e0, e1, e2⟩ := T3.cells
  obtain ⟨hm3, hr3, -⟩ := Pk.owned_row HT3.out.row
  have c64 := Pk.u64_any a3 5 c3 ([2] ++ Pk.le (numOf (B.N ++ []) out) 4) time W3 (by omega) hm3 hr3 (by omega)
  have HM3 := Lib.hid hM3
  have HR3 := Lib.hid hR3
  clear hq cn hrun T3 hM3 hR3 hr3 b0 b1 b2 hW1 hmk
  go_wp2_with (at_builtin; refine wpList_append_b rfl (.tmp 13) (.tmp 17) rfl rfl _ _ _ rfl rfl hrun' ?_)
  refine c64.mono ?_
  rintro e W4 ⟨a4, n4, c4, rfl, hown4, hb4⟩
  have T4 := HT3.out.made hb4 hown4
  obtain ⟨g0, g1, g2⟩ := T4.cells
  obtain ⟨hm4, hr4, -⟩ := Pk.owned_row T4.row
  have hn4 : n4 = 13 := by have := hm4.out; simp [Pk.le_length] at this; omega
  subst hn4
  have c32 := Pk.u32_any a4 13 c4 _ deps.length W4 (by omega) hm4 hr4 (by omega)
  have HT4 := Lib.hid T4
  clear c64 hown4 hb4 T4 hr4 hrun' e0 e1 e2 hm3
  go_wp2_with fail
  refine c32.mono ?_
  rintro e W5 ⟨a5, n5, c5, rfl, hown5, hb5⟩
  have T5 := HT4.out.made hb5 hown5
  obtain ⟨k0, k1, k2⟩ := T5.cells
  have hn5 : n5 = 17 := by have := hown5.1; simp [Pk.bytesV_length, Pk.le_length] at this; omega
  subst hn5
  have HT5 := Lib.hid T5
  clear c32 hown5 hb5 T5 g0 g1 g2 hm4
  go_wp2_with fail
  have X0 : Hid (Tt w W5 p w.heap.size (w.heap.size + 1 + 1 + 1 + 1) (w.heap.size + 1 + 1) (w.heap.size + 1 + 1 + 1) (w.heap.size + 1) vr3 (.slice a5 17 c5) 17 B.N K3 R3 S B.F (recJ B.N out time deps.length []) #[.string out, .int .i64 (time : Int), .slice da deps.length dc]) := Lib.hid (by rw [← recJ_nil]; exact HT5.out)
  have Y0 : Hid (B.N ++ K3 = (tellAll B.N (out :: deps.take 0)).M ∧ R3 = (tellAll B.N (out :: deps.take 0)).recs) := Lib.hid (by
    have e : tellAll B.N (out :: deps.take 0) = (⟨B.N, [], []⟩ : Tl).tell out := rfl
    rw [e, HM3.out, HR3.out, List.append_nil]
    exact ⟨rfl, rfl⟩)
  clear k0 k1 k2 HT5 HT4 HT3 HT0 HM3 HR3
  go_loopw [8, 10, 33] (fun v8 _ i wr => ∃ j : Nat, j ≤ deps.length ∧ i = .int .i64 j ∧ ∃ (ra : Option Addr) (rn rc : Nat) (vr : Value) (K : List ByteArray) (recs : List (List Nat)), v8 = .slice ra rn rc ∧ rn = 17 + 4 * j ∧
      Hid (Tt w wr p w.heap.size (w.heap.size + 1 + 1 + 1 + 1) (w.heap.size + 1 + 1) (w.heap.size + 1 + 1 + 1) (w.heap.size + 1) vr (.slice ra rn rc) rn B.N K recs S B.F (recJ B.N out time deps.length (deps.take j)) #[.string out, .int .i64 (time : Int), .slice da deps.length dc]) ∧
      Hid (B.N ++ K = (tellAll B.N (out :: deps.take j)).M ∧ recs = (tellAll B.N (out :: deps.take j)).recs)) (fun _ _ i _ => deps.length - (intOf i).toNat)
  case atStart => exact ⟨0, Nat.zero_le _, rfl, a5, 17, c5, vr3, K3, R3, rfl, rfl, X0, Y0⟩
  case round =>
    obtain ⟨j, hj, rfl, ra, rn, rc, vr, K, recs, rfl, hrn, hT, hE⟩ := hrel
    have HRN := Lib.hid hrn
    have hrb : rn ≤ 300000 := by omega
    clear X0 Y0 hrn
    by_cases hlt : j < deps.length
    · have hx := List.getElem?_eq_getElem hlt
      have htk : deps.take (j + 1) = deps.take j ++ [deps[j]] := by
        rw [List.take_add_one, hx]
        generalize deps[j] = y
        rfl
      have hsz := HS.out deps[j] (by simp)
      rcases HDR.out with h0 | ⟨b, off, rfl, hb, hcell⟩
      · rw [h0] at hlt; simp at hlt
      have hc0 := hcell j _ hx
      generalize deps[j] = s at *
      have hc1 := (cell_of_block (j := off + j) (hT.out.ts.bel.block b hb)).trans hc0
      obtain ⟨l1, l2, l3⟩ := tell_len B.N (out :: deps.take j)
      have hKl : B.N.length + K.length = (tellAll B.N (out :: deps.take j)).M.length := by rw [← hE.out.1, List.length_append]
      have hRl : recs.length ≤ 1000000 := by rw [hE.out.2]; simp at l2; omega
      have cn := number_c hT.out.ts (s := s) hsz (by rw [hKl]; simp at l1; omega) hRl
      have HTK := Lib.hid htk
      have HTT := Lib.hid hT.out
      have hi0 : (0 : Int) ≤ (j : Int) := by omega
      have hi1 : (j : Int) < (deps.length : Int) := by omega
      clear hcell hc0 hx htk l1 l2 l3 hKl hRl hsz
      go_wp2_with fail
      refine cn.mono ?_
      rintro e W6 hq
      obtain ⟨a2', c2', rfl, a7, c7, W7, vr7, K7, R7, hrun, T7, hM7, hR7⟩ := Tt.number HTT.out hq (by omega)
      have HT7 := Lib.hid T7
      have HE7 : Hid (B.N ++ K7 = (tellAll B.N (out :: deps.take (j + 1))).M ∧ R7 = (tellAll B.N (out :: deps.take (j + 1))).recs) := Lib.hid (by
        rw [HTK.out, ← List.cons_append, tellAll_snoc]
        obtain ⟨q1, q2⟩ := tell_M (tellAll B.N (out :: deps.take j)).M (tellAll B.N (out :: deps.take j)).recs [] (tellAll B.N (out :: deps.take j)).ids s
        rw [hM7, hR7, hE.out.1, hE.out.2]
        exact ⟨q1, q2⟩)
      have HX7 : Hid (recJ B.N out time deps.length (deps.take j) ++ Pk.le (numOf (B.N ++ K) s) 4 = recJ B.N out time deps.length (deps.take (j + 1))) := Lib.hid (by rw [HTK.out, ← recJ_snoc, hE.out.1])
      clear hq cn T7 hM7 hR7 hc1
      go_wp2_with (at_builtin; refine wpList_append_b rfl (.tmp 37) (.tmp 40) rfl rfl _ _ _ rfl rfl hrun ?_)
      clear hrun
      go_roundw
      case rel => exact ⟨j + 1, by omega, by go_num, a7, rn + 4, c7, vr7, K7, R7, rfl, by have := HRN.out; omega, Lib.hid (by rw [← HX7.out]; exact HT7.out), HE7⟩
      case measure => simp [intOf]; omega
    · obtain rfl : j = deps.length := by omega
      rw [List.take_length] at hT hE
      have hRl : recs.length ≤ 1000000 := by
        have := (tell_len B.N (out :: deps)).2.1
        rw [hE.out.2]
        simp at this
        omega
      have rows0 : Rows w.heap.size Option.none wr vr recs := hT.out.ts.rows.avoid (fun k hk => nomatch hk)
      obtain ⟨xa, xc, rfl⟩ := rows0.val
      have hru := hT.out.row
      have hrl : rn = (recJ B.N out time deps.length deps).length := by have := hru.1; rw [Pk.bytesV_length] at this; omega
      obtain ⟨ya, yc, W9, hrun, hrows, hgrow⟩ := rows_app rows0 (r := recJ B.N out time deps.length deps) (base' := w.heap.size) (u := .slice ra rn rc) (by rw [← hrl]; exact hru) (Nat.le_refl _) hT.out.ts.bel.size hRl (fun k hk e => nomatch e)
      obtain ⟨g5, -⟩ := one_cell hT.out.ts.h5
      have FIN : Hid (Rows w.heap.size Option.none W9 (.slice ya (recs.length + 1) yc) (plan B.N out time deps)) := Lib.hid (by
        rw [PLAN.out, ← hE.out.2, ← recJ_end]
        exact hrows)
      have BEL : Hid (Below w.heap.size w W9) := Lib.hid (by
        have z := hT.out.ts.bel.size
        have za : (wr.alloc (.cells #[.slice ra rn rc] 32)).heap.size = wr.heap.size + 1 := Array.size_push _
        exact (hT.out.ts.bel.alloc z _).trans ⟨hgrow.os, hgrow.tape, hgrow.output, hgrow.size, fun k hk => hgrow.block k (by omega) fun e => by have := (rows0.blk e.symm).1; omega⟩)
      clear rows0 hru hrl hrows hgrow hT hE hRl
      go_wp2_with (at_builtin; refine wpList_append_rows rfl (.tmp 43) (.tmp 45) rfl rfl _ _ _ rfl rfl hrun ?_)
      go_ret
      exact ⟨_, rfl, FIN.out, BEL.out⟩
end Go.Proofs.Ytofdnbddpageoaa.Nm
