/-
  THE NUMBER OF A Ytofdnbddpageoaa WITHIN A TELLING: the closure, walked.
-/
import Derived.Test.YtofdnbddpageoaaNmFresh
namespace Go.Proofs.Ytofdnbddpageoaa.Nm
open Go.RowKit Go.Maps

/-- what the closure comes to -/
def NuQ (V W : World) (p b2 b6 b5 fm : Nat) (vr : Value) (N K : List ByteArray) (recs : List (List Nat)) (S : Nat → Prop) (F : List (Option Fd)) (o : Option Nat) (s : ByteArray) (e : Ending) (W' : World) : Prop :=
  ∃ a n c vr' K' recs', e = .returned (.slice a n c) ∧ W'.ownsRow W.heap.size 5 1 (.slice a n c) n (Pk.bytesV (Pk.le (numOf (N ++ K) s) 4)) ∧ Ts V W' p b2 b6 b5 fm vr' N K' recs' S F o ∧
    Mod (fun k => k = fm ∨ k = b5 ∨ vr.ownBlock = some k) W W' ∧ N ++ K' = ((⟨N ++ K, recs, []⟩ : Tl).tell s).M ∧ recs' = ((⟨N ++ K, recs, []⟩ : Tl).tell s).recs

section
variable {V W W' : World} {p b2 b6 b5 fm : Nat} {vr : Value} {N K : List ByteArray} {recs : List (List Nat)} {S : Nat → Prop} {F : List (Option Fd)} {o : Option Nat}
theorem Ts.below (h : Ts V W p b2 b6 b5 fm vr N K recs S F o) (hb : Below W.heap.size W W') : Ts V W' p b2 b6 b5 fm vr N K recs S F o := by
  obtain ⟨es, c, hm⟩ := h.fresh.mi.map
  exact ⟨(hb.block _ (lt_some h.h2)).trans h.h2, (hb.block _ (lt_some h.h6)).trans h.h6, (hb.block _ (lt_some h.h5)).trans h.h5, h.rows.below hb, fun k hk => Nat.lt_of_lt_of_le (h.oW k hk) hb.size, h.fresh.kept (hb.block _ (lt_some hm)), h.low, h.book, h.inS, h.bel.trans (hb.mono h.bel.size)⟩

/-- a name that is known -/
theorem nu_known (h : Ts V W p b2 b6 b5 fm vr N K recs S F o) {s : ByteArray} {i : Nat} (hi : ixOf (N ++ K) s = some i) {a : Option Addr} {n c : Nat} (hown : W'.ownsRow W.heap.size 5 1 (.slice a n c) n (Pk.bytesV ([] ++ Pk.le i 4))) (hb : Below W.heap.size W W') :
    NuQ V W p b2 b6 b5 fm vr N K recs S F o s (.returned (.slice a n c)) W' := by
  refine ⟨a, n, c, vr, K, recs, rfl, ?_, h.below hb, Mod.ofBelow hb, ?_, ?_⟩
  · unfold numOf
    rw [hi]
    simpa using hown
  · unfold Tl.tell
    rw [hi]
  · unfold Tl.tell
    rw [hi]
end

theorem Rows.keptT {base : Nat} {o : Option Nat} {w w' : World} {v : Value} {rs : List (List Nat)} (h : Rows base o w v rs) (hb : ∀ (k : Nat) (C : Array Value) (t : TypeId), w.heap[k]? = some (.cells C t (0, 0)) → (t = 32 ∨ t = 5) → w'.heap[k]? = w.heap[k]?) : Rows base o w' v rs := by
  obtain ⟨vs, h1, h2⟩ := h
  refine ⟨vs, owns_kept h1 fun k hk => ?_, fun j r hj => ?_⟩
  · obtain ⟨_, cur, hc⟩ := owns_block h1 hk
    exact hb k _ _ hc (.inl rfl)
  · obtain ⟨u, h3, h4, h5⟩ := h2 j r hj
    refine ⟨u, h3, owns_kept h4 (fun k hk => ?_), h5⟩
    obtain ⟨_, cur, hc⟩ := owns_block h4 hk
    exact hb k _ _ hc (.inr rfl)

theorem wpList_append_rows {w w2 : World} {ops : Array Oper} {rest : List Oper} {o : Oper} {a : Act} {Q : Exit → Act → World → Prop} (hgd : o.guard = Option.none) (s x : Operand)
    (ho : o.op = .call { callee := .builtin .append, args := #[s, x], argTypes := #[22, 22] }) (hty : o.type = 22) (v1 v2 v : Value) (hs : a.eval s = v1) (hx : a.eval x = v2)
    (hrun : (Builtin.append_ #[22, 22] 22 #[v1, v2]).run Try.prog w = .ok v w2) (h : wpList Try.prog ops Q rest (a.put o.dst v) w2) : wpList Try.prog ops Q (o :: rest) a w := by
  refine wpList_plain hgd fun K hK => ?_
  unfold Oper.wp
  simp [execOp, ho, hty, resolve, invoke, builtin, hs, hx, hrun, Result.andThen]
  exact hK _ _ h

theorem Rows.blk {base : Nat} {o : Option Nat} {w : World} {v : Value} {rs : List (List Nat)} (h : Rows base o w v rs) {k : Nat} (hk : v.ownBlock = some k) : base ≤ k ∧ ∃ cur, w.heap[k]? = some (.cells cur 32 (0, 0)) := by
  obtain ⟨vs, h1, _⟩ := h
  exact owns_block h1 hk

/-- behind the new name's number is put -/
theorem nu_put {V W W1 : World} {p b2 b6 b5 fm : Nat} {vr : Value} {N K : List ByteArray} {recs : List (List Nat)} {S : Nat → Prop} {F : List (Option Fd)} {o : Option Nat} (h : Ts V W p b2 b6 b5 fm vr N K recs S F o) (hg : W.grownBy W1 (some fm)) :
    (∀ (k : Nat) (C : Array Value) (t : TypeId), W.heap[k]? = some (.cells C t (0, 0)) → W1.heap[k]? = W.heap[k]?) ∧ Rows V.heap.size o W1 vr recs ∧ Below V.heap.size V W1 := by
  obtain ⟨es, c, hm⟩ := h.fresh.mi.map
  have kc : ∀ (k : Nat) (C : Array Value) (t : TypeId), W.heap[k]? = some (.cells C t (0, 0)) → W1.heap[k]? = W.heap[k]? := fun k C t hc => hg.block k (lt_some hc) fun e => map_ne hc hm (Option.some.inj e)
  exact ⟨kc, h.rows.keptT fun k C t hc _ => kc k C t hc, h.bel.trans ⟨hg.os, hg.tape, hg.output, hg.size, fun k hk => hg.block k (by have := h.bel.size; omega) fun e => by have := Option.some.inj e; have := h.low.2.2.2; omega⟩⟩

/-- a new name -/
theorem nu_new {V W W1 W2 W3 W5 : World} {p b2 b6 b5 fm : Nat} {vr vr' u : Value} {N K : List ByteArray} {recs : List (List Nat)} {S : Nat → Prop} {F : List (Option Fd)} {o : Option Nat} {s : ByteArray} (h : Ts V W p b2 b6 b5 fm vr N K recs S F o) (hi : ixOf (N ++ K) s = Option.none)
    (hg : W.grownBy W1 (some fm)) (hf : Fm W1 (K.length + 1) fm (freshF N (K ++ [s]))) (h12 : Below W1.heap.size W1 W2) (h23 : (W2.alloc (.cells #[u] 32)).grownBy W3 vr.ownBlock) (hr : Rows V.heap.size o W3 vr' (recs ++ [recN s]))
    {a : Option Addr} {n c : Nat} (hown : W5.ownsRow (W3.setCell ⟨b5, 0, Option.none⟩ vr').heap.size 5 1 (.slice a n c) n (Pk.bytesV ([] ++ Pk.le (N.length + K.length) 4))) (h45 : Below (W3.setCell ⟨b5, 0, Option.none⟩ vr').heap.size (W3.setCell ⟨b5, 0, Option.none⟩ vr') W5) :
    NuQ V W p b2 b6 b5 fm vr N K recs S F o s (.returned (.slice a n c)) W5 := by
  obtain ⟨kc, hr1, hb1⟩ := nu_put h hg
  obtain ⟨es, cm, hm⟩ := h.fresh.mi.map
  obtain ⟨es1, cm1, hm1⟩ := hf.mi.map
  obtain ⟨W4, hW4⟩ : ∃ W4, W3.setCell ⟨b5, 0, Option.none⟩ vr' = W4 := ⟨_, rfl⟩
  rw [hW4] at hown h45
  have z2 : (W2.alloc (.cells #[u] 32)).heap.size = W2.heap.size + 1 := Array.size_push _
  have s1 := hg.size
  have s2 := h12.size
  have s3 := h23.size
  have s4 : W4.heap.size = W3.heap.size := by rw [← hW4]; simp [World.setCell]
  have s5 := h45.size
  -- a block that is there at W1, and is neither the box nor the rows' own
  have k13 : ∀ k, k < W1.heap.size → vr.ownBlock ≠ some k → W3.heap[k]? = W1.heap[k]? := fun k hk hv => (h23.block k (by omega) (fun e => hv e.symm)).trans ((Below.heap_alloc _ _ _ (by omega)).trans (h12.block k hk))
  have k15 : ∀ k, k < W1.heap.size → k ≠ b5 → vr.ownBlock ≠ some k → W5.heap[k]? = W1.heap[k]? := fun k hk h5 hv => (h45.block k (by omega)).trans ((by rw [← hW4]; exact Below.heap_setCell _ _ _ _ (fun e => h5 e)) : W4.heap[k]? = W3.heap[k]?) |>.trans (k13 k hk hv)
  have nv : ∀ (k : Nat) (C : Array Value) (t : TypeId), W.heap[k]? = some (.cells C t (0, 0)) → t ≠ 32 → vr.ownBlock ≠ some k := fun k C t hc ht e => by
    obtain ⟨_, cur, hc2⟩ := h.rows.blk e
    exact ne_type hc hc2 ht rfl
  have n25 : b2 ≠ b5 := fun e => ne_type h.h2 h.h5 (by decide) e
  have n65 : b6 ≠ b5 := fun e => ne_type h.h6 h.h5 (by decide) e
  have nf5 : fm ≠ b5 := fun e => map_ne h.h5 hm e.symm
  have nfv : vr.ownBlock ≠ some fm := fun e => by
    obtain ⟨_, cur, hc2⟩ := h.rows.blk e
    exact map_ne hc2 hm rfl
  have l2 := lt_some h.h2
  have l6 := lt_some h.h6
  have l5 := lt_some h.h5
  have lf := lt_some hm
  have b5W3 : W3.heap[b5]? = some (.cells #[vr] 22 (0, 0)) := (k13 b5 (by omega) (nv _ _ _ h.h5 (by decide))).trans ((kc _ _ _ h.h5).trans h.h5)
  have rows4 : Rows V.heap.size o W4 vr' (recs ++ [recN s]) := hr.keptT fun k C t hc ht => by
    rw [← hW4]
    refine Below.heap_setCell _ _ _ _ (fun e => ?_)
    have e : k = b5 := e
    subst e
    rcases ht with rfl | rfl
    · exact ne_type hc b5W3 (by decide) rfl
    · exact ne_type hc b5W3 (by decide) rfl
  have hmod : Mod (fun k => k = fm ∨ k = b5 ∨ vr.ownBlock = some k) W W5 := by
    refine ⟨?_, ?_, ?_, by omega, fun k hk hn => (k15 k (by omega) (fun e => hn (.inr (.inl e))) (fun e => hn (.inr (.inr e)))).trans (hg.block k hk (fun e => hn (.inl (Option.some.inj e))))⟩
    · rw [h45.os, ← hW4]; exact h23.os.trans (h12.os.trans hg.os)
    · rw [h45.tape, ← hW4]; exact h23.tape.trans (h12.tape.trans hg.tape)
    · rw [h45.output, ← hW4]; exact h23.output.trans (h12.output.trans hg.output)
  refine ⟨a, n, c, vr', K ++ [s], recs ++ [recN s], rfl, ?_, ⟨?_, ?_, ?_, rows4.below h45, fun k hk => by have := h.oW k hk; omega, ?_, h.low, h.book, h.inS, ?_⟩, hmod, ?_, ?_⟩
  · unfold numOf
    rw [hi]
    have := owns_base hown (show W.heap.size ≤ W4.heap.size by omega)
    simpa using this
  · exact (k15 b2 (by omega) n25 (nv _ _ _ h.h2 (by decide))).trans ((kc _ _ _ h.h2).trans h.h2)
  · exact (k15 b6 (by omega) n65 (nv _ _ _ h.h6 (by decide))).trans ((kc _ _ _ h.h6).trans h.h6)
  · refine (h45.block b5 (by omega)).trans ?_
    rw [← hW4, box_set b5W3]
    rfl
  · rw [List.length_append]
    exact hf.kept (k15 fm (by omega) nf5 nfv)
  · exact h.bel.trans (hmod.below (fun k hk => by
      rcases hk with rfl | rfl | hk
      · exact h.low.2.2.2
      · exact h.low.2.2.1
      · exact (h.rows.blk hk).1) h.bel.size)
  · unfold Tl.tell
    rw [hi]
    simp
  · unfold Tl.tell
    rw [hi]

set_option maxRecDepth 100000 in
set_option maxHeartbeats 8000000 in
theorem number_c {V W : World} {p b2 b6 b5 fm : Nat} {vr : Value} {N K : List ByteArray} {recs : List (List Nat)} {S : Nat → Prop} {F : List (Option Fd)} {o : Option Nat} {s : ByteArray} (h : Ts V W p b2 b6 b5 fm vr N K recs S F o) (hs : s.size ≤ 65535) (hN : N.length + K.length < 100000) (hR : recs.length ≤ 1000000) :
    Calls Try.prog 57 #[.string s, .pointer (some ⟨b2, 0, Option.none⟩), .pointer (some ⟨b6, 0, Option.none⟩), .pointer (some ⟨b5, 0, Option.none⟩)] W (NuQ V W p b2 b6 b5 fm vr N K recs S F o s) := by
  obtain ⟨v1, v2, v3, Q, hbk0⟩ := h.book
  have hbk := hbk0.below h.bel
  obtain ⟨a1, c1, rfl⟩ := own_slice hbk.names
  obtain ⟨d0, d1, -, -, -, -⟩ := hbk.cells
  obtain ⟨c2, -⟩ := one_cell h.h2
  obtain ⟨c6, -⟩ := one_cell h.h6
  have hlook := hbk.map.look (s := s) (by unfold maxLen; omega)
  rw [ofN_at] at hlook
  have hlook2 := h.fresh.mi.look (s := s) (by unfold maxLen; omega)
  rw [freshF_at] at hlook2
  have H := Lib.hid h
  have HBK := Lib.hid hbk
  clear h hbk hbk0
  cases hx : ixOf N s with
  | some i =>
    have hia : ixOf (N ++ K) s = some i := by rw [ixOf_app, hx]; rfl
    have hil : i < N.length := ixOf_lt hx
    rw [hx] at hlook
    have hl1 : (Instr.lookup 66 v2 (.string s) true).run Try.prog W = .ok (.tuple #[.int .i64 (i : Int), .bool true]) W := hlook
    have cu := Pk.u32_any Option.none 0 0 [] i W (by omega) (Lib.hid rfl) (.inl rfl) (by omega)
    have HIA := Lib.hid hia
    have hw : IntKind.u32.wrap (i : Int) = (i : Int) := by rw [IntKind.wrap_u32]; omega
    clear hlook hlook2 hx hia
    go_enter Try.func57, Try.ntmps57
    go_wp2_with fail
    refine cu.mono ?_
    rintro e W9 ⟨a, n, c, rfl, hown, hb9⟩
    have FQ := Lib.hid (nu_known H.out HIA.out hown hb9)
    clear cu hown hb9
    go_wp2_with fail
    go_ret
    exact FQ.out
  | none =>
    rw [hx] at hlook
    have hl1 : (Instr.lookup 66 v2 (.string s) true).run Try.prog W = .ok (.tuple #[.int .i64 0, .bool false]) W := hlook
    cases hy : ixOf K s with
    | some j =>
      have hia : ixOf (N ++ K) s = some (j + N.length) := by rw [ixOf_app, hx, hy]; rfl
      have hjl : j < K.length := ixOf_lt hy
      rw [hy] at hlook2
      obtain ⟨i, hi⟩ : ∃ i, j + N.length = i := ⟨_, rfl⟩
      rw [hi] at hia
      have hl2 : (Instr.lookup 66 (.map (some fm)) (.string s) true).run Try.prog W = .ok (.tuple #[.int .i64 (i : Int), .bool true]) W := by rw [← hi]; exact hlook2
      have cu := Pk.u32_any Option.none 0 0 [] i W (by omega) (Lib.hid rfl) (.inl rfl) (by omega)
      have HIA := Lib.hid hia
      have hw : IntKind.u32.wrap (i : Int) = (i : Int) := by rw [IntKind.wrap_u32]; omega
      clear hlook hlook2 hx hy hia hi
      go_enter Try.func57, Try.ntmps57
      go_wp2_with fail
      refine cu.mono ?_
      rintro e W9 ⟨a, n, c, rfl, hown, hb9⟩
      have FQ := Lib.hid (nu_known H.out HIA.out hown hb9)
      clear cu hown hb9
      go_wp2_with fail
      go_ret
      exact FQ.out
    | none =>
      rw [hy] at hlook2
      have hl2 : (Instr.lookup 66 (.map (some fm)) (.string s) true).run Try.prog W = .ok (.tuple #[.int .i64 0, .bool false]) W := hlook2
      have hia : ixOf (N ++ K) s = Option.none := by rw [ixOf_app, hx, hy]; rfl
      obtain ⟨q, hq⟩ : ∃ q, N.length + K.length = q := ⟨_, rfl⟩
      have hqi : (N.length : Int) + (K.length : Int) = (q : Int) := by omega
      have hqb : q < 100000 := by omega
      have hlen : (Builtin.len_ #[66] 3 #[.map (some fm)]).run Try.prog W.drew = .ok (.int .i64 (K.length : Int)) W.drew := (H.out.fresh.kept (w' := W.drew) rfl).len 3
      have c2d : W.drew.cell? ⟨b2, 0, Option.none⟩ = some (.pointer (some ⟨p, 0, Option.none⟩)) := c2
      have c6d : W.drew.cell? ⟨b6, 0, Option.none⟩ = some (.map (some fm)) := c6
      have d0d : W.drew.cell? ⟨p, 0, Option.none⟩ = some (.slice a1 N.length c1) := d0
      obtain ⟨W1, hput, hf1, hg1, hz1⟩ := (H.out.fresh.kept (w' := W.drew) rfl).put (s := s) (by unfold maxLen; omega) (by unfold maxLen; omega) (by rw [freshF_at, hy]; rfl) (N.length + K.length)
      rw [freshF_put hy] at hf1
      rw [hq] at hput
      have hg1' : W.grownBy W1 (some fm) := ⟨hg1.os, hg1.tape, hg1.output, hg1.size, hg1.block⟩
      obtain ⟨kc1, hr1, hbv1⟩ := nu_put H.out hg1'
      have e6 := (kc1 _ _ _ H.out.h6).trans H.out.h6
      have e5 := (kc1 _ _ _ H.out.h5).trans H.out.h5
      have ht := Pk.text_any (some ⟨W1.heap.size, 0, Option.none⟩) 1 1 [1] s (W1.alloc (.cells #[.int .u8 1] 5)) (Lib.hid rfl) (Pk.row_list W1 [1] _ 5 (0, 0) rfl) (by omega) hs
      have cu := fun (W4 : World) => Pk.u32_any Option.none 0 0 [] q W4 (by omega) (Lib.hid rfl) (.inl rfl) (by omega)
      have hw : IntKind.u32.wrap (q : Int) = (q : Int) := by rw [IntKind.wrap_u32]; omega
      have CU := Lib.hid cu
      have HIA := Lib.hid hia
      have HQ := Lib.hid hq
      have G1 := Lib.hid hg1'
      have F1 := Lib.hid hf1
      have R1 := Lib.hid hr1
      have BV1 := Lib.hid hbv1
      have E5 := Lib.hid e5
      clear hlook hlook2 hx hy hia hq hf1 hg1 hg1' hz1 kc1 hr1 hbv1 e6 e5 cu
      go_enter Try.func57, Try.ntmps57
      go_upto_region 5 with fail
      go_region_held3 (fun w' => w'.cell? ⟨b2, 0, Option.none⟩ = some (.pointer (some ⟨p, 0, Option.none⟩)) ∧ w'.cell? ⟨b6, 0, Option.none⟩ = some (.map (some fm)) ∧ w'.cell? ⟨p, 0, Option.none⟩ = some (.slice a1 N.length c1) ∧ (Builtin.len_ #[66] 3 #[.map (some fm)]).run Try.prog w' = .ok (.int .i64 (K.length : Int)) w') (first | exact ⟨c2d, c6d, d0d, hlen⟩ | fail) (first | fail)
      clear hlen c2 c6 d0 c2d d0d hl1 hl2
      go_wp2_with fail
      refine ht.mono ?_
      rintro e W2 ⟨ta, tn, tc, rfl, hown2, hb2⟩
      have hb12 : Below W1.heap.size W1 W2 := (Pk.below_alloc W1 _).trans (hb2.mono (by rw [World.size_alloc]; exact Nat.le_succ _))
      have R2 := R1.out.below hb12
      obtain ⟨ra, rc, rfl⟩ := R2.val
      have hn2 : tn = (recN s).length := by
        have := hown2.1
        rw [Pk.bytesV_length] at this
        simp [recN] at this ⊢
        omega
      subst hn2
      obtain ⟨xa, xc, W3, hrun, hrows, hgrow⟩ := rows_app R2 (base' := (W1.alloc (.cells #[.int .u8 1] 5)).heap.size) hown2 (by have := BV1.out.size; rw [World.size_alloc]; omega) (by have := BV1.out.size; have := hb12.size; omega) hR (fun k hk e => by have h1 := (hown2.lt k hk).1; have h2 := H.out.oW k e; have h3 := G1.out.size; rw [World.size_alloc] at h1; omega)
      have z2 : (W2.alloc (.cells #[.slice ta (recN s).length tc] 32)).heap.size = W2.heap.size + 1 := Array.size_push _
      have l5 := lt_some E5.out
      have b5W2 : (W2.alloc (.cells #[.slice ta (recN s).length tc] 32)).heap[b5]? = some (.cells #[.slice ra recs.length rc] 22 (0, 0)) := (Below.heap_alloc _ _ _ (by have := hb12.size; omega)).trans ((hb12.block b5 l5).trans E5.out)
      have b5W3 : W3.heap[b5]? = some (.cells #[.slice ra recs.length rc] 22 (0, 0)) := (hgrow.block b5 (lt_some b5W2) (fun e => by
        obtain ⟨_, cur, hc⟩ := R2.blk e.symm
        exact ne_type ((hb12.block b5 l5).trans E5.out) hc (by decide) rfl)).trans b5W2
      obtain ⟨g2, -⟩ := one_cell ((hb12.block b5 l5).trans E5.out)
      obtain ⟨g3, h3⟩ := one_cell b5W3
      have FIN := Lib.hid (fun (W5 : World) (a : Option Addr) (n c : Nat) (ho : W5.ownsRow (W3.setCell ⟨b5, 0, Option.none⟩ (.slice xa (recs.length + 1) xc)).heap.size 5 1 (.slice a n c) n (Pk.bytesV ([] ++ Pk.le q 4))) (hb : Below (W3.setCell ⟨b5, 0, Option.none⟩ (.slice xa (recs.length + 1) xc)).heap.size (W3.setCell ⟨b5, 0, Option.none⟩ (.slice xa (recs.length + 1) xc)) W5) => nu_new H.out HIA.out G1.out F1.out hb12 hgrow hrows (by rw [HQ.out]; exact ho) hb)
      have cu := CU.out (W3.setCell ⟨b5, 0, Option.none⟩ (.slice xa (recs.length + 1) xc))
      clear ht hown2 hb2 hb12 hrows hgrow z2 b5W2 b5W3 R2
      go_wp2_with (at_builtin; refine wpList_append_rows rfl (.tmp 46) (.tmp 48) rfl rfl _ _ _ rfl rfl hrun ?_)
      refine cu.mono ?_
      rintro e W9 ⟨a, n, c, rfl, hown, hb9⟩
      have FQ := Lib.hid (FIN.out W9 a n c hown hb9)
      clear cu hown hb9
      go_wp2_with fail
      go_ret
      exact FQ.out
end Go.Proofs.Ytofdnbddpageoaa.Nm
