/-
  Records, WALKED.
-/
import Derived.Test.YtmppjlgmopfaeaaNmRec
namespace Go.Proofs.Ytmppjlgmopfaeaa.Nm
open Go.RowKit Go.Maps

/-- a book at q, rows of records beside it; the book touches nothing of X -/
structure RcS (w : World) (X : Nat → Prop) (W : World) (q : Nat) (B : Bo) (v : Value) (rs : List (List Nat)) : Prop where
  ex : ∃ S v1 v2 v3 Q, Bk S W q B v1 v2 v3 Q ∧ (∀ k, S k → w.heap.size ≤ k ∧ k < W.heap.size ∧ ¬ X k) ∧ RowsAt w.heap.size (fun k => ¬ S k) W v rs
  bel : Below w.heap.size w W
  vx : ∀ k, v.ownBlock = some k → ¬ X k ∧ k < W.heap.size

theorem Rows.ato {w : World} {base : Nat} {o : Option Nat} {a : Option Addr} {n c : Nat} {rs : List (List Nat)} (h : Rows base o w (.slice a n c) rs) {j : Nat} {r : List Nat} (hj : rs[j]? = some r) :
    ∃ g ua k, a = some ⟨g, 0, Option.none⟩ ∧ n = rs.length ∧ n ≤ c ∧ base ≤ g ∧ g < w.heap.size ∧ w.cell? ⟨g, j, Option.none⟩ = some (.slice ua r.length k) ∧ w.ownsRow base 5 1 (.slice ua r.length k) r.length (Pk.bytesV r) := by
  obtain ⟨vs, h1, h2⟩ := h
  have hjl := (List.getElem?_eq_some_iff.1 hj).1
  obtain ⟨u, h3, h4, _⟩ := h2 j r hj
  rcases own_at h1 with ⟨e, h0⟩ | ⟨g, c', e, hb, hg, hle, hc⟩
  · omega
  · obtain ⟨e1, e2, e3⟩ := Value.slice.inj e
    subst e3 e2
    obtain ⟨ua, k, rfl⟩ := own_slice h4
    exact ⟨g, ua, k, e1, rfl, hle, hb, hg, hc j _ h3, h4⟩

section
variable {w W W1 : World} {X X' : Nat → Prop} {q : Nat} {B : Bo} {v : Value} {rs : List (List Nat)}
theorem RcS.below (h : RcS w X W q B v rs) (hb : Below W.heap.size W W1) : RcS w X W1 q B v rs := by
  obtain ⟨S, v1, v2, v3, Q, h1, h2, h3⟩ := h.ex
  refine ⟨⟨S, v1, v2, v3, Q, h1.below hb, fun k hk => ⟨(h2 k hk).1, Nat.lt_of_lt_of_le (h2 k hk).2.1 hb.size, (h2 k hk).2.2⟩, h3.keep fun k _ _ hk => hb.block k hk⟩, h.bel.trans (hb.mono h.bel.size), fun k hk => ⟨(h.vx k hk).1, Nat.lt_of_lt_of_le (h.vx k hk).2 hb.size⟩⟩
theorem RcS.more (h : RcS w X W q B v rs) (hx : ∀ k, X' k → X k ∨ W.heap.size ≤ k) : RcS w X' W q B v rs := by
  obtain ⟨S, v1, v2, v3, Q, h1, h2, h3⟩ := h.ex
  exact ⟨⟨S, v1, v2, v3, Q, h1, fun k hk => ⟨(h2 k hk).1, (h2 k hk).2.1, fun hk' => by rcases hx k hk' with h4 | h4; exact (h2 k hk).2.2 h4; have := (h2 k hk).2.1; omega⟩, h3⟩, h.bel, fun k hk => ⟨fun hk' => by rcases hx k hk' with h4 | h4; exact (h.vx k hk).1 h4; have := (h.vx k hk).2; omega, (h.vx k hk).2⟩⟩
theorem RcS.val (h : RcS w X W q B v rs) : ∃ a c, v = .slice a rs.length c := by
  obtain ⟨S, v1, v2, v3, Q, h1, h2, h3⟩ := h.ex
  exact h3.val
theorem RcS.read (h : RcS w X W q B v rs) : RecRow W v rs := by
  obtain ⟨S, v1, v2, v3, Q, h1, h2, h3⟩ := h.ex
  exact h3.read

theorem take_rc (h : RcS w X W q B v rs) (hX : ∀ k, X k → k < W.heap.size) {a : Option Addr} {n c : Nat} {l : List Nat} (hrow : Pk.Row W a l) (hn : Hid (n = l.length)) (hc : n ≤ c) (hl : l.length ≤ 1000000) (hx : ∀ x ∈ l, x < 256) (hN : B.N.length < 1000000) :
    Calls Try.prog 12 #[.pointer (some ⟨q, 0, Option.none⟩), .slice a n c] W fun e W' => (∃ z : Int, e = .returned (.int .i64 z)) ∧ RcS w X W' q ((takeB B l).getD B) v rs ∧ (∀ k, X k → W'.heap[k]? = W.heap[k]?) ∧ W.heap.size ≤ W'.heap.size := by
  obtain ⟨S, v1, v2, v3, Q, h1, h2, h3⟩ := h.ex
  refine (take_c h1 hrow hn hc hl hx hN fun k hk => (h2 k hk).2.1).mono ?_
  rintro e W' ⟨rfl, ⟨u1, u2, u3, Q', hk⟩, hm⟩
  refine ⟨⟨_, rfl⟩, ⟨⟨_, u1, u2, u3, Q', hk, fun k hk => ?_, ((h3.wide (P' := fun k => ¬ S k ∧ k < W.heap.size) fun k hp _ hlt => ⟨hp, hlt⟩).keep fun k hp _ hlt => hm.block k hlt hp.1).wide fun k hp _ _ hs => ?_⟩, h.bel.trans (hm.below (fun k hk => (h2 k hk).1) h.bel.size), fun k hk => ⟨(h.vx k hk).1, Nat.lt_of_lt_of_le (h.vx k hk).2 hm.size⟩⟩, fun k hk => hm.block k (hX k hk) fun hs => (h2 k hs).2.2 hk, hm.size⟩
  · rcases hk with hk | hk
    · exact ⟨(h2 k hk).1, Nat.lt_of_lt_of_le (h2 k hk).2.1 hm.size, (h2 k hk).2.2⟩
    · exact ⟨by have := h.bel.size; omega, hk.2, fun hx => by have := hX k hx; omega⟩
  · rcases hs with hs | hs
    · exact hp.1 hs
    · have := hp.2
      omega

theorem telling_rc (h : RcS w X W q B v rs) {d : Dp} {dv : Value} (hd : StrRow W dv d.deps) (hE : dpE d = 0) (hN : B.N.length < 40000) :
    Calls Try.prog 40 #[.pointer (some ⟨q, 0, Option.none⟩), .agg #[.string d.out, .int .i64 d.time, dv]] W fun e W' => ∃ vr, e = .returned vr ∧ Rows W.heap.size Option.none W' vr (planD B.N d) ∧ Below W.heap.size W W' := by
  obtain ⟨S, v1, v2, v3, Q, h1, h2, h3⟩ := h.ex
  obtain ⟨t0, t1, t2, t3⟩ := planE_zero hE
  have := telling_c (time := d.time.toNat) h1 (fun k hk => (h2 k hk).2.1) hd (fun s hs => by have := t3 s hs; omega) (by omega) (by omega)
  rw [Int.toNat_of_nonneg t0] at this
  exact this

/-- a record of a telling is put behind the others -/
theorem RcS.app {a : Option Addr} {c : Nat} (h : RcS w X W q B (.slice a rs.length c) rs) (hX : ∀ k, X k → k < W.heap.size) {u : Value} {r : List Nat} (hu : W.ownsRow w.heap.size 5 1 u r.length (Pk.bytesV r)) (huX : ∀ k, u.ownBlock = some k → X k) (hn : rs.length ≤ 1000000) (ty : TypeId) :
    ∃ a' c' W', (Builtin.append_ #[22, 22] ty #[.slice a rs.length c, .slice (some ⟨W.heap.size, 0, Option.none⟩) 1 1]).run Try.prog (W.alloc (.cells #[u] 32)) = .ok (.slice a' (rs.length + 1) c') W' ∧ RcS w X W' q B (.slice a' (rs ++ [r]).length c') (rs ++ [r]) ∧
      (∀ k, X k → W'.heap[k]? = W.heap[k]?) ∧ W.heap.size ≤ W'.heap.size := by
  obtain ⟨S, v1, v2, v3, Q, h1, h2, h3⟩ := h.ex
  have hvS : ∀ k, (Value.slice a rs.length c).ownBlock = some k → ¬ S k := by
    obtain ⟨vs, o1, o2, o3⟩ := h3
    exact o2
  have hlow : ∀ k, (Value.slice a rs.length c).ownBlock = some k → w.heap.size ≤ k := by
    obtain ⟨vs, o1, o2, o3⟩ := h3
    exact fun k hk => (o1.lt k hk).1
  obtain ⟨a', c', W', hr, hR, hm, hwh⟩ := h3.app hu (fun k hk hs => (h2 k hs).2.2 (huX k hk)) h.bel.size hn (fun k hk hs => by have := (h2 k hs).2.1; omega) ty
  refine ⟨a', c', W', hr, ⟨⟨S, v1, v2, v3, Q, h1.keep fun k hk hlt => hm.block k hlt fun e => hvS k e hk, fun k hk => ⟨(h2 k hk).1, Nat.lt_of_lt_of_le (h2 k hk).2.1 hm.size, (h2 k hk).2.2⟩, hR⟩, h.bel.trans (hm.below hlow h.bel.size), fun k hk => ?_⟩, fun k hk => hm.block k (hX k hk) fun e => (h.vx k e).1 hk, hm.size⟩
  obtain ⟨vs, o1, -, -⟩ := hR
  refine ⟨fun hx => ?_, (o1.lt k hk).2⟩
  rcases hwh with e | e
  · exact (h.vx k (e.symm.trans hk)).1 hx
  · rw [e] at hk
    cases hk
    have := hX _ hx
    omega

/-- the beginning -/
theorem rcs_new {b lo hi : Nat} (h : Own b lo hi W q B) (hb : w.heap.size ≤ b) (hw : Below w.heap.size w W) (hX : ∀ k, X k → k < b ∨ W.heap.size ≤ k) : RcS w X W q B (.slice Option.none 0 0) [] := by
  obtain ⟨S, v1, v2, v3, Q, h1, h2⟩ := h
  exact ⟨⟨S, v1, v2, v3, Q, h1, fun k hk => ⟨Nat.le_trans hb (h2 k hk).1, (h2 k hk).2.1, fun hx => by rcases hX k hx with h3 | h3; have := (h2 k hk).1; omega; have := (h2 k hk).2.1; omega⟩, rowsAt_nil _ _ _⟩, hw, fun k hk => by cases hk⟩
end
end Go.Proofs.Ytmppjlgmopfaeaa.Nm
