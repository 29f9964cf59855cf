/-
  ROWS OF EDGES THAT THE CALL OWNS.
-/
import Derived.Test.YtbflodefmookiaaGrEds
import Derived.Test.YtbflodefmookiaaRgPar
import Derived.Laws.AppendOwnNone
import Derived.Maps.AppendAt
namespace Go.Proofs.Ytbflodefmookiaa.Pr
open Go.RowKit Go.Proofs.Ytbflodefmookiaa Go.Proofs.Ytbflodefmookiaa.Df

/-- names, in a block of strings -/
def StrsT (w : World) (v : Value) (K : List Bs) : Prop := Strs w v K ∧ (K = [] ∨ ∃ g off c C fr, v = .slice (some ⟨g, off, none⟩) K.length c ∧ w.heap[g]? = some (.cells C 9 fr))
section
variable {w w' : World} {v : Value} {K : List Bs}
/-- what keeps the blocks of strings keeps names -/
theorem StrsT.keepT (h : StrsT w v K) (hk : ∀ (g : Nat) C fr, w.heap[g]? = some (.cells C 9 fr) → w'.heap[g]? = w.heap[g]?) : StrsT w' v K := by
  obtain ⟨⟨a, c, e, hc, hs⟩, ht⟩ := h
  rcases hs with rfl | ⟨g, off, rfl, hg, hcell⟩
  · exact ⟨⟨a, c, e, hc, .inl rfl⟩, .inl rfl⟩
  · rcases ht with rfl | ⟨g', off', c', C, fr, e', hb⟩
    · exact ⟨⟨_, c, e, hc, .inl rfl⟩, .inl rfl⟩
    · rw [e] at e'
      cases e'
      have hB := hk _ _ _ hb
      refine ⟨⟨_, c, e, hc, .inr ⟨g, off, rfl, ?_, fun j p hp => (cell_of_block hB).trans (hcell j p hp)⟩⟩, .inr ⟨g, off, c, C, fr, e, hB.trans hb⟩⟩
      exact lt_some (hB.trans hb)
theorem StrsT.below (h : StrsT w v K) (hb : Below w.heap.size w w') : StrsT w' v K := h.keepT fun g C fr hg => hb.block g (lt_some hg)
end

/-- the four rows of an edge, in blocks of strings -/
structure EdT (w : World) (e : Ed) (v0 v1 v2 v3 : Value) : Prop where
  o : StrsT w v0 e.outs
  i : StrsT w v1 e.ins
  m : StrsT w v2 e.imp
  r : StrsT w v3 e.ord
theorem EdT.keepT {w w' : World} {e : Ed} {v0 v1 v2 v3 : Value} (h : EdT w e v0 v1 v2 v3) (hk : ∀ (g : Nat) C fr, w.heap[g]? = some (.cells C 9 fr) → w'.heap[g]? = w.heap[g]?) : EdT w' e v0 v1 v2 v3 := ⟨h.o.keepT hk, h.i.keepT hk, h.m.keepT hk, h.r.keepT hk⟩
theorem EdT.edv {w : World} {e : Ed} {v0 v1 v2 v3 : Value} (h : EdT w e v0 v1 v2 v3) : EdV w e v0 v1 v2 v3 := ⟨h.o.1, h.i.1, h.m.1, h.r.1⟩

structure E5 where
  e : Ed
  v0 : Value
  v1 : Value
  v2 : Value
  v3 : Value
def cells5 (p : E5) : List Value := [p.v0, p.v1, p.v2, p.v3, .string (mk p.e.cmd), .string (mk p.e.dep)]
def ecells (L : List E5) : List Value := L.flatMap cells5
theorem ecells_snoc (L : List E5) (p : E5) : ecells (L ++ [p]) = ecells L ++ cells5 p := by simp [ecells]
theorem ecells_at : ∀ (L : List E5) (k : Nat) (p : E5), L[k]? = some p → (ecells L)[k * 6]? = some p.v0 ∧ (ecells L)[k * 6 + 1]? = some p.v1 ∧ (ecells L)[k * 6 + 2]? = some p.v2 ∧ (ecells L)[k * 6 + 3]? = some p.v3 ∧ (ecells L)[k * 6 + 4]? = some (.string (mk p.e.cmd)) ∧ (ecells L)[k * 6 + 5]? = some (.string (mk p.e.dep))
  | [], k, p, h => by cases h
  | q :: L, 0, p, h => by cases h; exact ⟨rfl, rfl, rfl, rfl, rfl, rfl⟩
  | q :: L, k + 1, p, h => by
    have := ecells_at L k p h
    have e1 : (k + 1) * 6 = k * 6 + 1 + 1 + 1 + 1 + 1 + 1 := by omega
    rw [e1]
    exact this

/-- edges of the call's own -/
def OwnE (w : World) (base : Nat) (v : Value) (L : List Ed) : Prop :=
  ∃ LL : List E5, LL.map E5.e = L ∧ (∃ a c, v = .slice a L.length c) ∧ w.ownsRow base 52 6 v L.length (ecells LL) ∧ ∀ p ∈ LL, EdT w p.e p.v0 p.v1 p.v2 p.v3
section
variable {w w' : World} {base : Nat} {v : Value} {L : List Ed}
theorem OwnE.keepT (h : OwnE w base v L) (hk : ∀ (g : Nat) C fr, w.heap[g]? = some (.cells C 9 fr) → w'.heap[g]? = w.heap[g]?) (he : ∀ (g : Nat) C fr, w.heap[g]? = some (.cells C 52 fr) → w'.heap[g]? = w.heap[g]?) : OwnE w' base v L := by
  obtain ⟨LL, h1, h2, h3, h4⟩ := h
  refine ⟨LL, h1, h2, owns_kept h3 fun g hg => ?_, fun p hp => (h4 p hp).keepT hk⟩
  obtain ⟨_, cur, hc⟩ := owns_block h3 hg
  exact he g _ _ hc
theorem OwnE.below (h : OwnE w base v L) (hb : Below w.heap.size w w') : OwnE w' base v L := h.keepT (fun g C fr hg => hb.block g (lt_some hg)) (fun g C fr hg => hb.block g (lt_some hg))
theorem OwnE.nil (w : World) (base : Nat) : OwnE w base (.slice none 0 0) [] := ⟨[], rfl, ⟨none, 0, rfl⟩, World.ownsRow_nil _ _ _ _, fun p hp => by cases hp⟩
theorem OwnE.eds (h : OwnE w base v L) : Eds w v L := by
  obtain ⟨LL, rfl, ⟨a, c, rfl⟩, h3, h4⟩ := h
  have hat : ∀ (j : Nat) e, (LL.map E5.e)[j]? = some e → ∃ p, LL[j]? = some p ∧ p.e = e := fun j e he => by
    rw [List.getElem?_map] at he
    obtain ⟨p, hp, rfl⟩ := Option.map_eq_some_iff.1 he
    exact ⟨p, hp, rfl⟩
  refine ⟨a, c, rfl, ?_, ?_⟩
  · rcases h3.2 with ⟨e, h0⟩ | ⟨g, cap, cur, e, hb, hc, hle, _⟩
    · injection e with _ e2 _; omega
    · cases e; exact hle
  · rcases h3.2 with ⟨e, h0⟩ | ⟨g, cap, cur, e, hb, hc, hle, _⟩
    · exact .inl (List.eq_nil_of_length_eq_zero h0)
    · cases e
      refine .inr ⟨g, 0, rfl, lt_some hc, fun j e he => ?_⟩
      obtain ⟨p, hp, rfl⟩ := hat j e he
      obtain ⟨f0, f1, f2, f3, f4, f5⟩ := ecells_at LL j p hp
      have g0 := h3.cells (g := g) rfl _ _ f0
      have g1 := h3.cells (g := g) rfl _ _ f1
      have g2 := h3.cells (g := g) rfl _ _ f2
      have g3 := h3.cells (g := g) rfl _ _ f3
      have g4 := h3.cells (g := g) rfl _ _ f4
      have g5 := h3.cells (g := g) rfl _ _ f5
      rw [Go.WideShapes.add_plain] at g0 g1 g2 g3 g4 g5
      exact ⟨p.v0, p.v1, p.v2, p.v3, (h4 p (List.mem_of_getElem? hp)).edv, g0, g1, g2, g3, g4, g5⟩
end

theorem run_append_none_any {w : World} {base : Nat} {k n : Nat} {i : TypeInfo} {v : Value} {xs : List Value} (hi : Try.prog.info? 9 = some i) (hown : w.ownsRow base 9 1 v n xs) : (Builtin.append_ #[23, 23] 23 #[v, .slice none 0 k]).run Try.prog w = .ok v w := by
  have ht : Try.prog.underlying 23 = some (.slice 9) := Try.underlying23
  rcases hown.2 with ⟨rfl, rfl⟩ | ⟨g, cap, cur, rfl, _, _, hnc, _⟩
  · simp [Builtin.append_, run_underlying ht, sizeOf, typeInfo, hi, Builtin.lenOf, Builtin.firstCells]
  · simp [Builtin.append_, run_underlying ht, sizeOf, typeInfo, hi, Builtin.lenOf, Builtin.firstCells, hnc, storeCells]

/-- names copied behind an empty row: nothing that was there is touched -/
theorem run_copyK {W : World} {x : Nat} {u : Option Addr} {k : Nat} {M : List Bs} (hx : W.heap[x]? = some (.cells #[] 9 (0, 0))) (hm : Strs W (.slice u M.length k) M) (hl : M.length ≤ 1000000) :
    ∃ a' c' W', (Builtin.append_ #[23, 23] 23 #[.slice (some ⟨x, 0, none⟩) 0 0, .slice u M.length k]).run Try.prog W = .ok (.slice a' M.length c') W' ∧ StrsT W' (.slice a' M.length c') M ∧ Below W.heap.size W W' := by
  obtain ⟨i0, hi, hz0, hz1, hz2⟩ := info_parts info9
  have hox : W.ownsRow 0 9 1 (.slice (some ⟨x, 0, none⟩) 0 0) 0 [] := ⟨rfl, .inr ⟨x, 0, #[], rfl, Nat.zero_le _, hx, Nat.le_refl _, by unfold maxLen; omega, rfl, rfl⟩⟩
  obtain ⟨u', k', e, hk, hrow⟩ := hm
  injection e with e1 _ e3
  subst e1
  subst e3
  by_cases h0 : M = []
  · subst h0
    cases u with
    | none => exact ⟨_, _, W, run_append_none_any hi hox, ⟨⟨_, _, rfl, Nat.le_refl _, .inl rfl⟩, .inl rfl⟩, Below.refl _ _⟩
    | some ad =>
      have hr := run_append_room (P := Try.prog) W 23 23 9 i0 Try.underlying23 hi x 0 0 #[] hx ad 0 k [] (by simp) (fun j u hj => by cases hj) (fun u hu => by cases hu) (Nat.le_refl _) (by simp)
      refine ⟨_, _, _, hr, ⟨⟨_, _, rfl, Nat.le_refl _, .inl rfl⟩, .inl rfl⟩, ?_⟩
      have : W.setRow x (List.take (0 * i0.size) (#[] : Array Value).toList ++ [] ++ List.drop (0 * i0.size + ([] : List Value).length) (#[] : Array Value).toList).toArray = W := by
        simp only [List.take_nil, List.drop_nil, List.append_nil]
        exact setRow_self W x #[] _ _ hx
      rw [this]
      exact Below.refl _ _
  · cases u with
    | none =>
      rcases hrow with h | ⟨g, off, e, _⟩
      · exact absurd h h0
      · cases e
    | some ad =>
      have hcells : ∀ j x, (strV M)[j]? = some x → W.cell? (ad.add j) = some x := fun j x hj => by
        rcases hrow with h | ⟨g, off, e, hb, hc⟩
        · exact absurd h h0
        · cases e
          rw [Go.WideShapes.add_plain]
          have hj2 : M[j]?.map (fun x => Value.string (mk x)) = some x := by rw [← hj]; simp [strV]
          obtain ⟨p, hp, rfl⟩ := Option.map_eq_some_iff.1 hj2
          exact hc j p hp
      have hlen : (strV M).length = M.length := by simp [strV]
      have hpos : 0 < M.length := List.length_pos_iff.2 h0
      have hr := run_append_grow (P := Try.prog) W 23 23 9 i0 (.string ⟨#[]⟩) Try.underlying23 hi hz0 ⟨x, 0, none⟩ 0 0 [] (by simp) (fun j v hj => by cases hj) ad M.length k (strV M) (by rw [hlen, hz1]; omega) hcells (by omega) (by omega) (growslice_fits (by omega) (by rw [hz2]; omega))
      simp only [Nat.zero_add] at hr
      have hnew := heap_alloc_new W.drew (.cells ((([] : List Value).toArray ++ (strV M).toArray) ++ Builtin.zeroCells (Value.string ⟨#[]⟩).cells (grownCap W M.length 0 9 - M.length)) 9)
      refine ⟨_, _, _, hr, ⟨⟨_, _, rfl, grownCap_ge W M.length 0 9, .inr ⟨W.heap.size, 0, rfl, lt_some hnew, fun j p hp => ?_⟩⟩, .inr ⟨_, _, _, _, _, rfl, hnew⟩⟩, ?_⟩
      · have hj : (strV M)[j]? = some (.string (mk p)) := by simp [strV, hp]
        show World.cell? _ ⟨W.drew.heap.size, 0 + j, none⟩ = _
        rw [Lib.cell_of_heap hnew]
        have hjl : j < (strV M).length := (List.getElem?_eq_some_iff.1 hj).1
        simp only [Nat.zero_add]
        rw [Array.getElem?_append_left (by simpa using hjl)]
        simpa using hj
      · exact (Below.drew (Below.refl _ W)).alloc (Nat.le_refl _) _

def zEdge : Value := .agg #[.slice none 0 0, .slice none 0 0, .slice none 0 0, .slice none 0 0, .string ⟨#[]⟩, .string ⟨#[]⟩]
theorem infoEdge : (Try.prog.info? 52).map (fun i => (i.zero, i.size, i.bytes)) = some (some zEdge, 6, 128) := by kernel_rfl

/-- an edge laid behind edges of the call's own -/
theorem push_e {W : World} {base : Nat} {v : Value} {L : List Ed} {e : Ed} {v0 v1 v2 v3 : Value} {q : Nat} (h : OwnE W base v L) (hbw : base ≤ W.heap.size) (hL : L.length ≤ 1000000) (hE : EdT W e v0 v1 v2 v3) (s0 : v0.oneCell' = true) (s1 : v1.oneCell' = true) (s2 : v2.oneCell' = true) (s3 : v3.oneCell' = true)
    (hq : W.heap[q]? = some (.cells #[v0, v1, v2, v3, .string (mk e.cmd), .string (mk e.dep)] 52 (0, 0))) :
    ∃ a' c' W', (Builtin.append_ #[31, 31] 31 #[v, .slice (some ⟨q, 0, none⟩) 1 1]).run Try.prog W = .ok (.slice a' (L.length + 1) c') W' ∧ OwnE W' base (.slice a' (L.length + 1) c') (L ++ [e]) ∧ Below base W W' ∧
      (∀ (g : Nat) C t fr, t ≠ 52 → W.heap[g]? = some (.cells C t fr) → W'.heap[g]? = some (.cells C t fr)) := by
  obtain ⟨LL, rfl, ⟨a, c, rfl⟩, h3, h4⟩ := h
  obtain ⟨i0, hi, hz0, hz1, hz2⟩ := info_parts infoEdge
  have hlen : (LL.map E5.e).length = LL.length := by simp
  obtain ⟨v', w', hrun, hown, hg, _, ho⟩ := run_append_own_at (P := Try.prog) W base 31 31 52 i0 zEdge 6 128 Try.underlying31 hi hz0 hz1 hz2 rfl (by decide) _ _ (ecells LL) h3 ⟨q, 0, none⟩ 1 1 (cells5 ⟨e, v0, v1, v2, v3⟩) rfl (fun j u hj => by
      rw [Go.WideShapes.add_plain]
      match j, hj with
      | 0, hj => cases hj; exact (Lib.cell_of_heap hq 0).trans rfl
      | 1, hj => cases hj; exact (Lib.cell_of_heap hq 1).trans rfl
      | 2, hj => cases hj; exact (Lib.cell_of_heap hq 2).trans rfl
      | 3, hj => cases hj; exact (Lib.cell_of_heap hq 3).trans rfl
      | 4, hj => cases hj; exact (Lib.cell_of_heap hq 4).trans rfl
      | 5, hj => cases hj; exact (Lib.cell_of_heap hq 5).trans rfl) (fun u hu => by
        simp [cells5] at hu
        rcases hu with rfl | rfl | rfl | rfl | rfl | rfl
        · exact s0
        · exact s1
        · exact s2
        · exact s3
        · rfl
        · rfl) (by unfold maxLen; omega) (by omega) hbw
  have hkind : ∀ g, (Value.slice a (LL.map E5.e).length c).ownBlock = some g → base ≤ g ∧ ∃ C, W.heap[g]? = some (.cells C 52 (0, 0)) := fun g hg => owns_block h3 hg
  have hkeep : ∀ (g : Nat) C t fr, t ≠ 52 → W.heap[g]? = some (.cells C t fr) → w'.heap[g]? = some (.cells C t fr) := fun g C t fr ht hb => by
    rw [hg.block g (lt_some hb) fun e => ?_]
    · exact hb
    · obtain ⟨_, C2, h2⟩ := hkind g e.symm
      rw [hb] at h2
      cases h2
      exact ht rfl
  obtain ⟨a', c', rfl⟩ : ∃ a' c', v' = .slice a' ((LL.map E5.e).length + 1) c' := by
    rcases hown.2 with ⟨e, h0⟩ | ⟨g, cap, cur, e, _⟩
    · omega
    · exact ⟨_, _, e⟩
  refine ⟨a', c', w', hrun, ⟨LL ++ [⟨e, v0, v1, v2, v3⟩], by simp, ⟨a', c', by simp⟩, ?_, fun p hp => ?_⟩, ?_, hkeep⟩
  · have e1 : (LL.map E5.e ++ [e]).length = (LL.map E5.e).length + 1 := by simp
    rw [ecells_snoc, e1]
    exact hown
  · have hk : ∀ (g : Nat) C fr, W.heap[g]? = some (.cells C 9 fr) → w'.heap[g]? = W.heap[g]? := fun g C fr hb => (hkeep g C _ fr (by decide) hb).trans hb.symm
    rcases List.mem_append.1 hp with hp | hp
    · exact (h4 p hp).keepT hk
    · simp at hp
      subst hp
      exact hE.keepT hk
  · exact ⟨hg.os, hg.tape, hg.output, hg.size, fun k hk => hg.block k (by omega) fun e => by
      have := (hkind k e.symm).1
      omega⟩
end Go.Proofs.Ytbflodefmookiaa.Pr
