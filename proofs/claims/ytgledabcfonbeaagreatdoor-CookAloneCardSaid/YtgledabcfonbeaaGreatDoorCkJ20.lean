/-
  Rows that CookAlone appends to: names behind names; files in two rows of the law's own.
-/
import Derived.Test.YtgledabcfonbeaaGreatDoorCkShapeR
import Derived.Maps.AppendAt
import Derived.Laws.AppendOwnNone
import Derived.Test.YtgledabcfonbeaaGreatDoorCkJ15
import Derived.ArgAppend
namespace Go.Proofs.YtgledabcfonbeaaGreatDoor.Df
open Go.RowKit Go.Maps Go.Proofs.YtgledabcfonbeaaGreatDoor

theorem strV_app (K M : List Bs) : strV (K ++ M) = strV K ++ strV M := by simp [strV]
theorem run_append_none_any {w : World} {base : Nat} {k n : Nat} {i : TypeInfo} {v : Value} {xs : List Value} (hi : Tryz.prog.info? 9 = some i) (hown : w.ownsRow base 9 1 v n xs) : (Builtin.append_ #[32, 32] 32 #[v, .slice none 0 k]).run Tryz.prog w = .ok v w := by
  have ht : Tryz.prog.underlying 32 = some (.slice 9) := Tryz.underlying32
  rcases hown.2 with ⟨rfl, rfl⟩ | ⟨g, cap, cur, rfl, _, _, hnc, _⟩
  · simp [Builtin.append_, run_underlying ht, sizeOf, typeInfo, hi, Builtin.lenOf, Builtin.firstCells]
  · simp [Builtin.append_, run_underlying ht, sizeOf, typeInfo, hi, Builtin.lenOf, Builtin.firstCells, hnc, storeCells]
theorem run_appK {W : World} {base : Nat} {a u : Option Addr} {c k : Nat} {K M : List Bs} (h : W.ownsRow base 9 1 (.slice a K.length c) K.length (strV K)) (hbase : base ≤ W.heap.size) (hm : Strs W (.slice u M.length k) M) (hl : K.length + M.length ≤ 1000000) :
    ∃ a' c' W', (Builtin.append_ #[32, 32] 32 #[.slice a K.length c, .slice u M.length k]).run Tryz.prog W = .ok (.slice a' (K ++ M).length c') W' ∧ W'.ownsRow base 9 1 (.slice a' (K ++ M).length c') (K ++ M).length (strV (K ++ M)) ∧ W.grownBy W' (Value.slice a K.length c).ownBlock := by
  obtain ⟨i0, hi, hz0, hz1, hz2⟩ := info_parts info9
  obtain ⟨u', k', e, hk, hrow⟩ := hm
  injection e with e1 _ e3
  subst e1
  subst e3
  cases u with
  | none =>
    have h0 : M = [] := by
      rcases hrow with h | ⟨g, off, e, _⟩
      · exact h
      · cases e
    subst h0
    rw [List.append_nil]
    exact ⟨a, c, W, run_append_none_any hi h, h, ⟨rfl, rfl, rfl, Nat.le_refl _, fun _ _ _ => rfl⟩⟩
  | some ad =>
    have hcells : ∀ j x, (strV M)[j]? = some x → W.cell? (ad.add j) = some x := fun j x hj => by
      rcases hrow with h | ⟨g, off, e, hb, hc⟩
      · rw [h] at hj; simp [strV] at hj
      · cases e
        rw [Go.WideShapes.add_plain]
        have hj2 : M[j]?.map (fun x => Value.string (mk x)) = some x := by rw [← hj]; simp [strV]
        obtain ⟨p, hp, rfl⟩ := Option.map_eq_some_iff.1 hj2
        exact hc j p hp
    have hlen : (strV M).length = M.length := by simp [strV]
    obtain ⟨v', W', hr, h2, h3, _, _⟩ := run_append_own_at (P := Tryz.prog) W base 32 32 9 i0 (.string ⟨#[]⟩) 1 16 Tryz.underlying32 hi hz0 hz1 hz2 rfl (by decide) _ K.length (strV K) h ad M.length k (strV M) (by rw [hlen]; omega) hcells (fun u hu => by
      obtain ⟨y, _, rfl⟩ := List.mem_map.1 hu
      rfl) (by unfold maxLen; omega) (by omega) hbase
    have e : K.length + M.length = (K ++ M).length := by simp
    rw [← strV_app, e] at h2
    obtain ⟨a', c', rfl⟩ := own_slice h2
    exact ⟨a', c', W', hr, h2, h3⟩

/-- a file laid behind files of the law's own: where its row lies -/
theorem push_f {W : World} {base : Nat} {a : Option Addr} {c : Nat} {L : List (Bs × Value)} (h : W.ownsRow base 45 2 (.slice a L.length c) L.length (fcells L)) (hbw : base ≤ W.heap.size) (hL : L.length ≤ 1000000) {q : Nat} (o : Bs) {ba : Option Addr} {bn bc : Nat} (hq : W.heap[q]? = some (.cells #[.string (mk o), .slice ba bn bc] 45 (0, 0))) :
    ∃ a' c' w', (Builtin.append_ #[22, 22] 22 #[.slice a L.length c, .slice (some ⟨q, 0, none⟩) 1 1]).run Tryz.prog W = .ok (.slice a' (L ++ [(o, Value.slice ba bn bc)]).length c') w' ∧
      w'.ownsRow base 45 2 (.slice a' (L ++ [(o, Value.slice ba bn bc)]).length c') (L ++ [(o, Value.slice ba bn bc)]).length (fcells (L ++ [(o, Value.slice ba bn bc)])) ∧ W.grownBy w' (Value.slice a L.length c).ownBlock ∧
      ((Value.slice a' (L ++ [(o, Value.slice ba bn bc)]).length c').ownBlock = (Value.slice a L.length c).ownBlock ∨ (Value.slice a' (L ++ [(o, Value.slice ba bn bc)]).length c').ownBlock = some W.heap.size) := by
  obtain ⟨i0, hi, hz0, hz1, hz2⟩ := info_parts infoFileR
  obtain ⟨v', w', hrun, hown, hg, _, ho⟩ := run_append_own_at (P := Tryz.prog) W base 22 22 45 i0 zFileR 2 40 Tryz.underlying22 hi hz0 hz1 hz2 rfl (by decide) _ _ (fcells L) h ⟨q, 0, none⟩ 1 1 [.string (mk o), .slice ba bn bc] rfl (fun j u hj => by
      rw [Go.WideShapes.add_plain]
      match j, hj with
      | 0, hj => cases hj; exact (cell_of_heap hq).trans rfl
      | 1, hj => cases hj; exact (cell_of_heap hq).trans rfl) (fun u hu => by simp at hu; rcases hu with rfl | rfl <;> rfl) (by unfold maxLen; omega) (by omega) hbw
  have e : (L ++ [(o, Value.slice ba bn bc)]).length = L.length + 1 := by simp
  have h3 : w'.ownsRow base 45 2 v' (L ++ [(o, Value.slice ba bn bc)]).length (fcells (L ++ [(o, Value.slice ba bn bc)])) := by rw [fcells_snoc, e]; exact hown
  obtain ⟨a', c', rfl⟩ := own_slice h3
  exact ⟨a', c', w', hrun, h3, hg, ho⟩

/-- two rows of files of the law's own, that share nothing -/
structure Tw (base : Nat) (W : World) (a1 : Option Addr) (c1 : Nat) (L1 : List (Bs × Value)) (a2 : Option Addr) (c2 : Nat) (L2 : List (Bs × Value)) : Prop where
  one : W.ownsRow base 45 2 (.slice a1 L1.length c1) L1.length (fcells L1)
  two : W.ownsRow base 45 2 (.slice a2 L2.length c2) L2.length (fcells L2)
  apart : ∀ q, (Value.slice a1 L1.length c1).ownBlock = some q → (Value.slice a2 L2.length c2).ownBlock ≠ some q
theorem tw_below {base : Nat} {W W' : World} {a1 a2 : Option Addr} {c1 c2 : Nat} {L1 L2 : List (Bs × Value)} (h : Tw base W a1 c1 L1 a2 c2 L2) (hb : Below W.heap.size W W') : Tw base W' a1 c1 L1 a2 c2 L2 := ⟨owns_below h.one hb, owns_below h.two hb, h.apart⟩
theorem tw_swap {base : Nat} {W : World} {a1 a2 : Option Addr} {c1 c2 : Nat} {L1 L2 : List (Bs × Value)} (h : Tw base W a1 c1 L1 a2 c2 L2) : Tw base W a2 c2 L2 a1 c1 L1 := ⟨h.two, h.one, fun q h1 h2 => h.apart q h2 h1⟩
/-- a file more in the first row; what lay there and is none of its block stays -/
theorem tw_push {base : Nat} {W : World} {a1 a2 : Option Addr} {c1 c2 : Nat} {L1 L2 : List (Bs × Value)} (h : Tw base W a1 c1 L1 a2 c2 L2) (hbw : base ≤ W.heap.size) (hL : L1.length ≤ 1000000) {q : Nat} (o : Bs) {ba : Option Addr} {bn bc : Nat} (hq : W.heap[q]? = some (.cells #[.string (mk o), .slice ba bn bc] 45 (0, 0))) :
    ∃ a' c' W', (Builtin.append_ #[22, 22] 22 #[.slice a1 L1.length c1, .slice (some ⟨q, 0, none⟩) 1 1]).run Tryz.prog W = .ok (.slice a' (L1 ++ [(o, Value.slice ba bn bc)]).length c') W' ∧ Tw base W' a' c' (L1 ++ [(o, Value.slice ba bn bc)]) a2 c2 L2 ∧ W.grownBy W' (Value.slice a1 L1.length c1).ownBlock := by
  obtain ⟨a', c', W', hrun, hown, hg, ho⟩ := push_f h.one hbw hL o hq
  refine ⟨a', c', W', hrun, ⟨hown, owns_kept h.two fun p hp => hg.block p ?_ ?_, fun p h1 h2 => ?_⟩, hg⟩
  · obtain ⟨_, cur, hc⟩ := owns_block h.two hp
    exact lt_some hc
  · intro e
    exact h.apart p e.symm hp
  · rcases ho with e | e
    · rw [e] at h1
      exact h.apart p h1 h2
    · rw [e] at h1
      obtain ⟨_, cur, hc⟩ := owns_block h.two h2
      have := lt_some hc
      have := Option.some.inj h1
      omega
end Go.Proofs.YtgledabcfonbeaaGreatDoor.Df

/-! The files that are kept, and those that are turned, with where their bytes lie: no world but for Fls. -/
namespace Go.Proofs.YtgledabcfonbeaaGreatDoor.Df
open Go.RowKit Go.Maps Go.Proofs.YtgledabcfonbeaaGreatDoor

def somV (K : List Bs) (P : List (Fl × Value)) : List (Bs × Value) := (P.filter fun q => K.contains q.1.1).map fun q => (q.1.1, q.2)
def turnV (K : List Bs) (mv : Value) (P : List (Fl × Value)) : List (Bs × Value) := P.map fun q => (q.1.1, if K.contains q.1.1 then q.2 else mv)
theorem somV_snoc {K : List Bs} {P : List (Fl × Value)} {j : Nat} {q : Fl × Value} (h : P[j]? = some q) : somV K (P.take (j + 1)) = somV K (P.take j) ++ (if K.contains q.1.1 then [(q.1.1, q.2)] else []) := by
  rw [List.take_add_one, h]
  unfold somV
  rw [List.filter_append, List.map_append]
  show _ ++ (List.map _ (List.filter _ [q])) = _
  rw [List.filter_cons]
  by_cases hc : K.contains q.1.1 = true
  · rw [if_pos hc, if_pos hc]; rfl
  · rw [if_neg hc, if_neg hc]; rfl
theorem turnV_snoc {K : List Bs} {mv : Value} {P : List (Fl × Value)} {j : Nat} {q : Fl × Value} (h : P[j]? = some q) : turnV K mv (P.take (j + 1)) = turnV K mv (P.take j) ++ [(q.1.1, if K.contains q.1.1 then q.2 else mv)] := by
  rw [List.take_add_one, h]
  unfold turnV
  rw [List.map_append]
  rfl
theorem zip_at2 {L : List Fl} {U : List Value} {j : Nat} {x : Fl} {u : Value} (hx : L[j]? = some x) (hu : U[j]? = some u) : (L.zip U)[j]? = some (x, u) := by
  rw [List.getElem?_zip_eq_some]
  exact ⟨hx, hu⟩
/-- a row of the law's own is a row of files, if its bytes are there -/
theorem fls_own {W : World} {base : Nat} {a : Option Addr} {c : Nat} {V : List (Bs × Value)} {M : List Fl} (h : W.ownsRow base 45 2 (.slice a V.length c) V.length (fcells V)) (hlen : V.length = M.length)
    (hb : ∀ (j : Nat) x, M[j]? = some x → ∃ (ua : Option Addr) (uc : Nat), V[j]? = some (x.1, Value.slice ua x.2.length uc) ∧ Byt W (.slice ua x.2.length uc) x.2) (hs : ∀ q ∈ V, ∃ a n c, q.2 = .slice a n c) :
    Fls W (.slice a M.length c) M (V.map Prod.snd) := by
  refine ⟨fun u hu => ?_, a, c, rfl, ?_, ?_⟩
  · obtain ⟨q, hq, rfl⟩ := List.mem_map.1 hu
    exact hs q hq
  · rcases h.2 with ⟨e1, e2⟩ | ⟨g, cap, cur, e1, _, _, hle, _⟩
    · omega
    · injection e1 with e1 e2 e3
      omega
  · rcases h.2 with ⟨e1, e2⟩ | ⟨g, cap, cur, e1, _⟩
    · left
      exact List.eq_nil_of_length_eq_zero (by omega)
    · right
      injection e1 with e1
      subst e1
      obtain ⟨_, cur2, hc⟩ := owns_block h (g := g) rfl
      refine ⟨g, 0, rfl, lt_some hc, fun j x hx => ?_⟩
      obtain ⟨ua, uc, h1, h2⟩ := hb j x hx
      have h3 := h.cells (g := g) rfl (j * 2) _ (fcells_at V j _ _ h1).1
      have h4 := h.cells (g := g) rfl (j * 2 + 1) _ (fcells_at V j _ _ h1).2
      rw [Go.WideShapes.add_plain] at h3 h4
      refine ⟨_, by rw [List.getElem?_map, h1]; rfl, h3, ?_, h2⟩
      rw [show 0 + j * 2 + 1 = 0 + (j * 2 + 1) by omega]
      exact h4
theorem cookL_none_found {H : Bs → Bs} {ws decl : List Bs} {L : List Fl} {o : Cmd} {p : Bs × List Bs} (h : cookL H ws decl L = some (o, p)) (hd : o.dep = []) (hform : ∀ {o}, readL ws = some o → decide (o.dep ≠ []) = decide (o.verb = wInc)) (hcases : ∀ {verb : Bs} {A : List Bs} {b : Bs} {f : List Bs}, doneO H decl (fileL L) verb A = some (b, f) → verb ≠ wInc → f = []) : p.2 = [] := by
  unfold cookL at h
  cases hr : readL ws with
  | none => rw [hr] at h; cases h
  | some q =>
    rw [hr] at h
    have h' : (doneO H decl (fileL L) q.verb q.args).map (fun p => (q, p)) = some (o, p) := h
    cases hd2 : doneO H decl (fileL L) q.verb q.args with
    | none => rw [hd2] at h'; cases h'
    | some d =>
      rw [hd2] at h'
      cases h'
      refine hcases hd2 fun e => ?_
      have := hform hr
      rw [hd, e] at this
      exact absurd this (by decide)

/-- one more in the first row, above Y -/
theorem push_one {Y X : World} {a1 a2 : Option Addr} {c1 c2 : Nat} {L1 L2 : List (Bs × Value)} (h : Tw Y.heap.size X a1 c1 L1 a2 c2 L2) (hb : Below Y.heap.size Y X) (hL : L1.length ≤ 1000000) (q : Nat) (o : Bs) {ba : Option Addr} {bn bc : Nat} (hq : X.heap[q]? = some (.cells #[.string (mk o), .slice ba bn bc] 45 (0, 0))) :
    ∃ a' c' W', (Builtin.append_ #[22, 22] 22 #[.slice a1 L1.length c1, .slice (some ⟨q, 0, none⟩) 1 1]).run Tryz.prog X = .ok (.slice a' (L1 ++ [(o, Value.slice ba bn bc)]).length c') W' ∧ Tw Y.heap.size W' a' c' (L1 ++ [(o, Value.slice ba bn bc)]) a2 c2 L2 ∧ Below Y.heap.size Y W' ∧
      ∀ p, p < X.heap.size → (Value.slice a1 L1.length c1).ownBlock ≠ some p → W'.heap[p]? = X.heap[p]? := by
  obtain ⟨a', c', W', hrun, hT, hg⟩ := tw_push h hb.size hL o hq
  refine ⟨a', c', W', hrun, hT, hb.trans ⟨hg.os, hg.tape, hg.output, hg.size, fun p hp => hg.block p (Nat.lt_of_lt_of_le hp hb.size) (fun e => by
    have := (owns_block h.one e.symm).1
    omega)⟩, fun p hp hne => hg.block p hp (fun e => hne e.symm)⟩
/-- one more in each row, of files that both lie there -/
theorem push_two {Y X : World} {a1 a2 : Option Addr} {c1 c2 : Nat} {L1 L2 : List (Bs × Value)} (h : Tw Y.heap.size X a1 c1 L1 a2 c2 L2) (hb : Below Y.heap.size Y X) (hl1 : L1.length ≤ 1000000) (hl2 : L2.length ≤ 1000000) (q1 q2 : Nat) (o : Bs) {ba : Option Addr} {bn bc : Nat} (hq1 : X.heap[q1]? = some (.cells #[.string (mk o), .slice ba bn bc] 45 (0, 0))) (hq2 : X.heap[q2]? = some (.cells #[.string (mk o), .slice ba bn bc] 45 (0, 0))) (hne : (Value.slice a1 L1.length c1).ownBlock ≠ some q2) :
    ∃ a' c' W1 a'' c'' W2, (Builtin.append_ #[22, 22] 22 #[.slice a1 L1.length c1, .slice (some ⟨q1, 0, none⟩) 1 1]).run Tryz.prog X = .ok (.slice a' (L1 ++ [(o, Value.slice ba bn bc)]).length c') W1 ∧
      (Builtin.append_ #[22, 22] 22 #[.slice a2 L2.length c2, .slice (some ⟨q2, 0, none⟩) 1 1]).run Tryz.prog W1 = .ok (.slice a'' (L2 ++ [(o, Value.slice ba bn bc)]).length c'') W2 ∧ Below Y.heap.size Y W1 ∧ Below Y.heap.size Y W2 ∧ Tw Y.heap.size W2 a' c' (L1 ++ [(o, Value.slice ba bn bc)]) a'' c'' (L2 ++ [(o, Value.slice ba bn bc)]) := by
  obtain ⟨a', c', W1, r1, t1, b1, k1⟩ := push_one h hb hl1 q1 o hq1
  obtain ⟨a'', c'', W2, r2, t2, b2, -⟩ := push_one (tw_swap t1) b1 hl2 q2 o ((k1 q2 (lt_some hq2) hne).trans hq2)
  exact ⟨a', c', W1, a'', c'', W2, r1, r2, b1, b2, tw_swap t2⟩

theorem fls_zip {W : World} {v : Value} {L : List Fl} {U : List Value} (h : Fls W v L U) : L.length ≤ U.length ∧ ∀ q ∈ L.zip U, ∃ (ua : Option Addr) (uc : Nat), q.2 = Value.slice ua q.1.2.length uc ∧ Byt W q.2 q.1.2 := by
  have hat : ∀ (j : Nat) x, L[j]? = some x → ∃ u, U[j]? = some u ∧ Byt W u x.2 := fun j x hx => by
    obtain ⟨g, off, c, ua, uc, -, -, hu, -, -, hb⟩ := h.at hx
    exact ⟨_, hu, hb⟩
  constructor
  · rcases Nat.lt_or_ge U.length L.length with hlt | hge
    · obtain ⟨u, hu, -⟩ := hat U.length _ (List.getElem?_eq_getElem hlt)
      rw [List.getElem?_eq_none (Nat.le_refl _)] at hu
      cases hu
    · exact hge
  · intro q hq
    obtain ⟨j, hj⟩ := List.mem_iff_getElem?.1 hq
    rw [List.getElem?_zip_eq_some] at hj
    obtain ⟨u, hu, hb⟩ := hat j q.1 hj.1
    obtain rfl : q.2 = u := Option.some.inj (hj.2.symm.trans hu)
    obtain ⟨ua, uc, e, -⟩ := id hb
    exact ⟨ua, uc, e, hb⟩
theorem fls_somV {W : World} {base : Nat} {a : Option Addr} {c : Nat} {K : List Bs} {L : List Fl} {U : List Value} {V : List (Bs × Value)} (hU : L.length ≤ U.length) (hq : ∀ q ∈ L.zip U, ∃ (ua : Option Addr) (uc : Nat), q.2 = Value.slice ua q.1.2.length uc ∧ Byt W q.2 q.1.2) (hV : V = somV K (L.zip U)) (h : W.ownsRow base 45 2 (.slice a V.length c) V.length (fcells V)) :
    Fls W (.slice a (someL K L).length c) (someL K L) (V.map Prod.snd) ∧ V.length = (someL K L).length := by
  have hM : someL K L = ((L.zip U).filter fun q => K.contains q.1.1).map Prod.fst := by
    unfold someL
    conv => lhs; rw [← List.map_fst_zip hU]
    rw [List.filter_map]
    rfl
  have hlen : V.length = (someL K L).length := by rw [hV, hM]; unfold somV; rw [List.length_map, List.length_map]
  refine ⟨fls_own h hlen (fun j x hx => ?_) (fun q hq2 => ?_), hlen⟩
  · rw [hM, List.getElem?_map] at hx
    obtain ⟨q, hqj, rfl⟩ := Option.map_eq_some_iff.1 hx
    obtain ⟨ua, uc, e, hb⟩ := hq q ((List.mem_filter.1 (List.mem_of_getElem? hqj)).1)
    refine ⟨ua, uc, ?_, by rw [← e]; exact hb⟩
    rw [hV]
    unfold somV
    rw [List.getElem?_map, hqj, ← e]
    rfl
  · rw [hV] at hq2
    unfold somV at hq2
    obtain ⟨q0, h0, rfl⟩ := List.mem_map.1 hq2
    obtain ⟨ua, uc, e, -⟩ := hq q0 ((List.mem_filter.1 h0).1)
    exact ⟨_, _, _, e⟩
theorem fls_turnV {W : World} {base : Nat} {a ma : Option Addr} {c mc : Nat} {K : List Bs} {L : List Fl} {U : List Value} {V : List (Bs × Value)} {m : Bs} (hU : L.length ≤ U.length) (hq : ∀ q ∈ L.zip U, ∃ (ua : Option Addr) (uc : Nat), q.2 = Value.slice ua q.1.2.length uc ∧ Byt W q.2 q.1.2) (hm : Byt W (.slice ma m.length mc) m) (hV : V = turnV K (.slice ma m.length mc) (L.zip U)) (h : W.ownsRow base 45 2 (.slice a V.length c) V.length (fcells V)) :
    Fls W (.slice a (turnL K m L).length c) (turnL K m L) (V.map Prod.snd) ∧ V.length = (turnL K m L).length := by
  have hM : turnL K m L = (L.zip U).map fun q => if K.contains q.1.1 then q.1 else (q.1.1, m) := by
    unfold turnL
    conv => lhs; rw [← List.map_fst_zip hU]
    rw [List.map_map]
    rfl
  have hlen : V.length = (turnL K m L).length := by rw [hV, hM]; unfold turnV; rw [List.length_map, List.length_map]
  refine ⟨fls_own h hlen (fun j x hx => ?_) (fun q hq2 => ?_), hlen⟩
  · rw [hM, List.getElem?_map] at hx
    obtain ⟨q, hqj, rfl⟩ := Option.map_eq_some_iff.1 hx
    obtain ⟨ua, uc, e, hb⟩ := hq q (List.mem_of_getElem? hqj)
    by_cases hc : K.contains q.1.1 = true
    · rw [if_pos hc]
      refine ⟨ua, uc, ?_, by rw [← e]; exact hb⟩
      rw [hV]
      unfold turnV
      rw [List.getElem?_map, hqj, ← e]
      show some (q.1.1, if K.contains q.1.1 = true then q.2 else _) = _
      rw [if_pos hc]
    · rw [if_neg hc]
      refine ⟨ma, mc, ?_, hm⟩
      rw [hV]
      unfold turnV
      rw [List.getElem?_map, hqj]
      show some (q.1.1, if K.contains q.1.1 = true then q.2 else _) = _
      rw [if_neg hc]
  · rw [hV] at hq2
    unfold turnV at hq2
    obtain ⟨q0, h0, rfl⟩ := List.mem_map.1 hq2
    show ∃ a n c, (if K.contains q0.1.1 = true then q0.2 else _) = _
    by_cases hc : K.contains q0.1.1 = true
    · rw [if_pos hc]
      obtain ⟨ua, uc, e, -⟩ := hq q0 h0
      exact ⟨_, _, _, e⟩
    · rw [if_neg hc]
      exact ⟨_, _, _, rfl⟩

set_option maxRecDepth 100000 in
/-- a name behind names that have no room -/
theorem run_zz {W : World} {da : Option Addr} {dc : Nat} {decl : List Bs} (hd : Strs W (.slice da decl.length dc) decl) (hl : decl.length ≤ 1000) {q : Nat} {x : Bs} (hq : W.heap[q]? = some (.cells #[.string (mk x)] 9 (0, 0))) :
    ∃ a' c' W', (Builtin.append_ #[32, 32] 32 #[.slice da decl.length decl.length, .slice (some ⟨q, 0, none⟩) 1 1]).run Tryz.prog W = .ok (.slice a' (decl ++ [x]).length c') W' ∧ Strs W' (.slice a' (decl ++ [x]).length c') (decl ++ [x]) ∧ Below W.heap.size W W' := by
  obtain ⟨i0, hi, hz0, hz1, hz2⟩ := info_parts info9
  have e : decl.length + 1 = (decl ++ [x]).length := by simp
  have hnews : ∀ (j : Nat) u, ([Value.string (mk x)] : List Value)[j]? = some u → W.cell? ((⟨q, 0, none⟩ : Addr).add j) = some u := fun j u hj => by
    rw [Go.WideShapes.add_plain]
    match j, hj with
    | 0, hj => cases hj; exact (cell_of_heap hq).trans rfl
  have hfin : ∀ {v' : Value} {W' : World}, W'.ownsRow W.heap.size 9 1 v' (decl.length + 1) (strV decl ++ [.string (mk x)]) → W.grownBy W' none → ∃ a' c', v' = .slice a' (decl ++ [x]).length c' ∧ Strs W' (.slice a' (decl ++ [x]).length c') (decl ++ [x]) ∧ Below W.heap.size W W' := by
    intro v' W' ho hg
    have ho2 : W'.ownsRow W.heap.size 9 1 v' (decl ++ [x]).length (strV (decl ++ [x])) := by rw [strV_snoc, ← e]; exact ho
    obtain ⟨a', c', rfl⟩ := own_slice ho2
    exact ⟨a', c', rfl, owns_strs ho2, ⟨hg.os, hg.tape, hg.output, hg.size, fun p hp => hg.block p hp (fun e => by cases e)⟩⟩
  cases da with
  | none =>
    obtain ⟨a0, c0, e0, hc0, hrow⟩ := hd
    injection e0 with e1 _ e3
    have h0 : decl = [] := by
      rcases hrow with h | ⟨g, off, e, _⟩
      · exact h
      · rw [← e1] at e; cases e
    subst h0
    obtain ⟨v', W', hr, h2, h3, _⟩ := run_append_own (P := Tryz.prog) W W.heap.size 32 32 9 i0 (.string ⟨#[]⟩) 1 16 Tryz.underlying32 hi hz0 hz1 hz2 rfl (by decide) (.slice none 0 0) 0 [] (World.ownsRow_nil _ _ _ _) ⟨q, 0, none⟩ 1 1 [.string (mk x)] rfl hnews (fun u hu => by rw [List.mem_singleton.1 hu]; rfl) (by unfold maxLen; omega) (by omega) (Nat.le_refl _)
    obtain ⟨a', c', rfl, hs, hb⟩ := hfin (v' := v') h2 h3
    exact ⟨a', c', W', hr, hs, hb⟩
  | some ad =>
    have hold : ∀ (j : Nat) u, (strV decl)[j]? = some u → W.cell? (ad.add j) = some u := fun j u hj => by
      obtain ⟨a0, c0, e0, hc0, hrow⟩ := hd
      injection e0 with e1 _ e3
      rcases hrow with h | ⟨g, off, e, hg, hcell⟩
      · rw [h] at hj; simp [strV] at hj
      · rw [← e1] at e
        cases e
        rw [Go.WideShapes.add_plain]
        have hj2 : decl[j]?.map (fun x => Value.string (mk x)) = some u := by rw [← hj]; simp [strV]
        obtain ⟨p, hp, rfl⟩ := Option.map_eq_some_iff.1 hj2
        exact hcell j p hp
    obtain ⟨v', W', hr, h2, h3⟩ := run_append_arg_grows (P := Tryz.prog) (w := W) 32 32 9 i0 (.string ⟨#[]⟩) 1 16 Tryz.underlying32 hi hz0 hz1 hz2 rfl (by decide) ad decl.length decl.length (strV decl) (by simp [strV]) hold ⟨q, 0, none⟩ 1 1 [.string (mk x)] rfl hnews (by omega) (by unfold maxLen; omega) (by omega)
    obtain ⟨a', c', rfl, hs, hb⟩ := hfin (v' := v') h2 h3
    exact ⟨a', c', W', hr, hs, hb⟩
end Go.Proofs.YtgledabcfonbeaaGreatDoor.Df
