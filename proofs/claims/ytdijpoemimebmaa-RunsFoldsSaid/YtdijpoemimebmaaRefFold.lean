/-
  THE DOCUMENT's FOLD, WALKED: its rows.
-/
import Derived.Test.YtdijpoemimebmaaPartsX
namespace Go.Proofs.Ytdijpoemimebmaa.Rn
open Go.RowKit
open Go.Proofs.Ytdijpoemimebmaa.Cr

/-- a row of the document's runs of its own; their lists were there in world w -/
structure DF (B : Nat) (w W : World) (v : Value) (G : List Gr) : Prop where
  own : W.ownsRow B 25 6 v G.length (runV G)
  els : ∀ g ∈ G, (∃ ai ni ci af nf cf, g.2 = (Value.slice ai ni ci, Value.slice af nf cf)) ∧ InRow w g.2.1 g.1.ins ∧ FdRow w g.2.2 g.1.found
  low : w.heap.size ≤ B
  low2 : B ≤ W.heap.size
  bel : Below w.heap.size w W

section
variable {B : Nat} {w W W1 : World} {v vn : Value} {G : List Gr}

theorem DF.keep (h : DF B w W v G) (hb : Below W.heap.size W W1) : DF B w W1 v G :=
  ⟨owns_below h.own hb, h.els, h.low, Nat.le_trans h.low2 hb.size, h.bel.trans (hb.mono h.bel.size)⟩

theorem DF.app {M : List Gr} (h : DF B w W v G) (hM : ∀ g ∈ M, (∃ ai ni ci af nf cf, g.2 = (Value.slice ai ni ci, Value.slice af nf cf)) ∧ InRow w g.2.1 g.1.ins ∧ FdRow w g.2.2 g.1.found) (hg : W.grownBy W1 v.ownBlock) (hown : W1.ownsRow B 25 6 vn (G.length + M.length) (runV G ++ runV M)) : DF B w W1 vn (G ++ M) := by
  refine ⟨by rw [runV_app, List.length_append]; exact hown, fun g hg' => ?_, h.low, Nat.le_trans h.low2 hg.size, h.bel.trans ⟨hg.os, hg.tape, hg.output, hg.size, fun k hkk => hg.block k (by have := h.bel.size; omega) fun e2 => by have := (h.own.lt k e2.symm).1; have := h.low; omega⟩⟩
  rcases List.mem_append.1 hg' with h1 | h1
  · exact h.els g h1
  · exact hM g h1

/-- a row beside one that grows -/
theorem DF.beside {u : Option Nat} {C : Nat} (h : DF B w W v G) (hg : W.grownBy W1 u) (hlt : ∀ x, v.ownBlock = some x → x < C) (hu : ∀ x, u = some x → C ≤ x) (hC : w.heap.size ≤ C) : DF B w W1 v G := by
  refine ⟨h.own.kept hg ?_, h.els, h.low, Nat.le_trans h.low2 hg.size, h.bel.trans ⟨hg.os, hg.tape, hg.output, hg.size, fun k hkk => hg.block k (by have := h.bel.size; omega) fun e2 => ?_⟩⟩
  · cases e : v.ownBlock with
    | none => exact .inl rfl
    | some x => exact .inr fun e2 => by have := hlt x e; have := hu x e2.symm; omega
  · have := hu k e2.symm; omega

theorem DF.take {k : Nat} : (∀ g ∈ G, (∃ ai ni ci af nf cf, g.2 = (Value.slice ai ni ci, Value.slice af nf cf)) ∧ InRow w g.2.1 g.1.ins ∧ FdRow w g.2.2 g.1.found) → (∀ g ∈ G.take k, (∃ ai ni ci af nf cf, g.2 = (Value.slice ai ni ci, Value.slice af nf cf)) ∧ InRow w g.2.1 g.1.ins ∧ FdRow w g.2.2 g.1.found) :=
  fun h g hg => h g (List.mem_of_mem_take hg)
theorem DF.drop {k : Nat} : (∀ g ∈ G, (∃ ai ni ci af nf cf, g.2 = (Value.slice ai ni ci, Value.slice af nf cf)) ∧ InRow w g.2.1 g.1.ins ∧ FdRow w g.2.2 g.1.found) → (∀ g ∈ G.drop k, (∃ ai ni ci af nf cf, g.2 = (Value.slice ai ni ci, Value.slice af nf cf)) ∧ InRow w g.2.1 g.1.ins ∧ FdRow w g.2.2 g.1.found) :=
  fun h g hg => h g (List.mem_of_mem_drop hg)

theorem DF.at (h : DF B w W v G) : ∃ a c, v = .slice a G.length c ∧ G.length ≤ c ∧ ((a = Option.none ∧ G = [] ∧ c = 0) ∨ ∃ g, a = some ⟨g, 0, Option.none⟩ ∧ g < W.heap.size ∧ ∀ i q, G[i]? = some q → ∃ ai ni ci af nf cf, q.2.1 = .slice ai ni ci ∧ q.2.2 = .slice af nf cf ∧ At W g (i * 6) q.1 (.slice ai ni ci) (.slice af nf cf)) := by
  rcases own_at h.own with ⟨rfl, h0⟩ | ⟨g, cap, rfl, hb, hlt, hle, hc⟩
  · obtain rfl : G = [] := List.eq_nil_of_length_eq_zero h0
    exact ⟨Option.none, 0, rfl, Nat.le_refl _, .inl ⟨rfl, rfl, rfl⟩⟩
  · refine ⟨some ⟨g, 0, Option.none⟩, cap, rfl, hle, .inr ⟨g, rfl, hlt, fun i q hq => ?_⟩⟩
    obtain ⟨x0, x1, x2, x3, x4, x5⟩ := runV_get G i q hq
    obtain ⟨⟨ai, ni, ci, af, nf, cf, e⟩, hi, hf⟩ := h.els q (List.mem_of_getElem? hq)
    have e1 : q.2.1 = .slice ai ni ci := by rw [e]
    have e2 : q.2.2 = .slice af nf cf := by rw [e]
    rw [e1] at x4 hi
    rw [e2] at x5 hf
    exact ⟨ai, ni, ci, af, nf, cf, e1, e2, hc _ _ x0, hc _ _ x1, hc _ _ x2, hc _ _ x3, hc _ _ x4, hc _ _ x5, hi.below h.bel, hf.below h.bel⟩

theorem DF.one (h : ∀ g ∈ G, (∃ ai ni ci af nf cf, g.2 = (Value.slice ai ni ci, Value.slice af nf cf)) ∧ InRow w g.2.1 g.1.ins ∧ FdRow w g.2.2 g.1.found) : ∀ u ∈ runV G, u.oneCell' = true := fun u hu => by
  unfold runV at hu
  obtain ⟨g, hg, h'⟩ := List.mem_flatMap.1 hu
  obtain ⟨⟨_, _, _, _, _, _, e⟩, _⟩ := h g hg
  rw [e] at h'
  simp at h'
  rcases h' with rfl | rfl | rfl | rfl | rfl | rfl <;> rfl

theorem DF.cells {k : Nat} {g n c : Nat} (h : DF B w W (.slice (some ⟨g, 0, Option.none⟩) n c) G) : ∀ j u, (runV (G.drop k))[j]? = some u → W.cell? ((⟨g, k * 6, Option.none⟩ : Addr).add j) = some u := fun j u hu => by
  rw [runV_drop, List.getElem?_drop] at hu
  rcases own_at h.own with ⟨e, _⟩ | ⟨g', cap, e, _, _, _, hc⟩
  · cases e
  · cases e
    rw [Go.WideShapes.add_plain]
    exact hc _ _ hu

theorem runV_take : ∀ (k : Nat) (G : List Gr), runV (G.take k) = (runV G).take (k * 6)
  | 0, G => by simp [runV]
  | k + 1, [] => by simp [runV]
  | k + 1, g :: G => by
    have e : runV (g :: G) = [.string g.1.out, .string g.1.cmd, .int .i64 g.1.time, .int .i64 g.1.mark, g.2.1, g.2.2] ++ runV G := by simp [runV]
    have e2 : runV ((g :: G).take (k + 1)) = [.string g.1.out, .string g.1.cmd, .int .i64 g.1.time, .int .i64 g.1.mark, g.2.1, g.2.2] ++ runV (G.take k) := by rw [List.take_succ_cons]; simp [runV]
    rw [e2, e, runV_take k G, show (k + 1) * 6 = k * 6 + 6 by omega]
    rfl

theorem DF.cellsT {k : Nat} {g n c : Nat} (h : DF B w W (.slice (some ⟨g, 0, Option.none⟩) n c) G) : ∀ j u, (runV (G.take k))[j]? = some u → W.cell? ((⟨g, 0, Option.none⟩ : Addr).add j) = some u := fun j u hu => by
  rw [runV_take, List.getElem?_take] at hu
  split at hu
  · have := DF.cells (k := 0) h j u (by rw [List.drop_zero]; exact hu)
    rw [Nat.zero_mul] at this
    exact this
  · cases hu
end

theorem DF.base {B : Nat} {w W : World} {v : Value} {G : List Gr} (h : DF B w W v G) : DF w.heap.size w W v G := ⟨owns_base h.own h.low, h.els, Nat.le_refl _, h.bel.size, h.bel⟩

theorem DF.own1 {B m : Nat} {w W : World} {v : Value} {G : List Gr} {x : Gr} (h : DF B w W v (G.take m ++ [x])) (hm : m ≤ G.length) : W.ownsRow B 25 6 v (m + 1) (runV (G.take m ++ [x])) := by
  have := h.own
  rw [List.length_append, List.length_take, Nat.min_eq_left hm] at this
  exact this

theorem fo_gr {K : List Run} {G : List Gr} {x : Gr} {m : Nat} (h : Fo K ((G.map (·.1)).take m ++ x.1 :: (G.map (·.1)).drop m)) : Fo K ((G.take m ++ [x] ++ G.drop m).map (·.1)) := by
  have e : (G.take m ++ [x] ++ G.drop m).map (·.1) = (G.map (·.1)).take m ++ x.1 :: (G.map (·.1)).drop m := by
    rw [List.map_append, List.map_append, List.map_take, List.map_drop]
    simp
  rw [e]
  exact h

theorem infoDR : (Try.prog.info? 25).map (fun i => (i.zero, i.size, i.bytes)) = some (some (.agg #[.string ⟨#[]⟩, .string ⟨#[]⟩, .int .i64 0, .int .i64 0, .slice Option.none 0 0, .slice Option.none 0 0]), 6, 96) := by kernel_rfl

/-- what an append of several runs, or of none, comes to -/
theorem run_appD {base : Nat} {w : World} {v : Value} {n : Nat} {xs : List Value} (hown : w.ownsRow base 25 6 v n xs) {src : Value} {m : Nat} {news : List Value}
    (hsrc : (src = .slice Option.none 0 0 ∧ m = 0 ∧ news = []) ∨ ∃ ad c, src = .slice (some ad) m c ∧ ∀ j u, news[j]? = some u → w.cell? (ad.add j) = some u)
    (hl : news.length = m * 6) (hone : ∀ u ∈ news, u.oneCell' = true) (hb : n + m ≤ 1000000) (hbase : base ≤ w.heap.size) (ty : TypeId) :
    ∃ a' c' w', (Builtin.append_ #[45, 45] ty #[v, src]).run Try.prog w = .ok (.slice a' (n + m) c') w' ∧ w'.ownsRow base 25 6 (.slice a' (n + m) c') (n + m) (xs ++ news) ∧ w.grownBy w' v.ownBlock := by
  obtain ⟨i0, hi, hz0, hz1, hz2⟩ := info_parts infoDR
  rcases hsrc with ⟨rfl, rfl, rfl⟩ | ⟨ad, c, rfl, hc⟩
  · obtain ⟨va, vc, rfl⟩ := own_slice hown
    refine ⟨va, vc, w, ?_, by simpa using hown, ⟨rfl, rfl, rfl, Nat.le_refl _, fun _ _ _ => rfl⟩⟩
    exact run_append_owned_none (P := Try.prog) (w := w) base 45 ty 25 i0 6 Try.underlying45 hi _ _ _ hown
  · obtain ⟨v', w', hr, h2, h3, _, _⟩ := run_append_own_at (P := Try.prog) w base 45 ty 25 i0 (.agg #[.string ⟨#[]⟩, .string ⟨#[]⟩, .int .i64 0, .int .i64 0, .slice Option.none 0 0, .slice Option.none 0 0]) 6 96 Try.underlying45 hi hz0 hz1 hz2 rfl (by decide) v n xs hown ad m c news hl hc hone (by unfold maxLen; omega) (by omega) hbase
    obtain ⟨a', c', rfl⟩ := own_slice h2
    exact ⟨a', c', w', hr, h2, h3⟩

theorem step_appD {ops : Array Oper} {o : Oper} {a : Act} {w : World} {K : Act → World → Prop} {Q : Exit → Act → World → Prop} {E : Prop} (hgd : o.guard = Option.none) (s x : Operand)
    (ho : o.op = .call { callee := .builtin .append, args := #[s, x], argTypes := #[45, 45] })
    {base : Nat} {v : Value} {n : Nat} {xs : List Value} (hs : a.eval s = v) (hown : w.ownsRow base 25 6 v n xs) {src : Value} {m : Nat} {news : List Value} (hx : a.eval x = src)
    (hsrc : (src = .slice Option.none 0 0 ∧ m = 0 ∧ news = []) ∨ ∃ ad c, src = .slice (some ad) m c ∧ ∀ j u, news[j]? = some u → w.cell? (ad.add j) = some u)
    (hl : news.length = m * 6) (hone : ∀ u ∈ news, u.oneCell' = true) (hb : n + m ≤ 1000000) (hbase : base ≤ w.heap.size)
    (h : ∀ a' c' w', w'.ownsRow base 25 6 (.slice a' (n + m) c') (n + m) (xs ++ news) → w.grownBy w' v.ownBlock → K (a.put o.dst (.slice a' (n + m) c')) w') :
    if Region.wanted o (yielded ops a.tmps) = true then Oper.wp Try.prog o a w K Q else E := by
  rw [if_pos (by simp [Region.wanted, hgd])]
  obtain ⟨a', c', w', hr, h2, h3⟩ := run_appD hown hsrc hl hone hb hbase o.type
  unfold Oper.wp execOp
  simp only [ho, resolve, invoke, builtin, Sem.run_bind, Sem.run_pure, Result.andThen_ok, List.map_toArray, List.map_cons, List.map_nil, hs, hx, hr]
  exact h a' c' w' h2 h3

/-- six cells of a row are stored -/
theorem runV_set : ∀ (G : List Gr) (k : Nat) (x : Gr), k < G.length → runV (G.set k x) = ((((((runV G).set (k * 6) (.string x.1.out)).set (k * 6 + 1) (.string x.1.cmd)).set (k * 6 + 2) (.int .i64 x.1.time)).set (k * 6 + 3) (.int .i64 x.1.mark)).set (k * 6 + 4) x.2.1).set (k * 6 + 5) x.2.2
  | [], k, x, h => by simp at h
  | g :: G, 0, x, h => by simp [runV]
  | g :: G, k + 1, x, h => by
    have e : ∀ (y : Gr) (M : List Gr), runV (y :: M) = [.string y.1.out, .string y.1.cmd, .int .i64 y.1.time, .int .i64 y.1.mark, y.2.1, y.2.2] ++ runV M := fun y M => by simp [runV]
    have hs : ∀ (l : List Value) (t : Nat) (u : Value), ([Value.string g.1.out, .string g.1.cmd, .int .i64 g.1.time, .int .i64 g.1.mark, g.2.1, g.2.2] ++ l).set ((k + 1) * 6 + t) u = [Value.string g.1.out, .string g.1.cmd, .int .i64 g.1.time, .int .i64 g.1.mark, g.2.1, g.2.2] ++ l.set (k * 6 + t) u := fun l t u => by
      rw [List.set_append_right _ _ (by simp; omega)]
      congr 2
      simp
      omega
    have hs0 := fun l u => hs l 0 u
    simp only [Nat.add_zero] at hs0
    rw [List.set_cons_succ, e, e, runV_set G k x (by simpa using h), hs0, hs, hs, hs, hs, hs]

theorem DF.set {B : Nat} {w W : World} {g n c k : Nat} {G : List Gr} {x : Gr} (h : DF B w W (.slice (some ⟨g, 0, Option.none⟩) n c) G) (hk : k < G.length) (hx : (∃ ai ni ci af nf cf, x.2 = (Value.slice ai ni ci, Value.slice af nf cf)) ∧ InRow w x.2.1 x.1.ins ∧ FdRow w x.2.2 x.1.found) :
    DF B w ((((((W.setCell ⟨g, k * 6, Option.none⟩ (.string x.1.out)).setCell ⟨g, k * 6 + 1, Option.none⟩ (.string x.1.cmd)).setCell ⟨g, k * 6 + 2, Option.none⟩ (.int .i64 x.1.time)).setCell ⟨g, k * 6 + 3, Option.none⟩ (.int .i64 x.1.mark)).setCell ⟨g, k * 6 + 4, Option.none⟩ x.2.1).setCell ⟨g, k * 6 + 5, Option.none⟩ x.2.2) (.slice (some ⟨g, 0, Option.none⟩) n c) (G.set k x) := by
  have hn : n = G.length := by
    have := h.own
    obtain ⟨a', c', e⟩ := own_slice this
    exact (Value.slice.inj e).2.1
  subst hn
  obtain ⟨s0, g0⟩ := h.own.stored (k * 6) (.string x.1.out)
  obtain ⟨s1, g1⟩ := s0.stored (k * 6 + 1) (.string x.1.cmd)
  obtain ⟨s2, g2⟩ := s1.stored (k * 6 + 2) (.int .i64 x.1.time)
  obtain ⟨s3, g3⟩ := s2.stored (k * 6 + 3) (.int .i64 x.1.mark)
  obtain ⟨s4, g4⟩ := s3.stored (k * 6 + 4) x.2.1
  obtain ⟨s5, g5⟩ := s4.stored (k * 6 + 5) x.2.2
  have hgB : B ≤ g := (h.own.lt g rfl).1
  have bb : ∀ {U V : World}, U.grownBy V (some g) → w.heap.size ≤ U.heap.size → Below w.heap.size U V := fun {U V} hg hU => ⟨hg.os, hg.tape, hg.output, hg.size, fun k' hk' => hg.block k' (by omega) fun e => by have := Option.some.inj e; have := h.low; omega⟩
  have z := h.bel.size
  have b0 := bb g0 z
  have b1 := bb g1 (Nat.le_trans z b0.size)
  have b2 := bb g2 (Nat.le_trans z (Nat.le_trans b0.size b1.size))
  have b3 := bb g3 (Nat.le_trans z (Nat.le_trans b0.size (Nat.le_trans b1.size b2.size)))
  have b4 := bb g4 (Nat.le_trans z (Nat.le_trans b0.size (Nat.le_trans b1.size (Nat.le_trans b2.size b3.size))))
  have b5 := bb g5 (Nat.le_trans z (Nat.le_trans b0.size (Nat.le_trans b1.size (Nat.le_trans b2.size (Nat.le_trans b3.size b4.size)))))
  refine ⟨by rw [runV_set G k x hk, List.length_set]; exact s5, fun q hq => ?_, h.low, Nat.le_trans h.low2 (Nat.le_trans b0.size (Nat.le_trans b1.size (Nat.le_trans b2.size (Nat.le_trans b3.size (Nat.le_trans b4.size b5.size))))), h.bel.trans (b0.trans (b1.trans (b2.trans (b3.trans (b4.trans b5)))))⟩
  rcases List.mem_or_eq_of_mem_set hq with h1 | rfl
  · exact h.els q h1
  · exact hx

theorem wpList_appD {ops : Array Oper} {rest : List Oper} {o : Oper} {a : Act} {w : World} {Q : Exit → Act → World → Prop} (hgd : o.guard = Option.none) (s x : Operand)
    (ho : o.op = .call { callee := .builtin .append, args := #[s, x], argTypes := #[45, 45] })
    {base : Nat} {v : Value} {n : Nat} {xs : List Value} (hs : a.eval s = v) (hown : w.ownsRow base 25 6 v n xs) {src : Value} {m : Nat} {news : List Value} (hx : a.eval x = src)
    (hsrc : (src = .slice Option.none 0 0 ∧ m = 0 ∧ news = []) ∨ ∃ ad c, src = .slice (some ad) m c ∧ ∀ j u, news[j]? = some u → w.cell? (ad.add j) = some u)
    (hl : news.length = m * 6) (hone : ∀ u ∈ news, u.oneCell' = true) (hb : n + m ≤ 1000000) (hbase : base ≤ w.heap.size)
    (h : ∀ a' c' w', w'.ownsRow base 25 6 (.slice a' (n + m) c') (n + m) (xs ++ news) → w.grownBy w' v.ownBlock → wpList Try.prog ops Q rest (a.put o.dst (.slice a' (n + m) c')) w') :
    wpList Try.prog ops Q (o :: rest) a w := by
  obtain ⟨a', c', w', hr, h2, h3⟩ := run_appD hown hsrc hl hone hb hbase o.type
  refine wpList_plain hgd fun K hK => ?_
  unfold Oper.wp execOp
  simp only [ho, resolve, invoke, builtin, Sem.run_bind, Sem.run_pure, Result.andThen_ok, List.map_toArray, List.map_cons, List.map_nil, hs, hx, hr]
  exact hK _ _ (h a' c' w' h2 h3)

/-- the first append of the insertion: a fresh row takes the beginning -/
theorem ins_one {B Bq m c : Nat} {w W V : World} {t out : Value} {g : Option Addr} {G : List Gr} (hE : DF Bq w W t []) (hO : DF B w W out G) (hlt : ∀ x, out.ownBlock = some x → x < Bq) (hg : W.grownBy V t.ownBlock) (hm : m ≤ G.length)
    (hown : V.ownsRow Bq 25 6 (.slice g (0 + m) c) (0 + m) ([] ++ runV (G.take m))) : DF Bq w V (.slice g m c) (G.take m) ∧ DF B w V out G := by
  constructor
  · have := hE.app (M := G.take m) (vn := .slice g m c) (DF.take hO.els) hg (by
      rw [List.length_nil, List.length_take, Nat.min_eq_left hm]
      rw [Nat.zero_add] at hown ⊢
      simpa [runV] using hown)
    simpa using this
  · exact hO.beside hg hlt (fun x hx => (hE.own.lt x hx).1) hE.low

/-- the second one: a run of its own behind it -/
theorem ins_two {B Bq m c : Nat} {w W V : World} {t out : Value} {g : Option Addr} {G M : List Gr} {x : Gr} (hE : DF Bq w W t M) (hml : M.length = m) (hO : DF B w W out G) (hlt : ∀ x, out.ownBlock = some x → x < Bq) (hg : W.grownBy V t.ownBlock)
    (hx : (∃ ai ni ci af nf cf, x.2 = (Value.slice ai ni ci, Value.slice af nf cf)) ∧ InRow w x.2.1 x.1.ins ∧ FdRow w x.2.2 x.1.found)
    (hown : V.ownsRow Bq 25 6 (.slice g (m + 1) c) (m + 1) (runV M ++ [.string x.1.out, .string x.1.cmd, .int .i64 x.1.time, .int .i64 x.1.mark, x.2.1, x.2.2])) : DF Bq w V (.slice g (m + 1) c) (M ++ [x]) ∧ DF B w V out G := by
  subst hml
  constructor
  · exact hE.app (M := [x]) (by simpa using hx) hg (by simpa [runV] using hown)
  · exact hO.beside hg hlt (fun x hx => (hE.own.lt x hx).1) hE.low

theorem cells_kept {W V : World} {b : Nat} {t : Value} {news : List Value} (h : ∀ j u, news[j]? = some u → W.cell? ((⟨b, 0, Option.none⟩ : Addr).add j) = some u) (hb : b < W.heap.size) (hne : t.ownBlock ≠ some b) (hg : W.grownBy V t.ownBlock) : ∀ j u, news[j]? = some u → V.cell? ((⟨b, 0, Option.none⟩ : Addr).add j) = some u := fun j u hu => by
  have := h j u hu
  rw [Go.WideShapes.add_plain] at this ⊢
  exact (cell_of_block (hg.block b hb fun e => hne e.symm)).trans this

theorem df_empty {w W : World} (h : Below w.heap.size w W) {B : Nat} (hB : B ≤ W.heap.size) (hw : w.heap.size ≤ B) : DF B w (W.alloc (.cells #[] 25)) (.slice (some ⟨W.heap.size, 0, Option.none⟩) 0 0) [] :=
  ⟨World.ownsRow_lit W #[] 0 hB (by unfold maxLen; omega) rfl, by simp, hw, by rw [World.size_alloc]; omega, h.alloc h.size _⟩

theorem ne_alloc {W : World} {ob : Obj} {n c : Nat} : (Value.slice (some ⟨W.heap.size, 0, Option.none⟩) n c).ownBlock ≠ some (W.alloc ob).heap.size := fun e => by
  have e2 : W.heap.size = (W.alloc ob).heap.size := Option.some.inj e
  have e3 : (W.alloc ob).heap.size = W.heap.size + 1 := Array.size_push _
  omega
theorem ne_alloc2 {W : World} {ob : Obj} {n c : Nat} : (Value.slice (some ⟨(W.alloc ob).heap.size, 0, Option.none⟩) n c).ownBlock ≠ some W.heap.size := fun e => by
  have e2 : (W.alloc ob).heap.size = W.heap.size := Option.some.inj e
  have e3 : (W.alloc ob).heap.size = W.heap.size + 1 := Array.size_push _
  omega
theorem lt_alloc2 {W : World} {ob ob2 : Obj} : (W.alloc ob).heap.size < ((W.alloc ob).alloc ob2).drew.heap.size := by
  have e3 : ((W.alloc ob).alloc ob2).drew.heap.size = (W.alloc ob).heap.size + 1 := Array.size_push _
  omega
theorem lt_alloc3 {W : World} {ob ob2 : Obj} : W.heap.size < ((W.alloc ob).alloc ob2).drew.heap.size := by
  have e3 : ((W.alloc ob).alloc ob2).drew.heap.size = (W.alloc ob).heap.size + 1 := Array.size_push _
  have e4 : (W.alloc ob).heap.size = W.heap.size + 1 := Array.size_push _
  omega

theorem run_newsE (W : World) (r : Run) (vi vf : Value) : (∀ j u, [Value.string r.out, .string r.cmd, .int .i64 r.time, .int .i64 r.mark, vi, vf][j]? = some u → (W.alloc (.cells #[.string r.out, .string r.cmd, .int .i64 r.time, .int .i64 r.mark, vi, vf] 25)).cell? ((⟨W.heap.size, 0, Option.none⟩ : Addr).add j) = some u) :=
  fun j u hu => World.news_of_block (w := W.alloc (.cells #[.string r.out, .string r.cmd, .int .i64 r.time, .int .i64 r.mark, vi, vf] 25)) (cs := #[.string r.out, .string r.cmd, .int .i64 r.time, .int .i64 r.mark, vi, vf]) (t := 25) (fr := (0, 0)) (heap_alloc_new W _) j u hu
theorem run_oneE (r : Run) (ai af : Option Addr) (ni ci nf cf : Nat) : ∀ u ∈ [Value.string r.out, .string r.cmd, .int .i64 r.time, .int .i64 r.mark, .slice ai ni ci, .slice af nf cf], u.oneCell' = true := by
  intro u hu
  simp at hu
  rcases hu with rfl | rfl | rfl | rfl | rfl | rfl <;> rfl
end Go.Proofs.Ytdijpoemimebmaa.Rn
