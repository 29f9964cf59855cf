/-
  serve, whatever the verb.
-/
import Derived.Test.YtgledabcfonbeaaGreatDoorCkReadA
import Derived.Test.YtgledabcfonbeaaGreatDoorCkJ11
import Derived.Test.YtgledabcfonbeaaGreatDoorCkJ12
namespace Go.Proofs.YtgledabcfonbeaaGreatDoor.Df
open Go.RowKit Go.Maps Go.Proofs.YtgledabcfonbeaaGreatDoor

theorem step_run2 {ops : Array Oper} {o : Oper} {a : Act} {w w' : World} {K : Act → World → Prop} {Q : Exit → Act → World → Prop} {E : Prop} (hgd : o.guard = none) (s x : Operand) {t u : TypeId}
    (ho : o.op = .call { callee := .builtin .append, args := #[s, x], argTypes := #[t, u] }) {v src v' : Value} (hs : a.eval s = v) (hx : a.eval x = src)
    (hr : (Builtin.append_ #[t, u] o.type #[v, src]).run Tryz.prog w = .ok v' w') (h : K (a.put o.dst v') w') :
    if Region.wanted o (yielded ops a.tmps) = true then Oper.wp Tryz.prog o a w K Q else E := by
  rw [if_pos (by simp [Region.wanted, hgd])]
  unfold Oper.wp execOp
  simp only [ho, resolve, invoke, builtin, Sem.run_bind, Sem.run_pure, Result.andThen_ok, List.map_toArray, List.map_cons, List.map_nil, hs, hx, hr]
  exact h

/-! ### a row of files of the call's own -/
theorem infoFile : (Tryz.prog.info? 52).map (fun i => (i.zero, i.size, i.bytes)) = some (some zFile, 2, 40) := by kernel_rfl
def fcells (L : List (Bs × Value)) : List Value := L.flatMap fun p => [.string (mk p.1), p.2]
theorem fcells_len (L : List (Bs × Value)) : (fcells L).length = L.length * 2 := by
  induction L with
  | nil => rfl
  | cons p L ih => simp [fcells] at ih ⊢; omega
theorem fcells_snoc (L : List (Bs × Value)) (p : Bs × Value) : fcells (L ++ [p]) = fcells L ++ [.string (mk p.1), p.2] := by simp [fcells]

set_option maxRecDepth 100000 in
theorem run_appF {W : World} {base : Nat} {a : Option Addr} {c : Nat} {L : List (Bs × Value)} (h : W.ownsRow base 52 2 (.slice a L.length c) L.length (fcells L)) (hbw : base ≤ W.heap.size) (hL : L.length ≤ 1000000) (o : Bs) {ba : Option Addr} {bn bc : Nat} :
    ∃ a' c' w', (Builtin.append_ #[27, 27] 27 #[.slice a L.length c, .slice (some ⟨W.heap.size, 0, none⟩) 1 1]).run Tryz.prog (W.alloc (.cells #[.string (mk o), .slice ba bn bc] 52)) = .ok (.slice a' (L ++ [(o, Value.slice ba bn bc)]).length c') w' ∧
      w'.ownsRow base 52 2 (.slice a' (L ++ [(o, Value.slice ba bn bc)]).length c') (L ++ [(o, Value.slice ba bn bc)]).length (fcells (L ++ [(o, Value.slice ba bn bc)])) ∧ (W.alloc (.cells #[.string (mk o), .slice ba bn bc] 52)).grownBy w' (Value.slice a L.length c).ownBlock := by
  obtain ⟨i0, hi, hz0, hz1, hz2⟩ := info_parts infoFile
  have hb1 := below_alloc W (.cells #[.string (mk o), .slice ba bn bc] 52)
  have h1 := owns_below h hb1
  have hnew : (W.alloc (.cells #[.string (mk o), .slice ba bn bc] 52)).heap[W.heap.size]? = some (.cells #[.string (mk o), .slice ba bn bc] 52 (0, 0)) := heap_alloc_new _ _
  obtain ⟨v', w', hrun, hown, hg, _⟩ := run_append_own (P := Tryz.prog) (W.alloc (.cells #[.string (mk o), .slice ba bn bc] 52)) base 27 27 52 i0 zFile 2 40 Tryz.underlying27 hi hz0 hz1 hz2 rfl (by decide) _ _ (fcells L) h1 ⟨W.heap.size, 0, none⟩ 1 1 [.string (mk o), .slice ba bn bc] rfl (fun j u hj => by
      rw [Go.WideShapes.add_plain]
      match j, hj with
      | 0, hj => cases hj; exact (cell_of_heap hnew).trans rfl
      | 1, hj => cases hj; exact (cell_of_heap hnew).trans rfl) (fun u hu => by simp at hu; rcases hu with rfl | rfl <;> rfl) (by unfold maxLen; omega) (by omega) (by have := hb1.size; omega)
  have e : (L ++ [(o, Value.slice ba bn bc)]).length = L.length + 1 := by simp
  have h3 : w'.ownsRow base 52 2 v' (L ++ [(o, Value.slice ba bn bc)]).length (fcells (L ++ [(o, Value.slice ba bn bc)])) := by rw [fcells_snoc, e]; exact hown
  obtain ⟨a', c', rfl⟩ := own_slice h3
  exact ⟨a', c', w', hrun, h3, hg⟩

/-- bytes of the call's own somewhere -/
def OB (W : World) (v : Value) (r : Bs) : Prop := ∃ base, W.ownsRow base 5 1 v r.length (bytesV r)
theorem OB.kept {W W' : World} {v : Value} {r : Bs} (h : OB W v r) (hk : ∀ (g : Nat) (cur : Array Value), W.heap[g]? = some (Obj.cells cur 5 (0, 0)) → W'.heap[g]? = W.heap[g]?) : OB W' v r := by
  obtain ⟨base, h⟩ := h
  refine ⟨base, owns_kept h fun g hg => ?_⟩
  obtain ⟨_, cur, hc⟩ := owns_block h hg
  exact hk g cur hc
theorem OB.below {W W' : World} {v : Value} {r : Bs} (h : OB W v r) (hb : Below W.heap.size W W') : OB W' v r := h.kept fun g _ hc => hb.block g (lt_some hc)


/-- nothing of what lay below B has turned, but for k and m -/
structure Lw (B k m : Nat) (W W' : World) : Prop where
  os : W'.os = W.os
  tape : W'.tape = W.tape
  output : W'.output = W.output
  size : W.heap.size ≤ W'.heap.size
  low : ∀ q, q < B → q ≠ k → q ≠ m → W'.heap[q]? = W.heap[q]?
section
variable {B k m : Nat} {W W' W2 : World}
theorem Fp.lw {X : List TypeId} (h : Fp B k m X W W') : Lw B k m W W' := ⟨h.os, h.tape, h.output, h.size, h.low⟩
theorem Lw.trans (h : Lw B k m W W') (h2 : Lw B k m W' W2) : Lw B k m W W2 :=
  ⟨h2.os.trans h.os, h2.tape.trans h.tape, h2.output.trans h.output, Nat.le_trans h.size h2.size, fun q h1 h3 h4 => (h2.low q h1 h3 h4).trans (h.low q h1 h3 h4)⟩
theorem Lw.of_below (h : Below W.heap.size W W') (hB : B ≤ W.heap.size) : Lw B k m W W' := ⟨h.os, h.tape, h.output, h.size, fun q hq _ _ => h.block q (Nat.lt_of_lt_of_le hq hB)⟩
theorem Lw.of_grown {own : Option Nat} (hg : W.grownBy W' own) (hB : B ≤ W.heap.size) (ho : ∀ g, own = some g → B ≤ g) : Lw B k m W W' :=
  ⟨hg.os, hg.tape, hg.output, hg.size, fun q hq _ _ => hg.block q (Nat.lt_of_lt_of_le hq hB) (fun e => by have := ho q e.symm; omega)⟩
theorem Lw.set (h : Lw B k m W W') {p j : Nat} {u : Value} (hp : B ≤ p) : Lw B k m W (W'.setCell ⟨p, j, none⟩ u) :=
  ⟨h.os, h.tape, h.output, by rw [World.size_setCell]; exact h.size, fun q hq h1 h2 => (set_other (by omega)).trans (h.low q hq h1 h2)⟩
/-- a row of names that lay there stays -/
theorem Strs.lw {m0 m1 m2 a2 a3 : Nat} {o1 : Option Addr} {n : Int} {v : Value} {K : List Bs} {es : Array MapEntry} {c : Nat} (h : Strs W v K) (hp : Lw B k m W W') (hB : W.heap.size ≤ B) (hk : W.heap[k]? = some (KtO m0 m1 n (.slice o1 a2 a3) m2)) (hm : W.heap[m]? = some (.map es c)) : Strs W' v K := by
  obtain ⟨a, c, rfl, hc, hrow⟩ := h
  refine ⟨a, c, rfl, hc, ?_⟩
  rcases hrow with h | ⟨g, off, rfl, hg, hcell⟩
  · exact .inl h
  cases K with
  | nil => exact .inl rfl
  | cons x r =>
    have h0 := hcell 0 x rfl
    have hgk : g ≠ k := fun e => by
      subst e
      have h1 : (#[Value.map (some m0), .map (some m1), .int .i64 n, .slice o1 a2 a3, .map (some m2)] : Array Value)[off + 0]? = some (.string (mk x)) := by
        rw [← h0]
        simp [World.cell?, hk, KtO]
      generalize off + 0 = i at h1
      match i, h1 with
      | 0, h1 => cases h1
      | 1, h1 => cases h1
      | 2, h1 => cases h1
      | 3, h1 => cases h1
      | 4, h1 => cases h1
      | i + 5, h1 => simp at h1
    have hgm : g ≠ m := fun e => by
      subst e
      simp [World.cell?, hm] at h0
    have hk := hp.low g (Nat.lt_of_lt_of_le hg hB) hgk hgm
    exact .inr ⟨g, off, rfl, Nat.lt_of_lt_of_le hg hp.size, fun j p hj => (cell_of_block hk).trans (hcell j p hj)⟩
end

/-- all that is of no type of X is as it was -/
structure Kp (X : List TypeId) (W W' : World) : Prop where
  size : W.heap.size ≤ W'.heap.size
  keep : ∀ (g : Nat) (ob : Obj), W.heap[g]? = some ob → (∀ C t fz, ob = Obj.cells C t fz → t ∉ X) → W'.heap[g]? = some ob
section
variable {X : List TypeId} {W W' W2 : World}
theorem Kp.refl (X : List TypeId) (W : World) : Kp X W W := ⟨Nat.le_refl _, fun _ _ h _ => h⟩
theorem Kp.trans (h : Kp X W W') (h2 : Kp X W' W2) : Kp X W W2 := ⟨Nat.le_trans h.size h2.size, fun g ob hg hx => h2.keep g ob (h.keep g ob hg hx) hx⟩
theorem Kp.of_below (h : Below W.heap.size W W') : Kp X W W' := ⟨h.size, fun g _ hg _ => (h.block g (lt_some hg)).trans hg⟩
theorem Kp.of_grown {own : Option Nat} {t0 : TypeId} (hg : W.grownBy W' own) (ho : ∀ g, own = some g → ∃ cur fz, W.heap[g]? = some (Obj.cells cur t0 fz)) (ht : t0 ∈ X) : Kp X W W' :=
  ⟨hg.size, fun g ob hob hx => (hg.block g (lt_some hob) (fun e => by
    obtain ⟨cur, fz, hc⟩ := ho g e.symm
    rw [hob] at hc
    exact hx _ _ _ (Option.some.inj hc) ht)).trans hob⟩
theorem Kp.set {p j : Nat} {u : Value} {C : Array Value} {t0 : TypeId} {fz : Nat × Nat} (hp : W.heap[p]? = some (Obj.cells C t0 fz)) (ht : t0 ∈ X) : Kp X W (W.setCell ⟨p, j, none⟩ u) :=
  ⟨by rw [World.size_setCell]; exact Nat.le_refl _, fun g ob hob hx => (set_other (fun e => by
    subst e
    rw [hob] at hp
    exact hx _ _ _ (Option.some.inj hp) ht)).trans hob⟩
theorem Kp.ov {v : Value} {r : Bs} (h : Kp X W W') (h5 : (5 : TypeId) ∉ X) (ho : OV W v r) : OV W' v r :=
  ho.kept fun g cur fz hc => (h.keep g _ hc (fun C t f e => by cases e; exact h5)).trans hc.symm
theorem Kp.ob {v : Value} {r : Bs} (h : Kp X W W') (h5 : (5 : TypeId) ∉ X) (ho : OB W v r) : OB W' v r :=
  ho.kept fun g cur hc => (h.keep g _ hc (fun C t f e => by cases e; exact h5)).trans hc.symm
theorem Kp.kw {B k m0 m1 m2 n : Nat} {found : List Bs} (h : Kp X W W') (h9 : (9 : TypeId) ∉ X) (hk : 84 ∉ X) (hw : Kw B k m0 m1 m2 n found W) : Kw B k m0 m1 m2 n found W' := by
  obtain ⟨fa, fc, n2, h1, h2, h3, h4⟩ := hw
  refine ⟨fa, fc, n2, h.keep _ _ h1 (fun C t f e => by cases e; exact hk), owns_kept h2 fun g hg => ?_, ?_, h4⟩
  · obtain ⟨_, cur, hc⟩ := owns_block h2 hg
    exact (h.keep g _ hc (fun C t f e => by cases e; exact h9)).trans hc.symm
  · obtain ⟨es, c, hm⟩ := h3.map
    exact h3.kept ((h.keep _ _ hm (fun C t f e => by cases e)).trans hm.symm)
end

/-- what is told of what was found -/
def depsT (o : Cmd) (found : List Bs) : Bs := if o.dep = [] then [] else if (badL (o.outs.headD []) || found.any badL) = true then [] else txt (o.outs.headD []) found ++ [10]
/-- a dish: outputs, all with the bytes r -/
def DiV (W : World) (base : Nat) (o : Cmd) (p : Bs × List Bs) (v : Value) : Prop :=
  ∃ (a : Option Addr) (c : Nat) (L : List (Bs × Value)), v = .agg #[.slice a L.length c, .bool o.once, .string (mk o.dep), .string (mk (depsT o p.2))] ∧ L.map Prod.fst = o.outs ∧ (∀ q ∈ L, OB W q.2 p.1) ∧ W.ownsRow base 52 2 (.slice a L.length c) L.length (fcells L)
def SeQ (w : World) (k m : Nat) (o : Cmd) (p : Option (Bs × List Bs)) (e : Ending) (w' : World) : Prop :=
  Fa p (fun p e => ∃ v, e = .returned v ∧ DiV w' w.heap.size o p v) e ∧ Lw w.heap.size k m w w'
def zDish : Array Value := #[.slice none 0 0, .bool false, .string ⟨#[]⟩, .string ⟨#[]⟩]

set_option maxRecDepth 100000 in
set_option maxHeartbeats 16000000 in
theorem serve_a {w : World} {k m0 m1 m2 n0 n1 : Nat} {decl : List Bs} {T : List Value} {F' : Bs → Option Value} {F : Bs → Option Bs} (hkf : Kf w k m0 m1 m2 decl n0 T F' n1 F) (o : Cmd) {kf : Nat} (hv : verbF o.verb = some kf) {p : Option (Bs × List Bs)}
    (hent : ∀ (ar : Array Value) (W : World), (callFunc kf ar).run Tryz.prog W = .ok (.enter kf ar) W)
    (hc : ∀ W, Below w.heap.size w W → ∀ av, Strs W av o.args → Calls Tryz.prog kf #[.pointer (some ⟨k, 0, none⟩), av] W (VbQ W k m0 m1 m2 p))
    {av ov : Value} (hav : Strs w av o.args) (ho : Strs w ov o.outs) (hol : o.outs.length ≤ 1000000) (hne : o.outs ≠ []) (hvl : o.verb.length ≤ 1000000) (hox : ∀ x ∈ o.outs, x.length ≤ 200)
    (hp : ∀ b f, p = some (b, f) → b.length ≤ 1000000 ∧ f.length ≤ 1000 ∧ ∀ x ∈ f, x.length ≤ 100) :
    Calls Tryz.prog 24 #[.pointer (some ⟨k, 0, none⟩), .agg #[.bool o.once, .string (mk o.verb), av, ov, .string (mk o.dep)]] w (SeQ w k m2 o p) := by
  have HC := Lib.hid hc
  have HO := Lib.hid ho
  have HAV := Lib.hid hav
  have HV := Lib.hid hv
  have HPP := Lib.hid hp
  have HKF := Lib.hid hkf
  have HNE := Lib.hid hne
  have HOX := Lib.hid hox
  obtain ⟨aa, ac, rfl, -, -⟩ := hav
  obtain ⟨oa, oc, rfl, -, -⟩ := ho
  obtain ⟨wa, hwa⟩ : ∃ W, w.alloc (.cells #[.bool o.once, .string (mk o.verb), .slice aa o.args.length ac, .slice oa o.outs.length oc, .string (mk o.dep)] 59) = W := ⟨_, rfl⟩
  obtain ⟨wA, hwA⟩ : ∃ W, wa.alloc (.cells #[.slice none 0 0, .bool false, .string ⟨#[]⟩, .string ⟨#[]⟩] 36) = W := ⟨_, rfl⟩
  have ba : Below w.heap.size w wa := by rw [← hwa]; exact below_alloc _ _
  have bA : Below wa.heap.size wa wA := by rw [← hwA]; exact below_alloc _ _
  have hp3a : wa.heap[w.heap.size]? = some (.cells #[.bool o.once, .string (mk o.verb), .slice aa o.args.length ac, .slice oa o.outs.length oc, .string (mk o.dep)] 59 (0, 0)) := by rw [← hwa]; exact heap_alloc_new _ _
  have hp3 := (bA.block _ (lt_some hp3a)).trans hp3a
  have hp4 : wA.heap[wa.heap.size]? = some (.cells zDish 36 (0, 0)) := by rw [← hwA]; exact heap_alloc_new _ _
  have HSZ0 := Lib.hid (lt_some hp3a)
  have HBA := Lib.hid (ba.trans (bA.mono ba.size))
  have HP3 := Lib.hid hp3
  have HP4 := Lib.hid hp4
  have cv := verbs_c wA.drew
  have c1 : wA.drew.cell? ⟨w.heap.size, 1, none⟩ = some (.string (mk o.verb)) := cell_of_heap (w := wA.drew) hp3
  have c2 : wA.drew.cell? ⟨w.heap.size, 2, none⟩ = some (.slice aa o.args.length ac) := cell_of_heap (w := wA.drew) hp3
  have C12 : wA.drew.cell? ⟨w.heap.size, 1, none⟩ = some (.string (mk o.verb)) ∧ wA.drew.cell? ⟨w.heap.size, 2, none⟩ = some (.slice aa o.args.length ac) := ⟨c1, c2⟩
  have HCC : Hid (∀ W, Below wA.drew.heap.size wA.drew W → W.cell? ⟨w.heap.size, 1, none⟩ = some (.string (mk o.verb)) ∧ W.cell? ⟨w.heap.size, 2, none⟩ = some (.slice aa o.args.length ac)) := Lib.hid fun W hW => ⟨(cell_of_block (hW.block _ (lt_some hp3))).trans c1, (cell_of_block (hW.block _ (lt_some hp3))).trans c2⟩
  have hklt : k < w.heap.size := lt_some HKF.out.new
  have hmlt : m2 < w.heap.size := HKF.out.set.lt
  clear hc ba bA hp3a hp3 hp4 c1 c2 hv hp hkf hne hox
  go_enter Tryz.func24, Tryz.ntmps24
  go_wp2_with fail
  clear hwa hwA
  refine Nt.wp_region_N 8 (fun w' => w'.cell? ⟨w.heap.size, 1, none⟩ = some (.string (mk o.verb)) ∧ w'.cell? ⟨w.heap.size, 2, none⟩ = some (.slice aa o.args.length ac)) (by kernel_rfl) ?_
  refine Nt.takeT (i := 1) (oi := { dst := some 10, op := Op.fieldAddr 59 (Operand.tmp 3) 1, type := 0, pos := _, after := #[], guard := Option.none }) (v := ?_) rfl (by kernel_rfl) (by kernel_rfl) (by kernel_rfl) (by kernel_rfl) (fun _ _ _ h => h) (Or.inl ⟨by rfl, ?_⟩) (fun _ => C12) ?_
  rotate_left 1
  · intro w hSw
    try dsimp only at hSw
    go_simp
    first | done | with_reducible rfl
  try simp only [Act.put, List.setIfInBounds_toArray, List.set_cons_zero, List.set_cons_succ]
  refine Nt.takeS (i := 2) (oi := { dst := some 11, op := Op.load 9 (Operand.tmp 10), type := 9, pos := _, after := #[{ on := 1, ground := Ground.data }], guard := Option.none }) (v := ?_) rfl (by kernel_rfl) (by kernel_rfl) (by kernel_rfl) (by kernel_rfl) (by kernel_rfl) (by kernel_rfl) (fun _ _ _ h => h) (Or.inl ⟨by rfl, ?_⟩) C12 ?_
  rotate_left 1
  · intro w hSw
    try dsimp only at hSw
    go_simp
    first | done | with_reducible rfl
  try simp only [Act.put, List.setIfInBounds_toArray, List.set_cons_zero, List.set_cons_succ]
  refine Nt.takeT (i := 4) (oi := { dst := some 13, op := Op.move (Operand.tmp 0), type := 61, pos := _, after := #[], guard := Option.none }) (v := ?_) rfl (by kernel_rfl) (by kernel_rfl) (by kernel_rfl) (by kernel_rfl) (fun _ _ _ h => h) (Or.inl ⟨by rfl, ?_⟩) (fun _ => C12) ?_
  rotate_left 1
  · intro w hSw
    try dsimp only at hSw
    go_simp
    first | done | with_reducible rfl
  try simp only [Act.put, List.setIfInBounds_toArray, List.set_cons_zero, List.set_cons_succ]
  refine Nt.takeT (i := 5) (oi := { dst := some 14, op := Op.fieldAddr 59 (Operand.tmp 3) 2, type := 0, pos := _, after := #[], guard := Option.none }) (v := ?_) rfl (by kernel_rfl) (by kernel_rfl) (by kernel_rfl) (by kernel_rfl) (fun _ _ _ h => h) (Or.inl ⟨by rfl, ?_⟩) (fun _ => C12) ?_
  rotate_left 1
  · intro w hSw
    try dsimp only at hSw
    go_simp
    first | done | with_reducible rfl
  try simp only [Act.put, List.setIfInBounds_toArray, List.set_cons_zero, List.set_cons_succ]
  refine Nt.takeS (i := 6) (oi := { dst := some 15, op := Op.load 32 (Operand.tmp 14), type := 32, pos := _, after := #[{ on := 5, ground := Ground.data }], guard := Option.none }) (v := ?_) rfl (by kernel_rfl) (by kernel_rfl) (by kernel_rfl) (by kernel_rfl) (by kernel_rfl) (by kernel_rfl) (fun _ _ _ h => h) (Or.inl ⟨by rfl, ?_⟩) C12 ?_
  rotate_left 1
  · intro w hSw
    try dsimp only at hSw
    go_simp
    first | done | with_reducible rfl
  try simp only [Act.put, List.setIfInBounds_toArray, List.set_cons_zero, List.set_cons_succ]
  refine Nt.nextN (i := 0) (by kernel_rfl) rfl (fun K hK => ?_)
  go_simp
  go_at_call 33
  (with_reducible refine cv.mono ?_)
  rintro e w6 ⟨m6, rfl, hf6, hlo6, hb6⟩
  have HB6 := Lib.hid hb6
  have CX := HCC.out _ hb6
  have hlk : (Instr.lookup 78 (.map (some m6)) (.string (mk o.verb)) false).run Tryz.prog w6 = .ok (.func (.func kf) #[] #[]) w6 := hf6.look (s := o.verb) (by unfold maxLen; omega) HV.out
  have HW6 : Hid (Below w.heap.size w w6) := Lib.hid (HBA.out.trans (show Below w.heap.size wA w6 from ⟨hb6.os, hb6.tape, hb6.output, hb6.size, fun q hq => hb6.block q (Nat.lt_of_lt_of_le hq HBA.out.size)⟩))
  have cc := HC.out w6 HW6.out _ (HAV.out.below HW6.out)
  clear hb6 hf6 hlo6
  refine hK.out _ _ (fun _ => CX) ?_
  clear hK K
  try simp only [Act.put, List.setIfInBounds_toArray, List.set_cons_zero, List.set_cons_succ]
  refine Nt.nextN (i := 3) (by kernel_rfl) rfl (fun K hK => ?_)
  go_simp
  refine hK.out _ _ (fun _ => CX) ?_
  clear hK K
  try simp only [Act.put, List.setIfInBounds_toArray, List.set_cons_zero, List.set_cons_succ]
  refine Nt.nextN (i := 7) (by kernel_rfl) rfl (fun K hK => ?_)
  go_simp
  (with_reducible refine cc.mono ?_)
  rintro e w7 ⟨hq7, hf7⟩
  have HF7 := Lib.hid hf7
  have HL7 : Hid (Lw w.heap.size k m2 w w7) := Lib.hid ((Lw.of_below HW6.out (Nat.le_refl _)).trans ((hf7.lower HW6.out.size).lw))
  cases p with
  | none =>
    obtain rfl : e = .panicked pch := hq7
    exact ⟨rfl, rfl, HL7.out⟩
  | some p =>
  obtain ⟨⟨bv, rfl, hov7⟩, nK, hkw7⟩ := hq7
  have HOV7 := Lib.hid hov7
  have HKW7 := Lib.hid hkw7
  have hp36 := (HB6.out.block _ (lt_some HP3.out)).trans HP3.out
  have hp46 := (HB6.out.block _ (lt_some HP4.out)).trans HP4.out
  have hp37 := (HF7.out.low _ (lt_some hp36) (by omega) (by omega)).trans hp36
  have hp47 := (HF7.out.low _ (lt_some hp46) (by have := HSZ0.out; omega) (by have := HSZ0.out; omega)).trans hp46
  have CY : w7.cell? ⟨w.heap.size, 1, none⟩ = some (.string (mk o.verb)) ∧ w7.cell? ⟨w.heap.size, 2, none⟩ = some (.slice aa o.args.length ac) := ⟨cell_of_heap hp37, cell_of_heap hp37⟩
  have HP37 := Lib.hid hp37
  have HP47 := Lib.hid hp47
  clear hov7 hkw7 hf7 hlk cc hent hp36 hp46 hp37 hp47
  refine hK.out _ _ (fun _ => CY) ?_
  clear hK K
  try simp only [Act.put, List.setIfInBounds_toArray, List.set_cons_zero, List.set_cons_succ]
  refine Nt.nextN (i := 8) (by kernel_rfl) rfl (fun K hK => ?_)
  go_simp
  refine hK.out _ _ (fun h => by simp at h) ?_
  clear hK K
  try simp only [Act.put, List.setIfInBounds_toArray, List.set_cons_zero, List.set_cons_succ]
  refine Nt.doneN (by kernel_rfl) ?_ _
  have hp37 := HP37.out
  obtain ⟨wB, hwB⟩ : ∃ W, w7.alloc (.cells #[.slice none 0 0, .bool o.once, .string (mk o.dep), .string ⟨#[]⟩] 36) = W := ⟨_, rfl⟩
  have bB : Below w7.heap.size w7 wB := by rw [← hwB]; exact below_alloc _ _
  have hp6 : wB.heap[w7.heap.size]? = some (.cells #[.slice none 0 0, .bool o.once, .string (mk o.dep), .string ⟨#[]⟩] 36 (0, 0)) := by rw [← hwB]; exact heap_alloc_new _ _
  have d0 : w7.cell? ⟨w.heap.size, 0, none⟩ = some (.bool o.once) := cell_of_heap hp37
  have d4 : w7.cell? ⟨w.heap.size, 4, none⟩ = some (.string (mk o.dep)) := cell_of_heap hp37
  have hp3B := (bB.block _ (lt_some hp37)).trans hp37
  have d3 : (w7.alloc (.cells #[.slice none 0 0, .bool o.once, .string (mk o.dep), .string ⟨#[]⟩] 36)).cell? ⟨w.heap.size, 3, none⟩ = some (.slice oa o.outs.length oc) := by rw [hwB]; exact cell_of_heap hp3B
  have HWB := Lib.hid hwB
  have HP6 := Lib.hid hp6
  have HP4B := Lib.hid ((bB.block _ (lt_some HP47.out)).trans HP47.out)
  have HP3B := Lib.hid hp3B
  have HLB := Lib.hid (HL7.out.trans (Lw.of_below bB HL7.out.size))
  have HBV0 : Hid (OV wB bv p.1) := Lib.hid (HOV7.out.below bB)
  have HKWB := Lib.hid (HKW7.out.below bB)
  obtain ⟨va, vc, rfl⟩ := HOV7.out.slice
  have HSZ : Hid (w.heap.size < wa.heap.size ∧ wa.heap.size < w7.heap.size) := Lib.hid ⟨HSZ0.out, lt_some HP47.out⟩
  have HW6S : Hid (w.heap.size ≤ w6.heap.size) := Lib.hid HW6.out.size
  clear CX C12 CY HF7 hwB hp6 bB hp3B hp37 cv HCC
  go_wp2_with fail
  rw [HWB.out]
  clear d0 d3 d4
  have hol2 : o.outs.length ≤ 1000000 := hol
  go_loopw [8, 25] (fun _ i wr => ∃ (j : Nat) (L : List (Bs × Value)) (fa : Option Addr) (fc : Nat), j ≤ o.outs.length ∧ i = .int .i64 j ∧ Hid (L.map Prod.fst = o.outs.take j) ∧ Hid (∀ q ∈ L, OB wr q.2 p.1) ∧ Hid (wr.ownsRow w.heap.size 52 2 (.slice fa L.length fc) L.length (fcells L)) ∧ Hid (wr.heap[w7.heap.size]? = some (.cells #[.slice fa L.length fc, .bool o.once, .string (mk o.dep), .string ⟨#[]⟩] 36 (0, 0))) ∧ Hid (Kp [52, 36] wB wr) ∧ Hid (Lw w.heap.size k m2 w wr) ∧
    Hid (wr.heap[wa.heap.size]? = some (.cells zDish 36 (0, 0)))) (fun _ i _ => o.outs.length - (intOf i).toNat)
  case atStart => exact ⟨0, [], none, 0, Nat.zero_le _, rfl, Lib.hid (by simp), Lib.hid (fun p hp => by cases hp), Lib.hid (World.ownsRow_nil _ _ _ _), HP6, Lib.hid (Kp.refl _ _), HLB, HP4B⟩
  case round =>
    have HPX := HP6
    clear HP6 HP4B HLB
    obtain ⟨j, L, fa, fc, hj, rfl, HOL, HOBS, HF, HP6, HKP, HLW, HPO⟩ := hrel
    clear HPX
    by_cases hlt : j < o.outs.length
    · have hx := List.getElem?_eq_getElem hlt
      obtain ⟨_, _, hmap⟩ := HKF.out.kb.mm
      obtain ⟨_, _, e, _, hrow⟩ := HO.out.lw HLW.out (Nat.le_refl _) HKF.out.new hmap
      cases e
      rcases hrow with h0 | ⟨g, off, rfl, hg, hcell⟩
      · rw [h0] at hlt; simp at hlt
      have c0 := hcell j _ hx
      have htk : o.outs.take (j + 1) = o.outs.take j ++ [o.outs[j]] := by rw [List.take_add_one, hx]; rfl
      generalize o.outs[j] = x at *
      have HTK := Lib.hid htk
      have HLL : Hid (L.length ≤ o.outs.length) := Lib.hid (by have := congrArg List.length HOL.out; simp at this; omega)
      have SD : Hid (wr.drew.cell? ⟨w7.heap.size, 0, none⟩ = some (.slice fa L.length fc)) := Lib.hid (cell_of_heap (w := wr.drew) HP6.out)
      have HBV : Hid (OV wr (.slice va p.1.length vc) p.1) := Lib.hid (HKP.out.ov (by decide) HBV0.out)
      have CCL : Hid (Calls Tryz.prog 19 #[.slice va p.1.length vc] wr.drew fun e w' => ∃ v', e = .returned v' ∧ w'.ownsRow wr.drew.heap.size 5 1 v' p.1.length (bytesV p.1) ∧ Below wr.drew.heap.size wr.drew w') := Lib.hid (by
        have h1 : Byt wr.drew (.slice va p.1.length vc) p.1 := HBV.out.1
        exact cloneB_c h1 (HPP.out p.1 p.2 rfl).1)
      have hi0 : (0 : Int) ≤ (j : Int) := by omega
      have hi1 : (j : Int) < (o.outs.length : Int) := by omega
      clear hcell hx htk hmap
      go_wp2_with fail
      refine Nt.wp_region_N 9 (fun w' => w'.cell? ⟨w7.heap.size, 0, none⟩ = some (.slice fa L.length fc)) (by kernel_rfl) ?_
      refine Nt.takeT (i := 0) (oi := { dst := some 29, op := Op.fieldAddr 36 (Operand.tmp 6) 0, type := 0, pos := _, after := #[], guard := Option.none }) (v := ?_) rfl (by kernel_rfl) (by kernel_rfl) (by kernel_rfl) (by kernel_rfl) (fun _ _ _ h => h) (Or.inl ⟨by rfl, ?_⟩) (fun _ => SD.out) ?_
      rotate_left 1
      · intro w hSw
        try dsimp only at hSw
        go_simp
        first | done | with_reducible rfl
      try simp only [Act.put, List.setIfInBounds_toArray, List.set_cons_zero, List.set_cons_succ]
      refine Nt.takeS (i := 1) (oi := { dst := some 30, op := Op.load 27 (Operand.tmp 29), type := 27, pos := _, after := #[{ on := 0, ground := Ground.data }], guard := Option.none }) (v := ?_) rfl (by kernel_rfl) (by kernel_rfl) (by kernel_rfl) (by kernel_rfl) (by kernel_rfl) (by kernel_rfl) (fun _ _ _ h => h) (Or.inl ⟨by rfl, ?_⟩) SD.out ?_
      rotate_left 1
      · intro w hSw
        try dsimp only at hSw
        go_simp
        first | done | with_reducible rfl
      try simp only [Act.put, List.setIfInBounds_toArray, List.set_cons_zero, List.set_cons_succ]
      refine Nt.takeT (i := 2) (oi := { dst := some 31, op := Op.move (Operand.tmp 8), type := 9, pos := _, after := #[], guard := Option.none }) (v := ?_) rfl (by kernel_rfl) (by kernel_rfl) (by kernel_rfl) (by kernel_rfl) (fun _ _ _ h => h) (Or.inl ⟨by rfl, ?_⟩) (fun _ => SD.out) ?_
      rotate_left 1
      · intro w hSw
        try dsimp only at hSw
        go_simp
        first | done | with_reducible rfl
      try simp only [Act.put, List.setIfInBounds_toArray, List.set_cons_zero, List.set_cons_succ]
      refine Nt.takeT (i := 3) (oi := { dst := some 32, op := Op.move (Operand.tmp 5), type := 24, pos := _, after := #[], guard := Option.none }) (v := ?_) rfl (by kernel_rfl) (by kernel_rfl) (by kernel_rfl) (by kernel_rfl) (fun _ _ _ h => h) (Or.inl ⟨by rfl, ?_⟩) (fun _ => SD.out) ?_
      rotate_left 1
      · intro w hSw
        try dsimp only at hSw
        go_simp
        first | done | with_reducible rfl
      try simp only [Act.put, List.setIfInBounds_toArray, List.set_cons_zero, List.set_cons_succ]
      refine Nt.nextN (i := 4) (by kernel_rfl) rfl (fun K hK => ?_)
      go_simp
      go_at_call 19
      refine CCL.out.mono ?_
      rintro e w8 ⟨v8, rfl, hv8, hb8⟩
      obtain ⟨ca, cn, rfl⟩ := own_slice hv8
      have hb8' : Below wr.heap.size wr w8 := ⟨hb8.os, hb8.tape, hb8.output, hb8.size, hb8.block⟩
      have hF8 := owns_below HF.out hb8'
      have hP8 := (hb8'.block _ (lt_some HP6.out)).trans HP6.out
      have hA8 := below_alloc w8 (.cells #[.string (mk x), .slice ca p.1.length cn] 52)
      have hwsz : w.heap.size ≤ w8.heap.size := Nat.le_trans HLW.out.size hb8'.size
      obtain ⟨a9, c9, w9, hrun, hF9, hg9⟩ := run_appF hF8 hwsz (by have := HLL.out; omega) x (ba := ca) (bn := p.1.length) (bc := cn)
      have S8 : Hid (w8.cell? ⟨w7.heap.size, 0, none⟩ = some (.slice fa L.length fc)) := Lib.hid (cell_of_heap hP8)
      have hP8a := (hA8.block _ (lt_some hP8)).trans hP8
      have SA : Hid ((w8.alloc (.cells #[.string (mk x), .slice ca p.1.length cn] 52)).cell? ⟨w7.heap.size, 0, none⟩ = some (.slice fa L.length fc)) := Lib.hid (cell_of_heap hP8a)
      have hown : ∀ g, (Value.slice fa L.length fc).ownBlock = some g → w.heap.size ≤ g ∧ ∃ cur, (w8.alloc (.cells #[.string (mk x), .slice ca p.1.length cn] 52)).heap[g]? = some (Obj.cells cur 52 (0, 0)) := fun g hg => owns_block (owns_below hF8 hA8) hg
      have hdish : ∀ (g : Nat) (C : Array Value), (w8.alloc (.cells #[.string (mk x), .slice ca p.1.length cn] 52)).heap[g]? = some (Obj.cells C 36 (0, 0)) → w9.heap[g]? = some (Obj.cells C 36 (0, 0)) := fun g C hg => (hg9.block g (lt_some hg) (fun e => by
        obtain ⟨_, cur, hc⟩ := hown g e.symm
        rw [hg] at hc
        injection hc with hc
        injection hc with _ hc
        exact absurd hc (by decide))).trans hg
      have hP9 := hdish _ _ hP8a
      have hR9 := hdish _ _ ((hA8.block _ (lt_some ((hb8'.block _ (lt_some HPO.out)).trans HPO.out))).trans ((hb8'.block _ (lt_some HPO.out)).trans HPO.out))
      have S9 : Hid (w9.cell? ⟨w7.heap.size, 0, none⟩ = some (.slice fa L.length fc)) := Lib.hid (cell_of_heap hP9)
      have Z9 : w9.frozen? ⟨w7.heap.size, 0, none⟩ = false := by simp [World.frozen?, hP9]
      have HRUN := Lib.hid hrun
      have HP9 := Lib.hid hP9
      have HR9 := Lib.hid hR9
      have HF9 := Lib.hid hF9
      have HB8 := Lib.hid hb8'
      have HV8 := Lib.hid hv8
      have HK89 : Hid (Kp [52, 36] w8 w9) := Lib.hid ((Kp.of_below hA8).trans (Kp.of_grown hg9 (fun g hg => by
        obtain ⟨_, cur, hc⟩ := hown g hg
        exact ⟨cur, _, hc⟩) (by decide)))
      have HL9 : Hid (Lw w.heap.size k m2 w w9) := Lib.hid (((HLW.out.trans (Lw.of_below hb8' HLW.out.size)).trans (Lw.of_below hA8 hwsz)).trans (Lw.of_grown hg9 (Nat.le_trans hwsz hA8.size) (fun g hg => (hown g hg).1)))
      clear hv8 hb8 hb8' hF8 hP8 hA8 hrun hF9 hg9 hP9 hR9 hP8a hown hdish hwsz
      refine hK.out _ _ (fun _ => S8.out) ?_
      clear hK K
      try simp only [Act.put, List.setIfInBounds_toArray, List.set_cons_zero, List.set_cons_succ]
      refine Nt.takeT (i := 5) (oi := { dst := some 34, op := Op.build 52 #[(0, Operand.tmp 31), (1, Operand.tmp 33)], type := 52, pos := _, after := #[{ on := 2, ground := Ground.data }, { on := 4, ground := Ground.data }], guard := Option.none }) (v := ?_) rfl (by kernel_rfl) (by kernel_rfl) (by kernel_rfl) (by kernel_rfl) (fun _ _ _ h => h) (Or.inl ⟨by rfl, ?_⟩) (fun _ => S8.out) ?_
      rotate_left 1
      · intro w hSw
        try dsimp only at hSw
        go_simp
        first | done | with_reducible rfl
      try simp only [Act.put, List.setIfInBounds_toArray, List.set_cons_zero, List.set_cons_succ]
      refine Nt.nextN (i := 6) (by kernel_rfl) rfl (fun K hK => ?_)
      go_simp
      refine hK.out _ _ (fun _ => SA.out) ?_
      clear hK K
      try simp only [Act.put, List.setIfInBounds_toArray, List.set_cons_zero, List.set_cons_succ]
      refine Nt.nextN (i := 7) (by kernel_rfl) rfl (fun K hK => ?_)
      refine step_run2 rfl (.tmp 30) (.tmp 35) rfl (by simp [Act.eval]) (by simp [Act.eval]) HRUN.out ?_
      refine hK.out _ _ (fun _ => S9.out) ?_
      clear hK K
      try simp only [Act.put, List.setIfInBounds_toArray, List.set_cons_zero, List.set_cons_succ]
      refine Nt.takeT (i := 8) (oi := { dst := some 37, op := Op.fieldAddr 36 (Operand.tmp 6) 0, type := 0, pos := _, after := #[{ on := 0, ground := Ground.phase }, { on := 1, ground := Ground.phase }, { on := 2, ground := Ground.phase }, { on := 3, ground := Ground.phase }, { on := 4, ground := Ground.phase }, { on := 5, ground := Ground.phase }, { on := 6, ground := Ground.phase }, { on := 7, ground := Ground.phase }], guard := Option.none }) (v := ?_) rfl (by kernel_rfl) (by kernel_rfl) (by kernel_rfl) (by kernel_rfl) (fun _ _ _ h => h) (Or.inl ⟨by rfl, ?_⟩) (fun _ => S9.out) ?_
      rotate_left 1
      · intro w hSw
        try dsimp only at hSw
        go_simp
        first | done | with_reducible rfl
      try simp only [Act.put, List.setIfInBounds_toArray, List.set_cons_zero, List.set_cons_succ]
      refine Nt.nextN (i := 9) (by kernel_rfl) rfl (fun K hK => ?_)
      have C9 := S9.out
      go_simp
      refine hK.out _ _ (fun h => by simp at h) ?_
      clear hK K
      try simp only [Act.put, List.setIfInBounds_toArray, List.set_cons_zero, List.set_cons_succ]
      refine Nt.doneN (by kernel_rfl) ?_ _
      go_wp2_with fail
      obtain ⟨L1, hL1⟩ : ∃ L1, L ++ [(x, Value.slice ca p.1.length cn)] = L1 := ⟨_, rfl⟩
      have e1 : L1.length = L.length + 1 := by rw [← hL1]; simp
      have hmem : ∀ q ∈ L1, q ∈ L ∨ q = (x, Value.slice ca p.1.length cn) := fun q hp => by
        rw [← hL1] at hp
        rcases List.mem_append.1 hp with h | h
        · exact .inl h
        · exact .inr (by simpa using h)
      have hfst : L1.map Prod.fst = o.outs.take (j + 1) := by rw [← hL1, HTK.out, List.map_append, HOL.out]; rfl
      have hF9 := HF9.out
      rw [hL1] at hF9
      have hP9 := HP9.out
      obtain ⟨W, hW⟩ : ∃ W, w9.setCell ⟨w7.heap.size, 0, none⟩ (.slice a9 (L.length + 1) c9) = W := ⟨_, rfl⟩
      have hP10 : W.heap[w7.heap.size]? = some (.cells #[.slice a9 L1.length c9, .bool o.once, .string (mk o.dep), .string ⟨#[]⟩] 36 (0, 0)) := by rw [← hW, e1]; exact set_block (j := 0) hP9
      have hK9 : Kp [52, 36] w9 W := by rw [← hW]; exact Kp.set hP9 (by decide)
      have hK1 := HK89.out.trans hK9
      have hoL : ∀ q ∈ L1, OB W q.2 p.1 := fun q hp => by
        rcases hmem q hp with h | h
        · exact hK1.ob (by decide) ((HOBS.out q h).below HB8.out)
        · rw [h]
          exact hK1.ob (by decide) ⟨_, HV8.out⟩
      have hF10 : W.ownsRow w.heap.size 52 2 (.slice a9 L1.length c9) L1.length (fcells L1) := owns_kept hF9 fun g hg => by
        obtain ⟨_, cur, hc⟩ := owns_block hF9 hg
        rw [← hW]
        refine set_other fun e => ?_
        rw [e, hP9] at hc
        injection hc with hc
        injection hc with _ hc
        exact absurd hc (by decide)
      have hK10 : Kp [52, 36] wB W := (HKP.out.trans (Kp.of_below HB8.out)).trans hK1
      have hL10 : Lw w.heap.size k m2 w W := by rw [← hW]; exact HL9.out.set (by have := HSZ.out; omega)
      have hO1 : W.heap[wa.heap.size]? = some (.cells zDish 36 (0, 0)) := by
        rw [← hW]
        exact (set_other (by have := HSZ.out; omega)).trans HR9.out
      rw [hW]
      go_roundw
      case rel => exact ⟨j + 1, L1, a9, c9, by omega, by go_num, Lib.hid hfst, Lib.hid hoL, Lib.hid hF10, Lib.hid hP10, Lib.hid hK10, Lib.hid hL10, Lib.hid hO1⟩
      case measure => simp [intOf] <;> omega
    · obtain rfl : j = o.outs.length := by omega
      by_cases hd : o.dep = []
      · have HDD : Hid (depsT o p.2 = []) := Lib.hid (by unfold depsT; rw [if_pos hd])
        have hd2 : mk o.dep = ⟨#[]⟩ := by rw [hd]; rfl
        have d4 : wr.cell? ⟨w.heap.size, 4, none⟩ = some (.string (mk o.dep)) := cell_of_heap (HKP.out.keep _ _ HP3B.out (fun C t f e => by cases e; decide))
        have e4 : ((mk o.dep).toList == []) = true := by rw [mk_toList, hd]; rfl
        have HPz : Hid (wr.heap[w7.heap.size]? = some (.cells #[.slice fa L.length fc, .bool o.once, .string (mk o.dep), .string (mk [])] 36 (0, 0))) := HP6
        have HP4z := HPO
        have HLz := HLW
        have HOz := HOBS
        have HFz := HF
        clear hd hd2
        have hpz := HPz.out
        have hp4 := HP4z.out
        have i0 : wr.cell? ⟨w7.heap.size, 0, none⟩ = some (.slice fa L.length fc) := cell_of_heap hpz
        have i1 : wr.cell? ⟨w7.heap.size, 1, none⟩ = some (.bool o.once) := cell_of_heap hpz
        have i2 : wr.cell? ⟨w7.heap.size, 2, none⟩ = some (.string (mk o.dep)) := cell_of_heap hpz
        have i3 : wr.cell? ⟨w7.heap.size, 3, none⟩ = some (.string (mk [])) := cell_of_heap hpz
        have o0 : wr.cell? ⟨wa.heap.size, 0, none⟩ = some (.slice none 0 0) := cell_of_heap hp4
        have o1 : wr.cell? ⟨wa.heap.size, 1, none⟩ = some (.bool false) := cell_of_heap hp4
        have o2 : wr.cell? ⟨wa.heap.size, 2, none⟩ = some (.string ⟨#[]⟩) := cell_of_heap hp4
        have o3 : wr.cell? ⟨wa.heap.size, 3, none⟩ = some (.string ⟨#[]⟩) := cell_of_heap hp4
        have y0 : wr.frozen? ⟨wa.heap.size, 0, none⟩ = false := by simp [World.frozen?, hp4, zDish]
        have y1 : wr.frozen? ⟨wa.heap.size, 1, none⟩ = false := by simp [World.frozen?, hp4, zDish]
        have y2 : wr.frozen? ⟨wa.heap.size, 2, none⟩ = false := by simp [World.frozen?, hp4, zDish]
        have y3 : wr.frozen? ⟨wa.heap.size, 3, none⟩ = false := by simp [World.frozen?, hp4, zDish]
        clear hp4 hpz
        go_wp2_with fail
        have hp4 := HP4z.out
        obtain ⟨W, hW⟩ : ∃ W, ((((wr.setCell ⟨wa.heap.size, 0, none⟩ (.slice fa L.length fc)).setCell ⟨wa.heap.size, 1, none⟩ (.bool o.once)).setCell ⟨wa.heap.size, 2, none⟩ (.string (mk o.dep))).setCell ⟨wa.heap.size, 3, none⟩ (.string (mk []))) = W := ⟨_, rfl⟩
        have hP : W.heap[wa.heap.size]? = some (.cells #[.slice fa L.length fc, .bool o.once, .string (mk o.dep), .string (mk [])] 36 (0, 0)) := by rw [← hW]; exact set_block (j := 3) (set_block (j := 2) (set_block (j := 1) (set_block (j := 0) hp4)))
        have hKW : Kp [52, 36] wr W := by
          rw [← hW]
          exact (((Kp.set (j := 0) hp4 (by decide)).trans (Kp.set (j := 1) (set_block (j := 0) hp4) (by decide))).trans (Kp.set (j := 2) (set_block (j := 1) (set_block (j := 0) hp4)) (by decide))).trans (Kp.set (j := 3) (set_block (j := 2) (set_block (j := 1) (set_block (j := 0) hp4))) (by decide))
        have hoth : ∀ q, q ≠ wa.heap.size → W.heap[q]? = wr.heap[q]? := fun q hne => by
          rw [← hW]
          exact (set_other hne).trans ((set_other hne).trans ((set_other hne).trans (set_other hne)))
        have s0 : W.cell? ⟨wa.heap.size, 0, none⟩ = some (.slice fa L.length fc) := cell_of_heap hP
        have s1 : W.cell? ⟨wa.heap.size, 1, none⟩ = some (.bool o.once) := cell_of_heap hP
        have s2 : W.cell? ⟨wa.heap.size, 2, none⟩ = some (.string (mk o.dep)) := cell_of_heap hP
        have s3 : W.cell? ⟨wa.heap.size, 3, none⟩ = some (.string (mk [])) := cell_of_heap hP
        have hlo : w.heap.size ≤ wa.heap.size := by have := HSZ.out; omega
        have hL : Lw w.heap.size k m2 w W := by rw [← hW]; exact (((HLz.out.set hlo).set hlo).set hlo).set hlo
        first | rw [hW] | skip
        refine bodyPost_ret (v := .agg #[.slice fa L.length fc, .bool o.once, .string (mk o.dep), .string (mk [])]) (by simp [results, Tryz.f24, go_sem, s0, s1, s2, s3]) rfl ?_
        refine ⟨⟨_, rfl, fa, fc, L, ?_, by rw [HOL.out, List.take_length], fun q hq => hKW.ob (by decide) (HOz.out q hq), owns_kept HFz.out fun g hg => by
          obtain ⟨_, cur, hc⟩ := owns_block HFz.out hg
          exact hoth g (fun e => by
            rw [e, hp4] at hc
            injection hc with hc
            injection hc with _ hc
            exact absurd hc (by decide))⟩, hL⟩
        rw [HDD.out]
      · have e4 : ((mk o.dep).toList == []) = false := by rw [mk_toList, beq_eq_false_iff_ne]; exact hd
        have d4 : wr.cell? ⟨w.heap.size, 4, none⟩ = some (.string (mk o.dep)) := cell_of_heap (HKP.out.keep _ _ HP3B.out (fun C t f e => by cases e; decide))
        obtain ⟨out0, outr, hor⟩ := List.exists_cons_of_ne_nil HNE.out
        have hhd : o.outs.headD [] = out0 := by rw [hor]; rfl
        obtain ⟨_, _, hmap⟩ := HKF.out.kb.mm
        obtain ⟨_, _, e, _, hrow⟩ := HO.out.lw HLW.out (Nat.le_refl _) HKF.out.new hmap
        cases e
        rcases hrow with h0 | ⟨g, off, rfl, hg, hcell⟩
        · exact absurd h0 HNE.out
        have c0 : wr.cell? ⟨g, off, none⟩ = some (.string (mk out0)) := hcell 0 out0 (by rw [hor]; rfl)
        have hox0 := HOX.out out0 (by rw [hor]; exact List.mem_cons_self)
        obtain ⟨ka, kc, nk2, hkt, hko, -, -⟩ := HKP.out.kw (by decide) (by decide) HKWB.out
        have hpp := HPP.out p.1 p.2 rfl
        have hord := HKP.out.keep _ _ HP3B.out (fun C t f e => by cases e; decide)
        have HCK : Hid (∀ W, Below wr.heap.size wr W → W.cell? ⟨w.heap.size, 3, none⟩ = some (.slice (some ⟨g, off, none⟩) o.outs.length oc) ∧ W.cell? ⟨g, off, none⟩ = some (.string (mk out0)) ∧ W.cell? ⟨k, 3, none⟩ = some (.slice ka p.2.length kc)) := Lib.hid fun W hW => ⟨cell_of_heap ((hW.block _ (lt_some hord)).trans hord), (cell_of_block (hW.block _ hg)).trans c0, by
          have h1 := (hW.block _ (lt_some hkt)).trans hkt
          exact cell_of_heap h1⟩
        have C0 : wr.drew.cell? ⟨w.heap.size, 3, none⟩ = some (.slice (some ⟨g, off, none⟩) o.outs.length oc) ∧ wr.drew.cell? ⟨g, off, none⟩ = some (.string (mk out0)) ∧ wr.drew.cell? ⟨k, 3, none⟩ = some (.slice ka p.2.length kc) := HCK.out wr.drew ⟨rfl, rfl, rfl, Nat.le_refl _, fun _ _ => rfl⟩
        have hstr : Strs wr.drew (.slice ka p.2.length kc) p.2 := owns_strs hko
        have cp0 := print_c out0 hstr hpp.2.1 hox0 hpp.2.2
        obtain ⟨dd, hdd⟩ : ∃ dd, (if (badL out0 || p.2.any badL) = true then [] else txt out0 p.2 ++ [10]) = dd := ⟨_, rfl⟩
        have cp : Calls Tryz.prog 36 #[.string (mk out0), .slice ka p.2.length kc] wr.drew fun e w' => (∃ ee, e = .returned (.tuple #[.string (mk dd), .int .i64 ee])) ∧ Below wr.drew.heap.size wr.drew w' := cp0.mono fun e w' h => ⟨by
          rw [h.1, ← hdd]
          split
          · exact ⟨5, rfl⟩
          · exact ⟨0, rfl⟩, h.2⟩
        have HDD : Hid (depsT o p.2 = dd) := Lib.hid (by unfold depsT; rw [if_neg hd, hhd]; exact hdd)
        have hz : (0 : Int) < (o.outs.length : Int) := by rw [hor]; simp
        have hz0 : 0 < o.outs.length := by rw [hor]; simp
        clear hd hor hhd hmap hcell hkt hko hpp hord hstr cp0 hdd hox0 c0
        go_wp2_with fail
        refine Nt.wp_region_N 13 (fun w' => w'.cell? ⟨w.heap.size, 3, none⟩ = some (.slice (some ⟨g, off, none⟩) o.outs.length oc) ∧ w'.cell? ⟨g, off, none⟩ = some (.string (mk out0)) ∧ w'.cell? ⟨k, 3, none⟩ = some (.slice ka p.2.length kc)) (by kernel_rfl) ?_
        refine Nt.takeT (i := 0) (oi := { dst := some 43, op := Op.fieldAddr 59 (Operand.tmp 3) 3, type := 0, pos := _, after := #[], guard := Option.none }) (v := ?_) rfl (by kernel_rfl) (by kernel_rfl) (by kernel_rfl) (by kernel_rfl) (fun _ _ _ h => h) (Or.inl ⟨by rfl, ?_⟩) (fun _ => C0) ?_
        rotate_left 1
        · intro w hSw
          try dsimp only at hSw
          go_simp
          first | done | with_reducible rfl
        try simp only [Act.put, List.setIfInBounds_toArray, List.set_cons_zero, List.set_cons_succ]
        refine Nt.takeS (i := 1) (oi := { dst := some 44, op := Op.load 32 (Operand.tmp 43), type := 32, pos := _, after := #[{ on := 0, ground := Ground.data }], guard := Option.none }) (v := ?_) rfl (by kernel_rfl) (by kernel_rfl) (by kernel_rfl) (by kernel_rfl) (by kernel_rfl) (by kernel_rfl) (fun _ _ _ h => h) (Or.inl ⟨by rfl, ?_⟩) C0 ?_
        rotate_left 1
        · intro w hSw
          try dsimp only at hSw
          go_simp
          first | done | with_reducible rfl
        try simp only [Act.put, List.setIfInBounds_toArray, List.set_cons_zero, List.set_cons_succ]
        refine Nt.takeT (i := 2) (oi := { dst := some 45, op := Op.indexAddr 32 (Operand.tmp 44) (Operand.const (Value.int IntKind.i64 0)), type := 0, pos := _, after := #[{ on := 1, ground := Ground.data }], guard := Option.none }) (v := ?_) rfl (by kernel_rfl) (by kernel_rfl) (by kernel_rfl) (by kernel_rfl) (fun _ _ _ h => h) (Or.inl ⟨by rfl, ?_⟩) (fun _ => C0) ?_
        rotate_left 1
        · intro w hSw
          try dsimp only at hSw
          go_simp
          first | done | with_reducible rfl
        try simp only [Act.put, List.setIfInBounds_toArray, List.set_cons_zero, List.set_cons_succ]
        refine Nt.takeS (i := 3) (oi := { dst := some 46, op := Op.load 9 (Operand.tmp 45), type := 9, pos := _, after := #[{ on := 2, ground := Ground.data }], guard := Option.none }) (v := ?_) rfl (by kernel_rfl) (by kernel_rfl) (by kernel_rfl) (by kernel_rfl) (by kernel_rfl) (by kernel_rfl) (fun _ _ _ h => h) (Or.inl ⟨by rfl, ?_⟩) C0 ?_
        rotate_left 1
        · intro w hSw
          try dsimp only at hSw
          go_simp
          first | done | with_reducible rfl
        try simp only [Act.put, List.setIfInBounds_toArray, List.set_cons_zero, List.set_cons_succ]
        refine Nt.takeT (i := 4) (oi := { dst := some 47, op := Op.move (Operand.tmp 0), type := 61, pos := _, after := #[], guard := Option.none }) (v := ?_) rfl (by kernel_rfl) (by kernel_rfl) (by kernel_rfl) (by kernel_rfl) (fun _ _ _ h => h) (Or.inl ⟨by rfl, ?_⟩) (fun _ => C0) ?_
        rotate_left 1
        · intro w hSw
          try dsimp only at hSw
          go_simp
          first | done | with_reducible rfl
        try simp only [Act.put, List.setIfInBounds_toArray, List.set_cons_zero, List.set_cons_succ]
        refine Nt.takeT (i := 5) (oi := { dst := some 48, op := Op.nilCheck (Operand.tmp 47), type := 0, pos := _, after := #[{ on := 4, ground := Ground.data }], guard := Option.none }) (v := ?_) rfl (by kernel_rfl) (by kernel_rfl) (by kernel_rfl) (by kernel_rfl) (fun _ _ _ h => h) (Or.inl ⟨by rfl, ?_⟩) (fun _ => C0) ?_
        rotate_left 1
        · intro w hSw
          try dsimp only at hSw
          go_simp
          first | done | with_reducible rfl
        try simp only [Act.put, List.setIfInBounds_toArray, List.set_cons_zero, List.set_cons_succ]
        refine Nt.takeT (i := 6) (oi := { dst := some 49, op := Op.fieldAddr 84 (Operand.tmp 48) 3, type := 0, pos := _, after := #[{ on := 5, ground := Ground.data }], guard := Option.none }) (v := ?_) rfl (by kernel_rfl) (by kernel_rfl) (by kernel_rfl) (by kernel_rfl) (fun _ _ _ h => h) (Or.inl ⟨by rfl, ?_⟩) (fun _ => C0) ?_
        rotate_left 1
        · intro w hSw
          try dsimp only at hSw
          go_simp
          first | done | with_reducible rfl
        try simp only [Act.put, List.setIfInBounds_toArray, List.set_cons_zero, List.set_cons_succ]
        refine Nt.takeS (i := 7) (oi := { dst := some 50, op := Op.load 32 (Operand.tmp 49), type := 32, pos := _, after := #[{ on := 6, ground := Ground.data }], guard := Option.none }) (v := ?_) rfl (by kernel_rfl) (by kernel_rfl) (by kernel_rfl) (by kernel_rfl) (by kernel_rfl) (by kernel_rfl) (fun _ _ _ h => h) (Or.inl ⟨by rfl, ?_⟩) C0 ?_
        rotate_left 1
        · intro w hSw
          try dsimp only at hSw
          go_simp
          first | done | with_reducible rfl
        try simp only [Act.put, List.setIfInBounds_toArray, List.set_cons_zero, List.set_cons_succ]
        refine Nt.nextN (i := 8) (by kernel_rfl) rfl (fun K hK => ?_)
        go_simp
        go_at_call 36
        (with_reducible refine cp.mono ?_)
        rintro e w8 ⟨⟨ee, rfl⟩, hb8⟩
        have hb8' : Below wr.heap.size wr w8 := ⟨hb8.os, hb8.tape, hb8.output, hb8.size, hb8.block⟩
        have C8 := HCK.out w8 hb8'
        have hP8 := (hb8'.block _ (lt_some HP6.out)).trans HP6.out
        have q3 : w8.cell? ⟨w7.heap.size, 3, none⟩ = some (.string ⟨#[]⟩) := cell_of_heap hP8
        have z3 : w8.frozen? ⟨w7.heap.size, 3, none⟩ = false := by simp [World.frozen?, hP8]
        have HB8 := Lib.hid hb8'
        have HP8 := Lib.hid hP8
        clear cp hb8 hb8' hP8
        refine hK.out _ _ (fun _ => C8) ?_
        clear hK K
        try simp only [Act.put, List.setIfInBounds_toArray, List.set_cons_zero, List.set_cons_succ]
        refine Nt.nextN (i := 9) (by kernel_rfl) rfl (fun K hK => ?_)
        go_simp
        refine hK.out _ _ (fun _ => C8) ?_
        clear hK K
        try simp only [Act.put, List.setIfInBounds_toArray, List.set_cons_zero, List.set_cons_succ]
        refine Nt.takeT (i := 10) (oi := { dst := some 52, op := Op.extract (Operand.tmp 42) 0, type := 9, pos := _, after := #[{ on := 9, ground := Ground.data }], guard := Option.none }) (v := ?_) rfl (by kernel_rfl) (by kernel_rfl) (by kernel_rfl) (by kernel_rfl) (fun _ _ _ h => h) (Or.inl ⟨by rfl, ?_⟩) (fun _ => C8) ?_
        rotate_left 1
        · intro w hSw
          try dsimp only at hSw
          go_simp
          first | done | with_reducible rfl
        try simp only [Act.put, List.setIfInBounds_toArray, List.set_cons_zero, List.set_cons_succ]
        refine Nt.takeT (i := 11) (oi := { dst := some 53, op := Op.extract (Operand.tmp 42) 1, type := 37, pos := _, after := #[{ on := 9, ground := Ground.data }, { on := 13, ground := Ground.gcOnly Departure.lateStores }], guard := Option.none }) (v := ?_) rfl (by kernel_rfl) (by kernel_rfl) (by kernel_rfl) (by kernel_rfl) (fun _ _ _ h => h) (Or.inl ⟨by rfl, ?_⟩) (fun _ => C8) ?_
        rotate_left 1
        · intro w hSw
          try dsimp only at hSw
          go_simp
          first | done | with_reducible rfl
        try simp only [Act.put, List.setIfInBounds_toArray, List.set_cons_zero, List.set_cons_succ]
        refine Nt.takeT (i := 12) (oi := { dst := some 54, op := Op.fieldAddr 36 (Operand.tmp 6) 3, type := 0, pos := _, after := #[{ on := 0, ground := Ground.phase }, { on := 1, ground := Ground.phase }, { on := 2, ground := Ground.phase }, { on := 3, ground := Ground.phase }, { on := 4, ground := Ground.phase }, { on := 5, ground := Ground.phase }, { on := 6, ground := Ground.phase }, { on := 7, ground := Ground.phase }, { on := 8, ground := Ground.phase }, { on := 9, ground := Ground.phase }, { on := 10, ground := Ground.phase }, { on := 11, ground := Ground.textOnly Departure.lateStores }], guard := Option.none }) (v := ?_) rfl (by kernel_rfl) (by kernel_rfl) (by kernel_rfl) (by kernel_rfl) (fun _ _ _ h => h) (Or.inl ⟨by rfl, ?_⟩) (fun _ => C8) ?_
        rotate_left 1
        · intro w hSw
          try dsimp only at hSw
          go_simp
          first | done | with_reducible rfl
        try simp only [Act.put, List.setIfInBounds_toArray, List.set_cons_zero, List.set_cons_succ]
        refine Nt.nextN (i := 13) (by kernel_rfl) rfl (fun K hK => ?_)
        go_simp
        refine hK.out _ _ (fun h => by simp at h) ?_
        clear hK K
        try simp only [Act.put, List.setIfInBounds_toArray, List.set_cons_zero, List.set_cons_succ]
        refine Nt.doneN (by kernel_rfl) ?_ _
        obtain ⟨wz, hwz⟩ : ∃ W, w8.setCell ⟨w7.heap.size, 3, none⟩ (.string (mk dd)) = W := ⟨_, rfl⟩
        have HPz : Hid (wz.heap[w7.heap.size]? = some (.cells #[.slice fa L.length fc, .bool o.once, .string (mk o.dep), .string (mk dd)] 36 (0, 0))) := Lib.hid (by rw [← hwz]; exact set_block (j := 3) HP8.out)
        have HP4z : Hid (wz.heap[wa.heap.size]? = some (.cells zDish 36 (0, 0))) := Lib.hid (by
          rw [← hwz]
          exact (set_other (by have := HSZ.out; omega)).trans ((HB8.out.block _ (lt_some HPO.out)).trans HPO.out))
        have HLz : Hid (Lw w.heap.size k m2 w wz) := Lib.hid (by
          rw [← hwz]
          exact (HLW.out.trans (Lw.of_below HB8.out HLW.out.size)).set (by have := HSZ.out; omega))
        have hKz : Kp [52, 36] w8 wz := by rw [← hwz]; exact Kp.set HP8.out (by decide)
        have HOz : Hid (∀ q ∈ L, OB wz q.2 p.1) := Lib.hid fun q hq => hKz.ob (by decide) ((HOBS.out q hq).below HB8.out)
        have HFz : Hid (wz.ownsRow w.heap.size 52 2 (.slice fa L.length fc) L.length (fcells L)) := Lib.hid (owns_kept (owns_below HF.out HB8.out) fun g hg => by
          obtain ⟨_, cur, hc⟩ := owns_block (owns_below HF.out HB8.out) hg
          rw [← hwz]
          refine set_other fun e => ?_
          rw [e, HP8.out] at hc
          injection hc with hc
          injection hc with _ hc
          exact absurd hc (by decide))
        rw [hwz]
        clear C8 C0 q3 z3 hwz hKz
        have hpz := HPz.out
        have hp4 := HP4z.out
        have i0 : wz.cell? ⟨w7.heap.size, 0, none⟩ = some (.slice fa L.length fc) := cell_of_heap hpz
        have i1 : wz.cell? ⟨w7.heap.size, 1, none⟩ = some (.bool o.once) := cell_of_heap hpz
        have i2 : wz.cell? ⟨w7.heap.size, 2, none⟩ = some (.string (mk o.dep)) := cell_of_heap hpz
        have i3 : wz.cell? ⟨w7.heap.size, 3, none⟩ = some (.string (mk dd)) := cell_of_heap hpz
        have o0 : wz.cell? ⟨wa.heap.size, 0, none⟩ = some (.slice none 0 0) := cell_of_heap hp4
        have o1 : wz.cell? ⟨wa.heap.size, 1, none⟩ = some (.bool false) := cell_of_heap hp4
        have o2 : wz.cell? ⟨wa.heap.size, 2, none⟩ = some (.string ⟨#[]⟩) := cell_of_heap hp4
        have o3 : wz.cell? ⟨wa.heap.size, 3, none⟩ = some (.string ⟨#[]⟩) := cell_of_heap hp4
        have y0 : wz.frozen? ⟨wa.heap.size, 0, none⟩ = false := by simp [World.frozen?, hp4, zDish]
        have y1 : wz.frozen? ⟨wa.heap.size, 1, none⟩ = false := by simp [World.frozen?, hp4, zDish]
        have y2 : wz.frozen? ⟨wa.heap.size, 2, none⟩ = false := by simp [World.frozen?, hp4, zDish]
        have y3 : wz.frozen? ⟨wa.heap.size, 3, none⟩ = false := by simp [World.frozen?, hp4, zDish]
        clear hp4 hpz
        go_wp2_with fail
        have hp4 := HP4z.out
        obtain ⟨W, hW⟩ : ∃ W, ((((wz.setCell ⟨wa.heap.size, 0, none⟩ (.slice fa L.length fc)).setCell ⟨wa.heap.size, 1, none⟩ (.bool o.once)).setCell ⟨wa.heap.size, 2, none⟩ (.string (mk o.dep))).setCell ⟨wa.heap.size, 3, none⟩ (.string (mk dd))) = W := ⟨_, rfl⟩
        have hP : W.heap[wa.heap.size]? = some (.cells #[.slice fa L.length fc, .bool o.once, .string (mk o.dep), .string (mk dd)] 36 (0, 0)) := by rw [← hW]; exact set_block (j := 3) (set_block (j := 2) (set_block (j := 1) (set_block (j := 0) hp4)))
        have hKW : Kp [52, 36] wz W := by
          rw [← hW]
          exact (((Kp.set (j := 0) hp4 (by decide)).trans (Kp.set (j := 1) (set_block (j := 0) hp4) (by decide))).trans (Kp.set (j := 2) (set_block (j := 1) (set_block (j := 0) hp4)) (by decide))).trans (Kp.set (j := 3) (set_block (j := 2) (set_block (j := 1) (set_block (j := 0) hp4))) (by decide))
        have hoth : ∀ q, q ≠ wa.heap.size → W.heap[q]? = wz.heap[q]? := fun q hne => by
          rw [← hW]
          exact (set_other hne).trans ((set_other hne).trans ((set_other hne).trans (set_other hne)))
        have s0 : W.cell? ⟨wa.heap.size, 0, none⟩ = some (.slice fa L.length fc) := cell_of_heap hP
        have s1 : W.cell? ⟨wa.heap.size, 1, none⟩ = some (.bool o.once) := cell_of_heap hP
        have s2 : W.cell? ⟨wa.heap.size, 2, none⟩ = some (.string (mk o.dep)) := cell_of_heap hP
        have s3 : W.cell? ⟨wa.heap.size, 3, none⟩ = some (.string (mk dd)) := cell_of_heap hP
        have hlo : w.heap.size ≤ wa.heap.size := by have := HSZ.out; omega
        have hL : Lw w.heap.size k m2 w W := by rw [← hW]; exact (((HLz.out.set hlo).set hlo).set hlo).set hlo
        first | rw [hW] | skip
        refine bodyPost_ret (v := .agg #[.slice fa L.length fc, .bool o.once, .string (mk o.dep), .string (mk dd)]) (by simp [results, Tryz.f24, go_sem, s0, s1, s2, s3]) rfl ?_
        refine ⟨⟨_, rfl, fa, fc, L, ?_, by rw [HOL.out, List.take_length], fun q hq => hKW.ob (by decide) (HOz.out q hq), owns_kept HFz.out fun g hg => by
          obtain ⟨_, cur, hc⟩ := owns_block HFz.out hg
          exact hoth g (fun e => by
            rw [e, hp4] at hc
            injection hc with hc
            injection hc with _ hc
            exact absurd hc (by decide))⟩, hL⟩
        rw [HDD.out]
end Go.Proofs.YtgledabcfonbeaaGreatDoor.Df
