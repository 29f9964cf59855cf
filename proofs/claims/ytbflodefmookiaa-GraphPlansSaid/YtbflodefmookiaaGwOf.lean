/-
  A DOCUMENT'S MANIFEST AS THE PROGRAM'S: of.
-/
import Derived.Test.YtbflodefmookiaaGwOwn
namespace Go.Proofs.Ytbflodefmookiaa.Pr
open Go.RowKit Go.Proofs.Ytbflodefmookiaa Go.Proofs.Ytbflodefmookiaa.Df

theorem step_run2 {ops : Array Oper} {o : Oper} {a : Act} {w w' : World} {K : Act → World → Prop} {Q : Exit → Act → World → Prop} {E : Prop} (hgd : o.guard = none) (s x : Operand) {t u : TypeId}
    (ho : o.op = .call { callee := .builtin .append, args := #[s, x], argTypes := #[t, u] }) {v src v' : Value} (hs : a.eval s = v) (hx : a.eval x = src)
    (hr : (Builtin.append_ #[t, u] o.type #[v, src]).run Try.prog w = .ok v' w') (h : K (a.put o.dst v') w') :
    if Region.wanted o (yielded ops a.tmps) = true then Oper.wp Try.prog o a w K Q else E := by
  rw [if_pos (by simp [Region.wanted, hgd])]
  unfold Oper.wp execOp
  simp only [ho, resolve, invoke, builtin, Sem.run_bind, Sem.run_pure, Result.andThen_ok, List.map_toArray, List.map_cons, List.map_nil, hs, hx, hr]
  exact h
theorem wpList_run {ops : Array Oper} {rest : List Oper} {o : Oper} {a : Act} {w w' : World} {Q : Exit → Act → World → Prop} (hgd : o.guard = none) (s x : Operand) {t u : TypeId}
    (ho : o.op = .call { callee := .builtin .append, args := #[s, x], argTypes := #[t, u] }) {v src v' : Value} (hs : a.eval s = v) (hx : a.eval x = src)
    (hr : (Builtin.append_ #[t, u] o.type #[v, src]).run Try.prog w = .ok v' w') (h : wpList Try.prog ops Q rest (a.put o.dst v') w') : wpList Try.prog ops Q (o :: rest) a w := by
  refine wpList_plain hgd fun K hK => ?_
  unfold Oper.wp execOp
  simp only [ho, resolve, invoke, builtin, Sem.run_bind, Sem.run_pure, Result.andThen_ok, List.map_toArray, List.map_cons, List.map_nil, hs, hx, hr]
  exact hK _ _ h

/-- a chain of the region: nothing yet, an empty row, the names copied -/
def SC (Kf : Nat → List Bs) (k m : Nat) (z : Nat → Value) (w : World) : Prop :=
  match m with
  | 0 => True
  | 1 => ∃ x, z (2 * k) = .slice (some ⟨x, 0, none⟩) 0 0 ∧ w.heap[x]? = some (.cells #[] 9 (0, 0))
  | _ => ∃ a c, z (2 * k + 1) = .slice a (Kf k).length c ∧ StrsT w (.slice a (Kf k).length c) (Kf k)
theorem SC.mono {Kf : Nat → List Bs} (k m : Nat) (z : Nat → Value) (w w' : World) (j : Nat) (v : Value) (h : SC Kf k m z w) (hb : Below w.heap.size w w') (h1 : j ≠ 2 * k) (h2 : j ≠ 2 * k + 1) : SC Kf k m (Nt.upd4 z j v) w' := by
  match m, h with
  | 0, _ => trivial
  | 1, h =>
    obtain ⟨x, e, hx⟩ := h
    exact ⟨x, (Nt.upd4_ne z v (Ne.symm h1)).trans e, (hb.block x (lt_some hx)).trans hx⟩
  | m + 2, h =>
    obtain ⟨a, c, e, hs⟩ := h
    exact ⟨a, c, (Nt.upd4_ne z v (Ne.symm h2)).trans e, hs.below hb⟩

/-- the copying, half done -/
structure OfS (w wr : World) (q0 q1 q3 : Nat) (u0 u1 d v : Value) (M : List Ed) (D : List Bs) : Prop where
  own : OwnE wr w.heap.size v M
  b0 : wr.heap[q0]? = some (.cells #[u0, u1] 25 (0, 0))
  b1 : wr.heap[q1]? = some (.cells #[.slice none 0 0, .slice none 0 0] 33 (0, 0))
  b3 : wr.heap[q3]? = some (.cells #[v, d] 33 (0, 0))
  dS : StrsT wr d D
  bel : Below w.heap.size w wr
  g1 : w.heap.size ≤ q1
  g3 : w.heap.size ≤ q3
  ne : q1 ≠ q3
  n0 : q0 ≠ q3
section
variable {w wr wr' : World} {q0 q1 q3 : Nat} {u0 u1 d v v' : Value} {M M' : List Ed} {D : List Bs}
theorem OfS.below (h : OfS w wr q0 q1 q3 u0 u1 d v M D) (hb : Below wr.heap.size wr wr') : OfS w wr' q0 q1 q3 u0 u1 d v M D :=
  ⟨h.own.below hb, (hb.block _ (lt_some h.b0)).trans h.b0, (hb.block _ (lt_some h.b1)).trans h.b1, (hb.block _ (lt_some h.b3)).trans h.b3, h.dS.below hb, h.bel.trans (hb.mono h.bel.size), h.g1, h.g3, h.ne, h.n0⟩
/-- a longer row, laid but not stored yet -/
structure OfP (w wr : World) (q0 q1 q3 : Nat) (u0 u1 d v v' : Value) (M : List Ed) (D : List Bs) : Prop where
  own : OwnE wr w.heap.size v' M
  b0 : wr.heap[q0]? = some (.cells #[u0, u1] 25 (0, 0))
  b1 : wr.heap[q1]? = some (.cells #[.slice none 0 0, .slice none 0 0] 33 (0, 0))
  b3 : wr.heap[q3]? = some (.cells #[v, d] 33 (0, 0))
  dS : StrsT wr d D
  bel : Below w.heap.size w wr
  g1 : w.heap.size ≤ q1
  g3 : w.heap.size ≤ q3
  ne : q1 ≠ q3
  n0 : q0 ≠ q3
theorem OfS.push (h : OfS w wr q0 q1 q3 u0 u1 d v M D) (ho : OwnE wr' w.heap.size v' M') (hb : Below w.heap.size wr wr') (hk : ∀ (g : Nat) C t fr, t ≠ 52 → wr.heap[g]? = some (.cells C t fr) → wr'.heap[g]? = some (.cells C t fr)) : OfP w wr' q0 q1 q3 u0 u1 d v v' M' D :=
  ⟨ho, hk _ _ _ _ (by decide) h.b0, hk _ _ _ _ (by decide) h.b1, hk _ _ _ _ (by decide) h.b3, h.dS.keepT fun g C fr hg => (hk _ _ _ _ (by decide) hg).trans hg.symm, h.bel.trans hb, h.g1, h.g3, h.ne, h.n0⟩
theorem OfP.stored (h : OfP w wr q0 q1 q3 u0 u1 d v v' M D) (hM : M' = M) : OfS w (wr.setCell ⟨q3, 0, none⟩ v') q0 q1 q3 u0 u1 d v' M' D := by
  subst hM
  have hT : ∀ (g : Nat) C t fr, t ≠ 33 → wr.heap[g]? = some (.cells C t fr) → (wr.setCell ⟨q3, 0, none⟩ v').heap[g]? = wr.heap[g]? := fun g C t fr ht hg => set_other fun e => by
    subst e
    rw [h.b3] at hg
    cases hg
    exact ht rfl
  exact ⟨h.own.keepT (fun g C fr hg => hT g C _ fr (by decide) hg) (fun g C fr hg => hT g C _ fr (by decide) hg), (set_other h.n0).trans h.b0, (set_other h.ne).trans h.b1, set_block h.b3, h.dS.keepT (fun g C fr hg => hT g C _ fr (by decide) hg), h.bel.setCell (p := ⟨q3, 0, none⟩) h.g3 _, h.g1, h.g3, h.ne, h.n0⟩
end
theorem below_drew (b : Nat) (w : World) : Below b w w.drew := ⟨rfl, rfl, rfl, Nat.le_refl _, fun _ _ => rfl⟩

set_option maxRecDepth 100000 in
set_option maxHeartbeats 32000000 in
theorem of_c {w : World} {u0 u1 : Value} {L : List Ed} {D : List Bs} (hL : Eds w u0 L) (hD : Strs w u1 D) (hl : L.length ≤ 30) (hd : D.length ≤ 20) (hx : ∀ x ∈ L, Sm x) :
    Calls Try.prog 12 #[.agg #[u0, u1]] w fun x w' => ∃ v d, x = .returned (.agg #[v, d]) ∧ Eds w' v L ∧ Strs w' d D ∧ Below w.heap.size w w' := by
  have hA0 := below_alloc w (.cells #[u0, u1] 25)
  have hb0 := heap_alloc_new w (.cells #[u0, u1] 25)
  obtain ⟨wB, hwB⟩ : ∃ wB, w.alloc (.cells #[u0, u1] 25) = wB := ⟨_, rfl⟩
  rw [hwB] at hA0 hb0
  have hA1 := below_alloc wB (.cells #[.slice none 0 0, .slice none 0 0] 33)
  have hb1 := heap_alloc_new wB (.cells #[.slice none 0 0, .slice none 0 0] 33)
  obtain ⟨wC, hwC⟩ : ∃ wC, wB.alloc (.cells #[.slice none 0 0, .slice none 0 0] 33) = wC := ⟨_, rfl⟩
  rw [hwC] at hA1 hb1
  have hA2 := below_alloc wC (.cells #[] 9)
  have hAC := hA0.trans (hA1.mono hA0.size)
  obtain ⟨a1, k1, rfl, -, -⟩ := id hD
  obtain ⟨a0, k0, rfl, -, -⟩ := id hL
  obtain ⟨da, dc, W1, hrun, hdS, hb2⟩ := run_copyK (heap_alloc_new wC (.cells #[] 9)) ((hD.below hAC).below hA2) (by omega)
  have hbC1 : Below wC.heap.size wC W1 := hA2.trans (hb2.mono hA2.size)
  have hA3 := below_alloc W1 (.cells #[.slice none 0 0, .slice da D.length dc] 33)
  have hb3 := heap_alloc_new W1 (.cells #[.slice none 0 0, .slice da D.length dc] 33)
  obtain ⟨wL, hwL⟩ : ∃ wL, W1.alloc (.cells #[.slice none 0 0, .slice da D.length dc] 33) = wL := ⟨_, rfl⟩
  rw [hwL] at hA3 hb3
  have hq0 : w.heap.size < wB.heap.size := lt_some hb0
  have hs1 : wB.heap.size = w.heap.size + 1 := by rw [← hwB]; simp
  have hq1 : wB.heap.size < wC.heap.size := lt_some hb1
  have hbL1 : Below wC.heap.size wC wL := hbC1.trans (hA3.mono hbC1.size)
  have hC0 : wC.heap[w.heap.size]? = some (.cells #[.slice a0 L.length k0, .slice a1 D.length k1] 25 (0, 0)) := (hA1.block _ hq0).trans hb0
  have hS0 : OfS w wL w.heap.size wB.heap.size W1.heap.size (.slice a0 L.length k0) (.slice a1 D.length k1) (.slice da D.length dc) (.slice none 0 0) [] D :=
    ⟨OwnE.nil _ _, (hbL1.block _ (by omega)).trans hC0, (hbL1.block _ hq1).trans hb1, hb3, hdS.below hA3, hAC.trans (hbL1.mono hAC.size), by omega, by have := hAC.size; have := hbC1.size; omega, by have := hbC1.size; omega, by have := hbC1.size; omega⟩
  have c0 : wC.cell? ⟨w.heap.size, 0, none⟩ = some (.slice a0 L.length k0) := by rw [Lib.cell_of_heap hC0]; rfl
  have c1 : wC.cell? ⟨w.heap.size, 1, none⟩ = some (.slice a1 D.length k1) := by rw [Lib.cell_of_heap hC0]; rfl
  have c1' : (wC.alloc (.cells #[] 9)).cell? ⟨w.heap.size, 1, none⟩ = some (.slice a1 D.length k1) := (cell_of_block (hA2.block _ (by omega))).trans c1
  rw [hs1] at hS0
  have HS0 := Lib.hid hS0
  have HR := Lib.hid hrun
  have HWB := Lib.hid hwB
  have HWC := Lib.hid hwC
  have HWL := Lib.hid hwL
  have HL := Lib.hid hL
  have HX := Lib.hid hx
  clear hA0 hb0 hA1 hb1 hA2 hAC hdS hb2 hbC1 hA3 hb3 hq0 hq1 hbL1 hC0 hS0 hs1 hrun hwB hwC hwL hL hD hx
  go_enter Try.func12, Try.ntmps12
  go_upto_region 1 with fail
  rw [HWB.out, HWC.out]
  go_upto_region 2 with (at_builtin; refine wpList_run rfl (.tmp 6) (.tmp 8) rfl rfl rfl HR.out ?_)
  rw [HWL.out]
  clear c0 c1 c1'
  generalize W1.heap.size = q3 at *
  obtain ⟨q1, hq1⟩ : ∃ q1, w.heap.size + 1 = q1 := ⟨_, rfl⟩
  rw [hq1] at HS0 ⊢
  obtain ⟨q0, hq0⟩ : ∃ q0, w.heap.size = q0 := ⟨_, rfl⟩
  rw [hq0] at HS0 ⊢
  have HQ0 := Lib.hid hq0
  clear hq0 hq1
  go_wp2_with fail
  go_loopw [4, 5] (fun i _ wr => ∃ (j : Nat) (va : Option Addr) (vc : Nat), j ≤ L.length ∧ i = .int .i64 j ∧ Hid (OfS w wr q0 q1 q3 (.slice a0 L.length k0) (.slice a1 D.length k1) (.slice da D.length dc) (.slice va j vc) (L.take j) D)) (fun i _ _ => L.length - (intOf i).toNat)
  case atStart => exact ⟨0, none, 0, Nat.zero_le _, rfl, by simpa using HS0⟩
  case round =>
    clear HS0
    obtain ⟨j, va, vc, hj, rfl, HS⟩ := hrel
    have c0 : wr.cell? ⟨q0, 0, none⟩ = some (.slice a0 L.length k0) := by rw [Lib.cell_of_heap HS.out.b0]; rfl
    by_cases hlt : j < L.length
    · have hxj := List.getElem?_eq_getElem hlt
      have hsm := HX.out _ (List.getElem_mem hlt)
      have htk : L.take (j + 1) = L.take j ++ [L[j]] := by rw [List.take_add_one, hxj]; rfl
      generalize L[j] = x at *
      obtain ⟨g, off, c2, v0, v1, v2, v3, e, hg, hE, r0, r1, r2, r3, r4, r5⟩ := (HL.out.below HS.out.bel).at hxj
      cases e
      have HTK := Lib.hid htk
      have HTL : Hid ((L.take j).length = j) := Lib.hid (by rw [List.length_take]; omega)
      obtain ⟨y0, z0, y1, z1, y2, z2, y3, z3, rfl, rfl, rfl, rfl⟩ := hE.sl
      have hi0 : (0 : Int) ≤ (j : Int) := by omega
      have hi1 : (j : Int) < (L.length : Int) := by omega
      have hAE := below_alloc wr (.cells #[.slice y0 x.outs.length z0, .slice y1 x.ins.length z1, .slice y2 x.imp.length z2, .slice y3 x.ord.length z3, .string (mk x.cmd), .string (mk x.dep)] 60)
      have hQE := heap_alloc_new wr (.cells #[.slice y0 x.outs.length z0, .slice y1 x.ins.length z1, .slice y2 x.imp.length z2, .slice y3 x.ord.length z3, .string (mk x.cmd), .string (mk x.dep)] 60)
      obtain ⟨wE, hwE⟩ : ∃ wE, wr.alloc (.cells #[.slice y0 x.outs.length z0, .slice y1 x.ins.length z1, .slice y2 x.imp.length z2, .slice y3 x.ord.length z3, .string (mk x.cmd), .string (mk x.dep)] 60) = wE := ⟨_, rfl⟩
      rw [hwE] at hAE hQE
      have HWE := Lib.hid hwE
      obtain ⟨wD, hwD⟩ : ∃ wD, wE.drew = wD := ⟨_, rfl⟩
      have hAD : Below wr.heap.size wr wD := by rw [← hwD]; exact hAE.trans (below_drew _ _)
      have HWD := Lib.hid hwD
      have HQE := Lib.hid (show wD.heap[wr.heap.size]? = some (.cells #[.slice y0 x.outs.length z0, .slice y1 x.ins.length z1, .slice y2 x.imp.length z2, .slice y3 x.ord.length z3, .string (mk x.cmd), .string (mk x.dep)] 60 (0, 0)) by rw [← hwD]; exact hQE)
      have HSD := Lib.hid (HS.out.below hAD)
      have hE2 := hE.below hAD
      have HROW0 := Lib.hid hE2.o
      have HROW1 := Lib.hid hE2.i
      have HROW2 := Lib.hid hE2.m
      have HROW3 := Lib.hid hE2.r
      have m0 := hsm.o
      have m1 := hsm.i
      have m2 := hsm.m
      have m3 := hsm.r
      have hSS : ∀ w', Below wD.heap.size wD w' → w'.cell? ⟨wr.heap.size, 0, none⟩ = some (.slice y0 x.outs.length z0) ∧ w'.cell? ⟨wr.heap.size, 1, none⟩ = some (.slice y1 x.ins.length z1) ∧ w'.cell? ⟨wr.heap.size, 2, none⟩ = some (.slice y2 x.imp.length z2) ∧ w'.cell? ⟨wr.heap.size, 3, none⟩ = some (.slice y3 x.ord.length z3) ∧ w'.cell? ⟨wr.heap.size, 4, none⟩ = some (.string (mk x.cmd)) ∧ w'.cell? ⟨wr.heap.size, 5, none⟩ = some (.string (mk x.dep)) ∧ w'.cell? ⟨q3, 0, none⟩ = some (.slice va j vc) := fun w' hW => by
        have h1 := (hW.block _ (lt_some HQE.out)).trans HQE.out
        have h3 := (hW.block _ (lt_some HSD.out.b3)).trans HSD.out.b3
        refine ⟨?_, ?_, ?_, ?_, ?_, ?_, ?_⟩
        · rw [Lib.cell_of_heap h1]; rfl
        · rw [Lib.cell_of_heap h1]; rfl
        · rw [Lib.cell_of_heap h1]; rfl
        · rw [Lib.cell_of_heap h1]; rfl
        · rw [Lib.cell_of_heap h1]; rfl
        · rw [Lib.cell_of_heap h1]; rfl
        · rw [Lib.cell_of_heap h3]; rfl
      clear hAE hQE hwE hwD hAD hE hE2 hsm hxj hg htk
      go_upto_region 6 with fail
      rw [HWE.out]
      have S0 := hSS wD (Below.refl _ _)
      clear r0 r1 r2 r3 r4 r5 c0
      refine Nt.wp_region_N 26 (fun w' => w'.cell? ⟨wr.heap.size, 0, none⟩ = some (.slice y0 x.outs.length z0) ∧ w'.cell? ⟨wr.heap.size, 1, none⟩ = some (.slice y1 x.ins.length z1) ∧ w'.cell? ⟨wr.heap.size, 2, none⟩ = some (.slice y2 x.imp.length z2) ∧ w'.cell? ⟨wr.heap.size, 3, none⟩ = some (.slice y3 x.ord.length z3) ∧ w'.cell? ⟨wr.heap.size, 4, none⟩ = some (.string (mk x.cmd)) ∧ w'.cell? ⟨wr.heap.size, 5, none⟩ = some (.string (mk x.dep)) ∧ w'.cell? ⟨q3, 0, none⟩ = some (.slice va j vc)) (by kernel_rfl) ?_
      rw [HWD.out]
      refine Nt.takeT (i := 0) (oi := { dst := some 23, op := Op.fieldAddr 33 (Operand.tmp 3) 0, type := 0, pos := _, after := #[], guard := Option.none }) (v := ?_) rfl (by kernel_rfl) (by kernel_rfl) (by kernel_rfl) (by kernel_rfl) (fun _ _ _ h => h) (Or.inl ⟨by rfl, ?_⟩) (fun _ => S0) ?_
      rotate_left 1
      · intro w hSw
        try dsimp only at hSw
        go_simp
        first | done | with_reducible rfl
      try simp only [Act.put, List.setIfInBounds_toArray, List.set_cons_zero, List.set_cons_succ]
      refine Nt.takeS (i := 1) (oi := { dst := some 24, op := Op.load 31 (Operand.tmp 23), type := 31, pos := _, after := #[{ on := 0, ground := Ground.data }], guard := Option.none }) (v := ?_) rfl (by kernel_rfl) (by kernel_rfl) (by kernel_rfl) (by kernel_rfl) (by kernel_rfl) (by kernel_rfl) (fun _ _ _ h => h) (Or.inl ⟨by rfl, ?_⟩) S0 ?_
      rotate_left 1
      · intro w hSw
        try dsimp only at hSw
        go_simp
        first | done | with_reducible rfl
      try simp only [Act.put, List.setIfInBounds_toArray, List.set_cons_zero, List.set_cons_succ]
      refine Nt.takeT (i := 3) (oi := { dst := some 26, op := Op.fieldAddr 60 (Operand.tmp 5) 0, type := 0, pos := _, after := #[], guard := Option.none }) (v := ?_) rfl (by kernel_rfl) (by kernel_rfl) (by kernel_rfl) (by kernel_rfl) (fun _ _ _ h => h) (Or.inl ⟨by rfl, ?_⟩) (fun _ => S0) ?_
      rotate_left 1
      · intro w hSw
        try dsimp only at hSw
        go_simp
        first | done | with_reducible rfl
      try simp only [Act.put, List.setIfInBounds_toArray, List.set_cons_zero, List.set_cons_succ]
      refine Nt.takeS (i := 4) (oi := { dst := some 27, op := Op.load 23 (Operand.tmp 26), type := 23, pos := _, after := #[{ on := 3, ground := Ground.data }], guard := Option.none }) (v := ?_) rfl (by kernel_rfl) (by kernel_rfl) (by kernel_rfl) (by kernel_rfl) (by kernel_rfl) (by kernel_rfl) (fun _ _ _ h => h) (Or.inl ⟨by rfl, ?_⟩) S0 ?_
      rotate_left 1
      · intro w hSw
        try dsimp only at hSw
        go_simp
        first | done | with_reducible rfl
      try simp only [Act.put, List.setIfInBounds_toArray, List.set_cons_zero, List.set_cons_succ]
      refine Nt.takeT (i := 7) (oi := { dst := some 30, op := Op.fieldAddr 60 (Operand.tmp 5) 1, type := 0, pos := _, after := #[], guard := Option.none }) (v := ?_) rfl (by kernel_rfl) (by kernel_rfl) (by kernel_rfl) (by kernel_rfl) (fun _ _ _ h => h) (Or.inl ⟨by rfl, ?_⟩) (fun _ => S0) ?_
      rotate_left 1
      · intro w hSw
        try dsimp only at hSw
        go_simp
        first | done | with_reducible rfl
      try simp only [Act.put, List.setIfInBounds_toArray, List.set_cons_zero, List.set_cons_succ]
      refine Nt.takeS (i := 8) (oi := { dst := some 31, op := Op.load 23 (Operand.tmp 30), type := 23, pos := _, after := #[{ on := 7, ground := Ground.data }], guard := Option.none }) (v := ?_) rfl (by kernel_rfl) (by kernel_rfl) (by kernel_rfl) (by kernel_rfl) (by kernel_rfl) (by kernel_rfl) (fun _ _ _ h => h) (Or.inl ⟨by rfl, ?_⟩) S0 ?_
      rotate_left 1
      · intro w hSw
        try dsimp only at hSw
        go_simp
        first | done | with_reducible rfl
      try simp only [Act.put, List.setIfInBounds_toArray, List.set_cons_zero, List.set_cons_succ]
      refine Nt.takeT (i := 11) (oi := { dst := some 34, op := Op.fieldAddr 60 (Operand.tmp 5) 2, type := 0, pos := _, after := #[], guard := Option.none }) (v := ?_) rfl (by kernel_rfl) (by kernel_rfl) (by kernel_rfl) (by kernel_rfl) (fun _ _ _ h => h) (Or.inl ⟨by rfl, ?_⟩) (fun _ => S0) ?_
      rotate_left 1
      · intro w hSw
        try dsimp only at hSw
        go_simp
        first | done | with_reducible rfl
      try simp only [Act.put, List.setIfInBounds_toArray, List.set_cons_zero, List.set_cons_succ]
      refine Nt.takeS (i := 12) (oi := { dst := some 35, op := Op.load 23 (Operand.tmp 34), type := 23, pos := _, after := #[{ on := 11, ground := Ground.data }], guard := Option.none }) (v := ?_) rfl (by kernel_rfl) (by kernel_rfl) (by kernel_rfl) (by kernel_rfl) (by kernel_rfl) (by kernel_rfl) (fun _ _ _ h => h) (Or.inl ⟨by rfl, ?_⟩) S0 ?_
      rotate_left 1
      · intro w hSw
        try dsimp only at hSw
        go_simp
        first | done | with_reducible rfl
      try simp only [Act.put, List.setIfInBounds_toArray, List.set_cons_zero, List.set_cons_succ]
      refine Nt.takeT (i := 15) (oi := { dst := some 38, op := Op.fieldAddr 60 (Operand.tmp 5) 3, type := 0, pos := _, after := #[], guard := Option.none }) (v := ?_) rfl (by kernel_rfl) (by kernel_rfl) (by kernel_rfl) (by kernel_rfl) (fun _ _ _ h => h) (Or.inl ⟨by rfl, ?_⟩) (fun _ => S0) ?_
      rotate_left 1
      · intro w hSw
        try dsimp only at hSw
        go_simp
        first | done | with_reducible rfl
      try simp only [Act.put, List.setIfInBounds_toArray, List.set_cons_zero, List.set_cons_succ]
      refine Nt.takeS (i := 16) (oi := { dst := some 39, op := Op.load 23 (Operand.tmp 38), type := 23, pos := _, after := #[{ on := 15, ground := Ground.data }], guard := Option.none }) (v := ?_) rfl (by kernel_rfl) (by kernel_rfl) (by kernel_rfl) (by kernel_rfl) (by kernel_rfl) (by kernel_rfl) (fun _ _ _ h => h) (Or.inl ⟨by rfl, ?_⟩) S0 ?_
      rotate_left 1
      · intro w hSw
        try dsimp only at hSw
        go_simp
        first | done | with_reducible rfl
      try simp only [Act.put, List.setIfInBounds_toArray, List.set_cons_zero, List.set_cons_succ]
      refine Nt.takeT (i := 18) (oi := { dst := some 41, op := Op.fieldAddr 60 (Operand.tmp 5) 4, type := 0, pos := _, after := #[], guard := Option.none }) (v := ?_) rfl (by kernel_rfl) (by kernel_rfl) (by kernel_rfl) (by kernel_rfl) (fun _ _ _ h => h) (Or.inl ⟨by rfl, ?_⟩) (fun _ => S0) ?_
      rotate_left 1
      · intro w hSw
        try dsimp only at hSw
        go_simp
        first | done | with_reducible rfl
      try simp only [Act.put, List.setIfInBounds_toArray, List.set_cons_zero, List.set_cons_succ]
      refine Nt.takeS (i := 19) (oi := { dst := some 42, op := Op.load 9 (Operand.tmp 41), type := 9, pos := _, after := #[{ on := 18, ground := Ground.data }], guard := Option.none }) (v := ?_) rfl (by kernel_rfl) (by kernel_rfl) (by kernel_rfl) (by kernel_rfl) (by kernel_rfl) (by kernel_rfl) (fun _ _ _ h => h) (Or.inl ⟨by rfl, ?_⟩) S0 ?_
      rotate_left 1
      · intro w hSw
        try dsimp only at hSw
        go_simp
        first | done | with_reducible rfl
      try simp only [Act.put, List.setIfInBounds_toArray, List.set_cons_zero, List.set_cons_succ]
      refine Nt.takeT (i := 20) (oi := { dst := some 43, op := Op.fieldAddr 60 (Operand.tmp 5) 5, type := 0, pos := _, after := #[], guard := Option.none }) (v := ?_) rfl (by kernel_rfl) (by kernel_rfl) (by kernel_rfl) (by kernel_rfl) (fun _ _ _ h => h) (Or.inl ⟨by rfl, ?_⟩) (fun _ => S0) ?_
      rotate_left 1
      · intro w hSw
        try dsimp only at hSw
        go_simp
        first | done | with_reducible rfl
      try simp only [Act.put, List.setIfInBounds_toArray, List.set_cons_zero, List.set_cons_succ]
      refine Nt.takeS (i := 21) (oi := { dst := some 44, op := Op.load 9 (Operand.tmp 43), type := 9, pos := _, after := #[{ on := 20, ground := Ground.data }], guard := Option.none }) (v := ?_) rfl (by kernel_rfl) (by kernel_rfl) (by kernel_rfl) (by kernel_rfl) (by kernel_rfl) (by kernel_rfl) (fun _ _ _ h => h) (Or.inl ⟨by rfl, ?_⟩) S0 ?_
      rotate_left 1
      · intro w hSw
        try dsimp only at hSw
        go_simp
        first | done | with_reducible rfl
      try simp only [Act.put, List.setIfInBounds_toArray, List.set_cons_zero, List.set_cons_succ]
      refine Nt.par4a (F := 5) (fun i => if i % 2 = 0 then 25 + 2 * i else 26 + 2 * i) (fun k m => 2 + 4 * k + 3 * m) (fun n0 n1 n2 n3 => #[true, true, Nat.blt 0 n0, true, true, Nat.blt 1 n0, Nat.blt 0 n1, true, true, Nat.blt 1 n1, Nat.blt 0 n2, true, true, Nat.blt 1 n2, Nat.blt 0 n3, true, true, Nat.blt 1 n3, true, true, true, true, false, false, false, false, false])
        (fun W => Below wD.heap.size wD W) (SC (fun k => match k with | 0 => x.outs | 1 => x.ins | 2 => x.imp | _ => x.ord)) (by kernel_rfl) (by kernel_rfl) (by kernel_rfl) (by kernel_rfl) (Below.refl _ _) (fun _ _ _ => trivial) SC.mono hSS ?_ ?_
      · intro k hk m hm z w1 hW hS K hK
        rcases (by omega : k = 0 ∨ k = 1 ∨ k = 2 ∨ k = 3) with rfl | rfl | rfl | rfl <;> rcases (by omega : m = 0 ∨ m = 1) with rfl | rfl
        · show wpOp _ _ _ 2 _ _ _
          refine wpOp_step rfl (fun K' hK' => ?_)
          go_simp
          refine hK' _ _ ?_
          refine hK.out _ _ (hW.trans ((below_alloc w1 (.cells #[] 9)).mono hW.size)) (below_alloc _ _) ⟨w1.heap.size, rfl, heap_alloc_new w1 _⟩
        · show wpOp _ _ _ 5 _ _ _
          obtain ⟨xx, ez, hx⟩ := hS
          have ez : z 0 = .slice (some ⟨xx, 0, none⟩) 0 0 := ez
          obtain ⟨a', c', W', hrun, hst, hbw⟩ := run_copyK hx (HROW0.out.below hW) (by omega)
          refine wpOp_step rfl (fun K' hK' => ?_)
          refine step_run2 rfl (.tmp 25) (.tmp 27) rfl (by simp [Act.eval, Nt.puts, Act.put, ez]) (by simp [Act.eval, Nt.puts, Act.put]) hrun ?_
          refine hK' _ _ ?_
          exact hK.out _ _ (hW.trans (hbw.mono hW.size)) hbw ⟨a', c', rfl, hst⟩
        · show wpOp _ _ _ 6 _ _ _
          refine wpOp_step rfl (fun K' hK' => ?_)
          go_simp
          refine hK' _ _ ?_
          refine hK.out _ _ (hW.trans ((below_alloc w1 (.cells #[] 9)).mono hW.size)) (below_alloc _ _) ⟨w1.heap.size, rfl, heap_alloc_new w1 _⟩
        · show wpOp _ _ _ 9 _ _ _
          obtain ⟨xx, ez, hx⟩ := hS
          have ez : z 2 = .slice (some ⟨xx, 0, none⟩) 0 0 := ez
          obtain ⟨a', c', W', hrun, hst, hbw⟩ := run_copyK hx (HROW1.out.below hW) (by omega)
          refine wpOp_step rfl (fun K' hK' => ?_)
          refine step_run2 rfl (.tmp 29) (.tmp 31) rfl (by simp [Act.eval, Nt.puts, Act.put, ez]) (by simp [Act.eval, Nt.puts, Act.put]) hrun ?_
          refine hK' _ _ ?_
          exact hK.out _ _ (hW.trans (hbw.mono hW.size)) hbw ⟨a', c', rfl, hst⟩
        · show wpOp _ _ _ 10 _ _ _
          refine wpOp_step rfl (fun K' hK' => ?_)
          go_simp
          refine hK' _ _ ?_
          refine hK.out _ _ (hW.trans ((below_alloc w1 (.cells #[] 9)).mono hW.size)) (below_alloc _ _) ⟨w1.heap.size, rfl, heap_alloc_new w1 _⟩
        · show wpOp _ _ _ 13 _ _ _
          obtain ⟨xx, ez, hx⟩ := hS
          have ez : z 4 = .slice (some ⟨xx, 0, none⟩) 0 0 := ez
          obtain ⟨a', c', W', hrun, hst, hbw⟩ := run_copyK hx (HROW2.out.below hW) (by omega)
          refine wpOp_step rfl (fun K' hK' => ?_)
          refine step_run2 rfl (.tmp 33) (.tmp 35) rfl (by simp [Act.eval, Nt.puts, Act.put, ez]) (by simp [Act.eval, Nt.puts, Act.put]) hrun ?_
          refine hK' _ _ ?_
          exact hK.out _ _ (hW.trans (hbw.mono hW.size)) hbw ⟨a', c', rfl, hst⟩
        · show wpOp _ _ _ 14 _ _ _
          refine wpOp_step rfl (fun K' hK' => ?_)
          go_simp
          refine hK' _ _ ?_
          refine hK.out _ _ (hW.trans ((below_alloc w1 (.cells #[] 9)).mono hW.size)) (below_alloc _ _) ⟨w1.heap.size, rfl, heap_alloc_new w1 _⟩
        · show wpOp _ _ _ 17 _ _ _
          obtain ⟨xx, ez, hx⟩ := hS
          have ez : z 6 = .slice (some ⟨xx, 0, none⟩) 0 0 := ez
          obtain ⟨a', c', W', hrun, hst, hbw⟩ := run_copyK hx (HROW3.out.below hW) (by omega)
          refine wpOp_step rfl (fun K' hK' => ?_)
          refine step_run2 rfl (.tmp 37) (.tmp 39) rfl (by simp [Act.eval, Nt.puts, Act.put, ez]) (by simp [Act.eval, Nt.puts, Act.put]) hrun ?_
          refine hK' _ _ ?_
          exact hK.out _ _ (hW.trans (hbw.mono hW.size)) hbw ⟨a', c', rfl, hst⟩
      · intro z w1 hW h0 h1 h2 h3
        obtain ⟨b0, d0, e0, t0⟩ := h0
        obtain ⟨b1, d1, e1, t1⟩ := h1
        obtain ⟨b2, d2, e2, t2⟩ := h2
        obtain ⟨b3, d3, e3, t3⟩ := h3
        have e0 : z 1 = .slice b0 x.outs.length d0 := e0
        have e1 : z 3 = .slice b1 x.ins.length d1 := e1
        have e2 : z 5 = .slice b2 x.imp.length d2 := e2
        have e3 : z 7 = .slice b3 x.ord.length d3 := e3
        have hET : EdT w1 x (.slice b0 x.outs.length d0) (.slice b1 x.ins.length d1) (.slice b2 x.imp.length d2) (.slice b3 x.ord.length d3) := ⟨t0, t1, t2, t3⟩
        have S1 := hSS w1 hW
        have hA2 := below_alloc w1 (.cells #[.slice b0 x.outs.length d0, .slice b1 x.ins.length d1, .slice b2 x.imp.length d2, .slice b3 x.ord.length d3, .string (mk x.cmd), .string (mk x.dep)] 52)
        have S2 := hSS _ (hW.trans (hA2.mono hW.size))
        have hO2 := (HSD.out.own.below hW).below hA2
        obtain ⟨a9, c9, W5, hrun5, hO5, hb5, hk5⟩ := push_e hO2 (by have := HSD.out.bel.size; have := hW.size; have := hA2.size; omega) (by have := HTL.out; omega) (hET.keepT fun g C fr hg => hA2.block g (lt_some hg)) rfl rfl rfl rfl (heap_alloc_new w1 _)
        rw [HTL.out] at hrun5 hO5
        have hS5 := OfS.push (HSD.out.below (hW.trans (hA2.mono hW.size))) hO5 hb5 hk5
        have hq3 := (hk5 q3 _ _ _ (by decide) ((HSD.out.below (hW.trans (hA2.mono hW.size))).b3))
        have k0 : W5.cell? ⟨q3, 0, none⟩ = some (.slice va j vc) := by rw [Lib.cell_of_heap hq3]; rfl
        have f0 : W5.frozen? ⟨q3, 0, none⟩ = false := by simp [World.frozen?, hq3]
        have S3 : (fun w' => w'.cell? ⟨wr.heap.size, 0, none⟩ = some (.slice y0 x.outs.length z0) ∧ w'.cell? ⟨wr.heap.size, 1, none⟩ = some (.slice y1 x.ins.length z1) ∧ w'.cell? ⟨wr.heap.size, 2, none⟩ = some (.slice y2 x.imp.length z2) ∧ w'.cell? ⟨wr.heap.size, 3, none⟩ = some (.slice y3 x.ord.length z3) ∧ w'.cell? ⟨wr.heap.size, 4, none⟩ = some (.string (mk x.cmd)) ∧ w'.cell? ⟨wr.heap.size, 5, none⟩ = some (.string (mk x.dep)) ∧ w'.cell? ⟨q3, 0, none⟩ = some (.slice va j vc)) W5 := by
          have hqe := hk5 wr.heap.size _ _ _ (by decide) ((hA2.block _ (by have := hW.size; have := lt_some HQE.out; omega)).trans ((hW.block _ (lt_some HQE.out)).trans HQE.out))
          refine ⟨?_, ?_, ?_, ?_, ?_, ?_, k0⟩ <;> (rw [Lib.cell_of_heap hqe]; rfl)
        have HS5 := Lib.hid hS5
        have HR5 := Lib.hid hrun5
        simp only [Nt.puts, Act.put, List.setIfInBounds_toArray, List.set_cons_zero, List.set_cons_succ, e0, e1, e2, e3]
        clear hO2 hO5 hb5 hk5 hS5 hrun5 hq3 hET t0 t1 t2 t3 hA2
        refine Nt.takeT (i := 22) (oi := { dst := some 45, op := Op.build 52 #[(0, Operand.tmp 28), (1, Operand.tmp 32), (2, Operand.tmp 36), (3, Operand.tmp 40), (4, Operand.tmp 42), (5, Operand.tmp 44)], type := 52, pos := _, after := #[{ on := 5, ground := Ground.data }, { on := 9, ground := Ground.data }, { on := 13, ground := Ground.data }, { on := 17, ground := Ground.data }, { on := 19, ground := Ground.data }, { on := 21, ground := Ground.data }], guard := Option.none }) (v := ?_) rfl (by kernel_rfl) (by kernel_rfl) (by kernel_rfl) (by kernel_rfl) (fun _ _ _ h => h) (Or.inl ⟨by rfl, ?_⟩) (fun _ => S1) ?_
        rotate_left 1
        · intro w hSw
          try dsimp only at hSw
          go_simp
          first | done | with_reducible rfl
        try simp only [Act.put, List.setIfInBounds_toArray, List.set_cons_zero, List.set_cons_succ]
        refine Nt.nextN (i := 23) (by kernel_rfl) rfl (fun K hK => ?_)
        go_simp
        refine hK.out _ _ (fun _ => S2) ?_
        clear hK K
        try simp only [Act.put, List.setIfInBounds_toArray, List.set_cons_zero, List.set_cons_succ]
        refine Nt.nextN (i := 24) (by kernel_rfl) rfl (fun K hK => ?_)
        refine step_run2 rfl (.tmp 24) (.tmp 46) rfl (by simp [Act.eval]) (by simp [Act.eval]) HR5.out ?_
        refine hK.out _ _ (fun _ => S3) ?_
        clear hK K
        try simp only [Act.put, List.setIfInBounds_toArray, List.set_cons_zero, List.set_cons_succ]
        refine Nt.nextN (i := 25) (by kernel_rfl) rfl (fun K hK => ?_)
        go_simp
        refine hK.out _ _ (fun _ => S3) ?_
        clear hK K
        try simp only [Act.put, List.setIfInBounds_toArray, List.set_cons_zero, List.set_cons_succ]
        refine Nt.nextN (i := 26) (by kernel_rfl) rfl (fun K hK => ?_)
        go_simp
        refine hK.out _ _ (fun h => by simp at h) ?_
        clear hK K
        try simp only [Act.put, List.setIfInBounds_toArray, List.set_cons_zero, List.set_cons_succ]
        refine Nt.doneN (by kernel_rfl) ?_ _
        clear S1 S2 S3 k0 f0
        have HFIN := Lib.hid (HS5.out.stored HTK.out)
        go_wp2_with fail
        go_roundw
        case rel => exact ⟨j + 1, a9, c9, by omega, by go_num, HFIN⟩
        case measure => simp [intOf] <;> omega
    · obtain rfl : j = L.length := by omega
      rw [List.take_length] at HS
      have h3 := HS.out.b3
      have h1 := HS.out.b1
      have s0 : wr.cell? ⟨q3, 0, none⟩ = some (.slice va L.length vc) := by rw [Lib.cell_of_heap h3]; rfl
      have s1 : wr.cell? ⟨q3, 1, none⟩ = some (.slice da D.length dc) := by rw [Lib.cell_of_heap h3]; rfl
      have t0 : wr.cell? ⟨q1, 0, none⟩ = some (.slice none 0 0) := by rw [Lib.cell_of_heap h1]; rfl
      have t1 : wr.cell? ⟨q1, 1, none⟩ = some (.slice none 0 0) := by rw [Lib.cell_of_heap h1]; rfl
      have f0 : wr.frozen? ⟨q1, 0, none⟩ = false := by simp [World.frozen?, h1]
      have f1 : wr.frozen? ⟨q1, 1, none⟩ = false := by simp [World.frozen?, h1]
      have e1 : ((wr.setCell ⟨q1, 0, none⟩ (.slice va L.length vc)).setCell ⟨q1, 1, none⟩ (.slice da D.length dc)).heap[q1]? = some (.cells #[.slice va L.length vc, .slice da D.length dc] 33 (0, 0)) := by
        have := set_block (j := 1) (u := .slice da D.length dc) (set_block (j := 0) (u := .slice va L.length vc) h1)
        simpa using this
      have hT : ∀ (g : Nat) C t fr, t ≠ 33 → wr.heap[g]? = some (.cells C t fr) → ((wr.setCell ⟨q1, 0, none⟩ (.slice va L.length vc)).setCell ⟨q1, 1, none⟩ (.slice da D.length dc)).heap[g]? = wr.heap[g]? := fun g C t fr ht hg => by
        have hne : g ≠ q1 := fun e => by
          subst e
          rw [h1] at hg
          cases hg
          exact ht rfl
        rw [set_other hne, set_other hne]
      have HF := Lib.hid (show Eds ((wr.setCell ⟨q1, 0, none⟩ (.slice va L.length vc)).setCell ⟨q1, 1, none⟩ (.slice da D.length dc)) (.slice va L.length vc) L ∧ Strs ((wr.setCell ⟨q1, 0, none⟩ (.slice va L.length vc)).setCell ⟨q1, 1, none⟩ (.slice da D.length dc)) (.slice da D.length dc) D ∧ Below w.heap.size w ((wr.setCell ⟨q1, 0, none⟩ (.slice va L.length vc)).setCell ⟨q1, 1, none⟩ (.slice da D.length dc)) from
        ⟨(HS.out.own.keepT (fun g C fr hg => hT g C _ fr (by decide) hg) (fun g C fr hg => hT g C _ fr (by decide) hg)).eds, (HS.out.dS.keepT fun g C fr hg => hT g C _ fr (by decide) hg).1, (HS.out.bel.setCell (p := ⟨q1, 0, none⟩) HS.out.g1 _).setCell (p := ⟨q1, 1, none⟩) HS.out.g1 _⟩)
      have x0 : ((wr.setCell ⟨q1, 0, none⟩ (.slice va L.length vc)).setCell ⟨q1, 1, none⟩ (.slice da D.length dc)).cell? ⟨q1, 0, none⟩ = some (.slice va L.length vc) := by rw [Lib.cell_of_heap e1]; rfl
      have x1 : ((wr.setCell ⟨q1, 0, none⟩ (.slice va L.length vc)).setCell ⟨q1, 1, none⟩ (.slice da D.length dc)).cell? ⟨q1, 1, none⟩ = some (.slice da D.length dc) := by rw [Lib.cell_of_heap e1]; rfl
      clear h1 h3 e1 hT
      go_wp2_with fail
      refine bodyPost_ret (v := .agg #[.slice va L.length vc, .slice da D.length dc]) (by simp [results, Try.f12, go_sem, x0, x1]) rfl ?_
      exact ⟨_, _, rfl, HF.out⟩
end Go.Proofs.Ytbflodefmookiaa.Pr
