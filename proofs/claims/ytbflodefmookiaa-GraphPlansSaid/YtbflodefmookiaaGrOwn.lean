/-
  slices.Clone of names; own: an edge that shares no row.
  own: an edge that shares no row with the one that is handed in.
-/
import Derived.Test.YtbflodefmookiaaGrIno
import Derived.Deep.DeepCutAuto
namespace Go.Proofs.Ytbflodefmookiaa.Gr
open Go.RowKit Go.Maps Go.Proofs.Ytbflodefmookiaa Go.Proofs.Ytbflodefmookiaa.Pr

theorem nilS_yes (w : World) (c : Nat) : Sem.run Try.prog (binOp BinOp.eql 23 (.slice none 0 c) (.slice none 0 0)) w = .ok (.bool true) w := by kernel_rfl
theorem nilS_no (w : World) (ad : Addr) (n c : Nat) : Sem.run Try.prog (binOp BinOp.eql 23 (.slice (some ad) n c) (.slice none 0 0)) w = .ok (.bool false) w := by kernel_rfl

set_option maxRecDepth 100000 in
set_option maxHeartbeats 4000000 in
theorem clone_c {w : World} {v : Value} {K : List Bs} (h : Strs w v K) (hl : K.length ≤ 1000000) :
    Calls Try.prog 35 #[v] w fun e w' => ∃ a c, e = .returned (.slice a K.length c) ∧ StrsT w' (.slice a K.length c) K ∧ Below w.heap.size w w' := by
  obtain ⟨a, c, rfl, hc, hr⟩ := id h
  cases a with
  | none =>
    have hK : K = [] := by
      rcases hr with h | ⟨g, off, e, _⟩
      · exact h
      · cases e
    subst hK
    have hy := fun w => nilS_yes w c
    clear h hr hl hc
    go_enter Try.func35, Try.ntmps35
    go_wp2_with fail
    go_ret
    exact ⟨_, _, rfl, ⟨⟨_, _, rfl, Nat.le_refl _, .inl rfl⟩, .inl rfl⟩, Below.refl _ _⟩
  | some ad =>
    have hy := fun w => nilS_no w ad K.length c
    have hA := below_alloc w (.cells #[] 9)
    obtain ⟨a', c', W, hrun, hS, hB⟩ := run_copyK (heap_alloc_new w (.cells #[] 9)) (h.below hA) hl
    have HR := Lib.hid hrun
    have HF := Lib.hid (show StrsT W (.slice a' K.length c') K ∧ Below w.heap.size w W from ⟨hS, hA.trans (hB.mono hA.size)⟩)
    clear h hr hl hc hA hrun hS hB
    go_enter Try.func35, Try.ntmps35
    go_wp2_with (at_builtin; refine wpList_run rfl (.tmp 5) (.tmp 6) rfl rfl rfl HR.out ?_)
    go_ret
    exact ⟨_, _, rfl, HF.out⟩
end Go.Proofs.Ytbflodefmookiaa.Gr
namespace Go.Proofs.Ytbflodefmookiaa.Gr
open Go.RowKit Go.Maps Go.Proofs.Ytbflodefmookiaa Go.Proofs.Ytbflodefmookiaa.Pr

/-- the box of an edge: rows of the call's own, or those that were handed in -/
structure Ob (w0 w : World) (p : Nat) (e : Ed) (z : Nat → Value) : Prop where
  box : w.heap[p]? = some (.cells #[z 0, z 1, z 2, z 3, .string (mk e.cmd), .string (mk e.dep)] 52 (0, 0))
  bel : Below w0.heap.size w0 w
  ge : w0.heap.size ≤ p
  lt : p < w.heap.size
  nx : w.heap[p + 1]? = some (.cells #[.slice none 0 0, .slice none 0 0, .slice none 0 0, .slice none 0 0, .string ⟨#[]⟩, .string ⟨#[]⟩] 52 (0, 0))
theorem Ob.below {w0 w w' : World} {p : Nat} {e : Ed} {z : Nat → Value} (h : Ob w0 w p e z) (hb : Below w.heap.size w w') : Ob w0 w' p e z :=
  ⟨(hb.block _ h.lt).trans h.box, h.bel.trans (hb.mono h.bel.size), h.ge, Nat.lt_of_lt_of_le h.lt hb.size, (hb.block _ (lt_some h.nx)).trans h.nx⟩
theorem Ob.drew {w0 w : World} {p : Nat} {e : Ed} {z : Nat → Value} (h : Ob w0 w p e z) : Ob w0 w.drew p e z := ⟨h.box, Below.drew h.bel, h.ge, h.lt, h.nx⟩
def updz (z : Nat → Value) (i : Nat) (v : Value) : Nat → Value := fun k => if k = i then v else z k
theorem Ob.set {w0 w : World} {p : Nat} {e : Ed} {z : Nat → Value} (h : Ob w0 w p e z) (i : Nat) (hi : i < 4) (v : Value) : Ob w0 (w.setCell ⟨p, i, none⟩ v) p e (updz z i v) := by
  refine ⟨?_, h.bel.trans ⟨rfl, rfl, rfl, by simp [World.setCell], fun k hk => set_other ?_⟩, h.ge, by simpa [World.setCell] using h.lt, (set_other (by omega)).trans h.nx⟩
  · rw [set_block (j := i) h.box]
    rcases (by omega : i = 0 ∨ i = 1 ∨ i = 2 ∨ i = 3) with rfl | rfl | rfl | rfl <;> simp [updz]
  · have := h.ge; omega
theorem Ob.cell {w0 w : World} {p : Nat} {e : Ed} {z : Nat → Value} (h : Ob w0 w p e z) : w.cell? ⟨p, 0, none⟩ = some (z 0) ∧ w.cell? ⟨p, 1, none⟩ = some (z 1) ∧ w.cell? ⟨p, 2, none⟩ = some (z 2) ∧ w.cell? ⟨p, 3, none⟩ = some (z 3) ∧ w.cell? ⟨p, 4, none⟩ = some (.string (Go.Proofs.Ytbflodefmookiaa.mk e.cmd)) ∧ w.cell? ⟨p, 5, none⟩ = some (.string (Go.Proofs.Ytbflodefmookiaa.mk e.dep)) := by
  refine ⟨?_, ?_, ?_, ?_, ?_, ?_⟩ <;> (simp [World.cell?, h.box])
theorem Ob.frz {w0 w : World} {p : Nat} {e : Ed} {z : Nat → Value} (h : Ob w0 w p e z) (i : Nat) (hi : i < 6) : w.frozen? ⟨p, i, none⟩ = false := by
  rcases (by omega : i = 0 ∨ i = 1 ∨ i = 2 ∨ i = 3 ∨ i = 4 ∨ i = 5) with rfl | rfl | rfl | rfl | rfl | rfl <;> simp [World.frozen?, h.box]
/-- rows of texts stand when the box turns -/
theorem Ob.keepT {w0 w : World} {p : Nat} {e : Ed} {z : Nat → Value} (h : Ob w0 w p e z) (i : Nat) (v : Value) : KeepT w (w.setCell ⟨p, i, none⟩ v) := fun g C b hc => set_other fun e2 => by
  subst e2
  rw [h.box] at hc
  simp only [Option.some.injEq, Obj.cells.injEq] at hc
  exact absurd hc.2.1 (by decide)


def six (w : World) (q : Nat) (a0 a1 a2 a3 a4 a5 : Value) : World := (((((w.setCell ⟨q, 0, none⟩ a0).setCell ⟨q, 1, none⟩ a1).setCell ⟨q, 2, none⟩ a2).setCell ⟨q, 3, none⟩ a3).setCell ⟨q, 4, none⟩ a4).setCell ⟨q, 5, none⟩ a5
theorem six_set {w : World} {q : Nat} {b0 b1 b2 b3 b4 b5 a0 a1 a2 a3 a4 a5 : Value} {t : TypeId} (h : w.heap[q]? = some (.cells #[b0, b1, b2, b3, b4, b5] t (0, 0))) : (six w q a0 a1 a2 a3 a4 a5).heap[q]? = some (.cells #[a0, a1, a2, a3, a4, a5] t (0, 0)) := by
  have h0 := set_block (j := 0) (u := a0) h
  have h1 := set_block (j := 1) (u := a1) h0
  have h2 := set_block (j := 2) (u := a2) h1
  have h3 := set_block (j := 3) (u := a3) h2
  have h4 := set_block (j := 4) (u := a4) h3
  have h5 := set_block (j := 5) (u := a5) h4
  unfold six
  simpa using h5
theorem six_other {w : World} {q g : Nat} {a0 a1 a2 a3 a4 a5 : Value} (h : g ≠ q) : (six w q a0 a1 a2 a3 a4 a5).heap[g]? = w.heap[g]? := by
  unfold six
  rw [set_other h, set_other h, set_other h, set_other h, set_other h, set_other h]
theorem six_below {w0 w : World} {q : Nat} {a0 a1 a2 a3 a4 a5 : Value} (h : Below w0.heap.size w0 w) (hq : w0.heap.size ≤ q) : Below w0.heap.size w0 (six w q a0 a1 a2 a3 a4 a5) :=
  (((((h.setCell (p := ⟨q, 0, none⟩) hq a0).setCell (p := ⟨q, 1, none⟩) hq a1).setCell (p := ⟨q, 2, none⟩) hq a2).setCell (p := ⟨q, 3, none⟩) hq a3).setCell (p := ⟨q, 4, none⟩) hq a4).setCell (p := ⟨q, 5, none⟩) hq a5

set_option maxRecDepth 100000 in
set_option maxHeartbeats 16000000 in
theorem own_c {w : World} {e : Ed} {v0 v1 v2 v3 : Value} (h : EdV w e v0 v1 v2 v3) (hs : Sm e) :
    Calls Try.prog 36 #[.agg #[v0, v1, v2, v3, .string (mk e.cmd), .string (mk e.dep)]] w fun x w' => ∃ u0 u1 u2 u3, x = .returned (.agg #[u0, u1, u2, u3, .string (mk e.cmd), .string (mk e.dep)]) ∧ EdT w' e u0 u1 u2 u3 ∧ Below w.heap.size w w' := by
  have hA := below_alloc w (.cells #[v0, v1, v2, v3, .string (mk e.cmd), .string (mk e.dep)] 52)
  have hN := heap_alloc_new w (.cells #[v0, v1, v2, v3, .string (mk e.cmd), .string (mk e.dep)] 52)
  have hsz : (w.alloc (.cells #[v0, v1, v2, v3, .string (mk e.cmd), .string (mk e.dep)] 52)).heap.size = w.heap.size + 1 := Array.size_push _
  generalize hwA : w.alloc (.cells #[v0, v1, v2, v3, .string (mk e.cmd), .string (mk e.dep)] 52) = wA at *
  have hB := below_alloc wA (.cells #[.slice none 0 0, .slice none 0 0, .slice none 0 0, .slice none 0 0, .string ⟨#[]⟩, .string ⟨#[]⟩] 52)
  have hNB := heap_alloc_new wA (.cells #[.slice none 0 0, .slice none 0 0, .slice none 0 0, .slice none 0 0, .string ⟨#[]⟩, .string ⟨#[]⟩] 52)
  have hObB : Ob w (wA.alloc (.cells #[.slice none 0 0, .slice none 0 0, .slice none 0 0, .slice none 0 0, .string ⟨#[]⟩, .string ⟨#[]⟩] 52)) w.heap.size e (fun k => if k = 0 then v0 else if k = 1 then v1 else if k = 2 then v2 else v3) := ⟨(hB.block _ (by omega)).trans hN, hA.trans (hB.mono hA.size), Nat.le_refl _, by have := hB.size; omega, by rw [← hsz]; exact hNB⟩
  generalize hwB : wA.alloc (.cells #[.slice none 0 0, .slice none 0 0, .slice none 0 0, .slice none 0 0, .string ⟨#[]⟩, .string ⟨#[]⟩] 52) = wB at *
  obtain ⟨p, hp⟩ : ∃ p, w.heap.size = p := ⟨_, rfl⟩
  obtain ⟨q, hq⟩ : ∃ q, p + 1 = q := ⟨_, rfl⟩
  rw [hp] at hObB
  have HW : Hid ((w.alloc (.cells #[v0, v1, v2, v3, .string (mk e.cmd), .string (mk e.dep)] 52)).alloc (.cells #[.slice none 0 0, .slice none 0 0, .slice none 0 0, .slice none 0 0, .string ⟨#[]⟩, .string ⟨#[]⟩] 52) = wB) := Lib.hid (by rw [hwA, hwB])
  have HOR := Lib.hid hObB
  have HE := Lib.hid h
  have HS := Lib.hid hs
  have HQ : Hid (p + 1 = q) := Lib.hid hq
  clear h hs hA hN hsz hB hNB hObB hwB hwA
  go_enter Try.func36, Try.ntmps36
  go_upto_region 1 with fail
  rw [HW.out]
  clear HW hp hq
  go_cut [2] (fun s2 wx => s2 = .pointer (some ⟨q, 0, none⟩) ∧ ∃ z : Nat → Value, Hid (Ob w wx p e z) ∧ Hid (z 2 = v2 ∧ z 3 = v3 ∧ StrsT wx (z 0) e.outs ∧ StrsT wx (z 1) e.ins))
  case first =>
    refine Nt.wp_region_N 7 (fun w' => w'.cell? ⟨p, 0, none⟩ = some v0 ∧ w'.cell? ⟨p, 1, none⟩ = some v1) (by kernel_rfl) ?_
    have hO0 := HOR.out.drew
    have S0 : wB.drew.cell? ⟨p, 0, none⟩ = some v0 ∧ wB.drew.cell? ⟨p, 1, none⟩ = some v1 := ⟨hO0.cell.1, hO0.cell.2.1⟩
    have hca := clone_c (HE.out.o.below hO0.bel) (by have := HS.out.o; omega)
    have hbD : Below wB.heap.size wB wB.drew := Below.drew (Below.refl _ _)
    have hTD := fun (v : Value) (K : List Bs) (h : StrsT wB v K) => h.below hbD
    clear hTD hbD
    generalize wB.drew = D at *
    have HO0 := Lib.hid hO0
    clear hO0
    refine Nt.takeT (i := 0) (oi := { dst := some 3, op := Op.fieldAddr 52 (Operand.tmp 1) 0, type := 0, pos := _, after := #[], guard := Option.none }) (v := ?_) rfl (by kernel_rfl) (by kernel_rfl) (by kernel_rfl) (by kernel_rfl) (fun _ _ _ h => h) (Or.inl ⟨by rfl, ?_⟩) (fun _ => S0) ?_
    rotate_left 1
    · intro w hSw
      try dsimp only at hSw
      go_simp
      first | done | with_reducible rfl
    try simp only [Act.put, List.setIfInBounds_toArray, List.set_cons_zero, List.set_cons_succ]
    refine Nt.takeS (i := 1) (oi := { dst := some 4, op := Op.load 23 (Operand.tmp 3), type := 23, pos := _, after := #[{ on := 0, ground := Ground.data }], guard := Option.none }) (v := ?_) rfl (by kernel_rfl) (by kernel_rfl) (by kernel_rfl) (by kernel_rfl) (by kernel_rfl) (by kernel_rfl) (fun _ _ _ h => h) (Or.inl ⟨by rfl, ?_⟩) S0 ?_
    rotate_left 1
    · intro w hSw
      try dsimp only at hSw
      go_simp
      first | done | with_reducible rfl
    try simp only [Act.put, List.setIfInBounds_toArray, List.set_cons_zero, List.set_cons_succ]
    refine Nt.takeT (i := 3) (oi := { dst := some 6, op := Op.fieldAddr 52 (Operand.tmp 1) 1, type := 0, pos := _, after := #[], guard := Option.none }) (v := ?_) rfl (by kernel_rfl) (by kernel_rfl) (by kernel_rfl) (by kernel_rfl) (fun _ _ _ h => h) (Or.inl ⟨by rfl, ?_⟩) (fun _ => S0) ?_
    rotate_left 1
    · intro w hSw
      try dsimp only at hSw
      go_simp
      first | done | with_reducible rfl
    try simp only [Act.put, List.setIfInBounds_toArray, List.set_cons_zero, List.set_cons_succ]
    refine Nt.takeS (i := 4) (oi := { dst := some 7, op := Op.load 23 (Operand.tmp 6), type := 23, pos := _, after := #[{ on := 3, ground := Ground.data }], guard := Option.none }) (v := ?_) rfl (by kernel_rfl) (by kernel_rfl) (by kernel_rfl) (by kernel_rfl) (by kernel_rfl) (by kernel_rfl) (fun _ _ _ h => h) (Or.inl ⟨by rfl, ?_⟩) S0 ?_
    rotate_left 1
    · intro w hSw
      try dsimp only at hSw
      go_simp
      first | done | with_reducible rfl
    try simp only [Act.put, List.setIfInBounds_toArray, List.set_cons_zero, List.set_cons_succ]
    refine Nt.nextN (i := 2) (by kernel_rfl) rfl (fun K hK => ?_)
    go_simp
    refine hca.mono ?_
    rintro _ w1 ⟨a0, c0, rfl, hT0, hb0⟩
    have HO1 := Lib.hid (HO0.out.below hb0)
    have S1 : w1.cell? ⟨p, 0, none⟩ = some v0 ∧ w1.cell? ⟨p, 1, none⟩ = some v1 := ⟨HO1.out.cell.1, HO1.out.cell.2.1⟩
    have HT0 := Lib.hid hT0
    have fz := HO1.out.frz 0 (by omega)
    clear hca S0 hT0 hb0
    refine hK.out _ _ (fun _ => S1) ?_
    clear hK K
    try simp only [Act.put, List.setIfInBounds_toArray, List.set_cons_zero, List.set_cons_succ]
    refine Nt.takeT (i := 6) (oi := { dst := some 9, op := Op.fieldAddr 52 (Operand.tmp 1) 0, type := 0, pos := _, after := #[{ on := 0, ground := Ground.phase }, { on := 1, ground := Ground.phase }, { on := 2, ground := Ground.phase }, { on := 3, ground := Ground.phase }, { on := 4, ground := Ground.phase }, { on := 5, ground := Ground.textOnly Departure.lateStoresUnsure }], guard := Option.none }) (v := ?_) rfl (by kernel_rfl) (by kernel_rfl) (by kernel_rfl) (by kernel_rfl) (fun _ _ _ h => h) (Or.inl ⟨by rfl, ?_⟩) (fun _ => S1) ?_
    rotate_left 1
    · intro w hSw
      try dsimp only at hSw
      go_simp
      first | done | with_reducible rfl
    try simp only [Act.put, List.setIfInBounds_toArray, List.set_cons_zero, List.set_cons_succ]
    refine Nt.nextN (i := 5) (by kernel_rfl) rfl (fun K hK => ?_)
    have hcb := clone_c (HE.out.i.below HO1.out.bel) (by have := HS.out.i; omega)
    go_simp
    refine hcb.mono ?_
    rintro _ w2 ⟨a1, c1, rfl, hT1, hb1⟩
    have HO2 := Lib.hid (HO1.out.below hb1)
    have S2 : w2.cell? ⟨p, 0, none⟩ = some v0 ∧ w2.cell? ⟨p, 1, none⟩ = some v1 := ⟨HO2.out.cell.1, HO2.out.cell.2.1⟩
    have HO3 := Lib.hid (HO2.out.set 0 (by omega) (.slice a0 e.outs.length c0))
    have HO4 := Lib.hid (HO3.out.set 1 (by omega) (.slice a1 e.ins.length c1))
    have fz2 := HO2.out.frz 0 (by omega)
    have S3 : (w2.setCell ⟨p, 0, none⟩ (.slice a0 e.outs.length c0)).cell? ⟨p, 1, none⟩ = some v1 := HO3.out.cell.2.1
    have fz3 := HO3.out.frz 1 (by omega)
    have HT := Lib.hid (show StrsT ((w2.setCell ⟨p, 0, none⟩ (.slice a0 e.outs.length c0)).setCell ⟨p, 1, none⟩ (.slice a1 e.ins.length c1)) (.slice a0 e.outs.length c0) e.outs ∧ StrsT ((w2.setCell ⟨p, 0, none⟩ (.slice a0 e.outs.length c0)).setCell ⟨p, 1, none⟩ (.slice a1 e.ins.length c1)) (.slice a1 e.ins.length c1) e.ins from ⟨((HT0.out.below hb1).keepT (HO2.out.keepT _ _)).keepT (HO3.out.keepT _ _), (hT1.keepT (HO2.out.keepT _ _)).keepT (HO3.out.keepT _ _)⟩)
    clear hcb S1 fz hT1 hb1
    refine hK.out _ _ (fun _ => S2) ?_
    clear hK K
    try simp only [Act.put, List.setIfInBounds_toArray, List.set_cons_zero, List.set_cons_succ]
    refine Nt.nextN (i := 7) (by kernel_rfl) rfl (fun K hK => ?_)
    go_simp
    refine hK.out _ _ (fun h => by simp at h) ?_
    clear hK K
    try simp only [Act.put, List.setIfInBounds_toArray, List.set_cons_zero, List.set_cons_succ]
    refine Nt.nextN (i := 8) (by kernel_rfl) rfl (fun K hK => ?_)
    go_simp
    refine hK.out _ _ (fun h => by simp at h) ?_
    clear hK K
    try simp only [Act.put, List.setIfInBounds_toArray, List.set_cons_zero, List.set_cons_succ]
    refine Nt.nextN (i := 9) (by kernel_rfl) rfl (fun K hK => ?_)
    go_simp
    refine hK.out _ _ (fun h => by simp at h) ?_
    clear hK K
    try simp only [Act.put, List.setIfInBounds_toArray, List.set_cons_zero, List.set_cons_succ]
    refine Nt.doneN (by kernel_rfl) ?_ _
    go_wp2_with fail
    go_meet
    case rel => exact ⟨rfl, _, HO4, Lib.hid ⟨rfl, rfl, HT.out⟩⟩
  case rest =>
    obtain ⟨rfl, z, HOZ, HZ⟩ := hcut
    go_upto_region 2 with fail
    go_cut [2] (fun s2 wx => s2 = .pointer (some ⟨q, 0, none⟩) ∧ ∃ z : Nat → Value, Hid (Ob w wx p e z) ∧ Hid (StrsT wx (z 0) e.outs ∧ StrsT wx (z 1) e.ins ∧ StrsT wx (z 2) e.imp ∧ StrsT wx (z 3) e.ord))
    case first =>
      refine Nt.wp_region_N 7 (fun w' => w'.cell? ⟨p, 2, none⟩ = some v2 ∧ w'.cell? ⟨p, 3, none⟩ = some v3) (by kernel_rfl) ?_
      have hO0 := HOZ.out.drew
      have S0 : wc.drew.cell? ⟨p, 2, none⟩ = some v2 ∧ wc.drew.cell? ⟨p, 3, none⟩ = some v3 := ⟨by rw [hO0.cell.2.2.1, HZ.out.1], by rw [hO0.cell.2.2.2.1, HZ.out.2.1]⟩
      have hca := clone_c (HE.out.m.below hO0.bel) (by have := HS.out.m; omega)
      have hbD : Below wc.heap.size wc wc.drew := Below.drew (Below.refl _ _)
      have hTD := fun (v : Value) (K : List Bs) (h : StrsT wc v K) => h.below hbD
      have HT01 : Hid (StrsT wc.drew (z 0) e.outs ∧ StrsT wc.drew (z 1) e.ins) := Lib.hid ⟨hTD _ _ HZ.out.2.2.1, hTD _ _ HZ.out.2.2.2⟩
      clear hTD hbD
      generalize wc.drew = D at *
      have HO0 := Lib.hid hO0
      clear hO0
      refine Nt.takeT (i := 0) (oi := { dst := some 11, op := Op.fieldAddr 52 (Operand.tmp 1) 2, type := 0, pos := _, after := #[], guard := Option.none }) (v := ?_) rfl (by kernel_rfl) (by kernel_rfl) (by kernel_rfl) (by kernel_rfl) (fun _ _ _ h => h) (Or.inl ⟨by rfl, ?_⟩) (fun _ => S0) ?_
      rotate_left 1
      · intro w hSw
        try dsimp only at hSw
        go_simp
        first | done | with_reducible rfl
      try simp only [Act.put, List.setIfInBounds_toArray, List.set_cons_zero, List.set_cons_succ]
      refine Nt.takeS (i := 1) (oi := { dst := some 12, op := Op.load 23 (Operand.tmp 11), type := 23, pos := _, after := #[{ on := 0, ground := Ground.data }], guard := Option.none }) (v := ?_) rfl (by kernel_rfl) (by kernel_rfl) (by kernel_rfl) (by kernel_rfl) (by kernel_rfl) (by kernel_rfl) (fun _ _ _ h => h) (Or.inl ⟨by rfl, ?_⟩) S0 ?_
      rotate_left 1
      · intro w hSw
        try dsimp only at hSw
        go_simp
        first | done | with_reducible rfl
      try simp only [Act.put, List.setIfInBounds_toArray, List.set_cons_zero, List.set_cons_succ]
      refine Nt.takeT (i := 3) (oi := { dst := some 14, op := Op.fieldAddr 52 (Operand.tmp 1) 3, type := 0, pos := _, after := #[], guard := Option.none }) (v := ?_) rfl (by kernel_rfl) (by kernel_rfl) (by kernel_rfl) (by kernel_rfl) (fun _ _ _ h => h) (Or.inl ⟨by rfl, ?_⟩) (fun _ => S0) ?_
      rotate_left 1
      · intro w hSw
        try dsimp only at hSw
        go_simp
        first | done | with_reducible rfl
      try simp only [Act.put, List.setIfInBounds_toArray, List.set_cons_zero, List.set_cons_succ]
      refine Nt.takeS (i := 4) (oi := { dst := some 15, op := Op.load 23 (Operand.tmp 14), type := 23, pos := _, after := #[{ on := 3, ground := Ground.data }], guard := Option.none }) (v := ?_) rfl (by kernel_rfl) (by kernel_rfl) (by kernel_rfl) (by kernel_rfl) (by kernel_rfl) (by kernel_rfl) (fun _ _ _ h => h) (Or.inl ⟨by rfl, ?_⟩) S0 ?_
      rotate_left 1
      · intro w hSw
        try dsimp only at hSw
        go_simp
        first | done | with_reducible rfl
      try simp only [Act.put, List.setIfInBounds_toArray, List.set_cons_zero, List.set_cons_succ]
      refine Nt.nextN (i := 2) (by kernel_rfl) rfl (fun K hK => ?_)
      go_simp
      refine hca.mono ?_
      rintro _ w1 ⟨a0, c0, rfl, hT0, hb0⟩
      have HO1 := Lib.hid (HO0.out.below hb0)
      have S1 : w1.cell? ⟨p, 2, none⟩ = some v2 ∧ w1.cell? ⟨p, 3, none⟩ = some v3 := ⟨by rw [HO1.out.cell.2.2.1, HZ.out.1], by rw [HO1.out.cell.2.2.2.1, HZ.out.2.1]⟩
      have HT0 := Lib.hid hT0
      have HT01x : Hid (StrsT w1 (z 0) e.outs ∧ StrsT w1 (z 1) e.ins) := Lib.hid ⟨HT01.out.1.below hb0, HT01.out.2.below hb0⟩
      have fz := HO1.out.frz 2 (by omega)
      clear hca S0 hT0 hb0
      refine hK.out _ _ (fun _ => S1) ?_
      clear hK K
      try simp only [Act.put, List.setIfInBounds_toArray, List.set_cons_zero, List.set_cons_succ]
      refine Nt.takeT (i := 6) (oi := { dst := some 17, op := Op.fieldAddr 52 (Operand.tmp 1) 2, type := 0, pos := _, after := #[{ on := 0, ground := Ground.phase }, { on := 1, ground := Ground.phase }, { on := 2, ground := Ground.phase }, { on := 3, ground := Ground.phase }, { on := 4, ground := Ground.phase }, { on := 5, ground := Ground.textOnly Departure.lateStoresUnsure }], guard := Option.none }) (v := ?_) rfl (by kernel_rfl) (by kernel_rfl) (by kernel_rfl) (by kernel_rfl) (fun _ _ _ h => h) (Or.inl ⟨by rfl, ?_⟩) (fun _ => S1) ?_
      rotate_left 1
      · intro w hSw
        try dsimp only at hSw
        go_simp
        first | done | with_reducible rfl
      try simp only [Act.put, List.setIfInBounds_toArray, List.set_cons_zero, List.set_cons_succ]
      refine Nt.nextN (i := 5) (by kernel_rfl) rfl (fun K hK => ?_)
      have hcb := clone_c (HE.out.r.below HO1.out.bel) (by have := HS.out.r; omega)
      go_simp
      refine hcb.mono ?_
      rintro _ w2 ⟨a1, c1, rfl, hT1, hb1⟩
      have HO2 := Lib.hid (HO1.out.below hb1)
      have S2 : w2.cell? ⟨p, 2, none⟩ = some v2 ∧ w2.cell? ⟨p, 3, none⟩ = some v3 := ⟨by rw [HO2.out.cell.2.2.1, HZ.out.1], by rw [HO2.out.cell.2.2.2.1, HZ.out.2.1]⟩
      have HO3 := Lib.hid (HO2.out.set 2 (by omega) (.slice a0 e.imp.length c0))
      have HO4 := Lib.hid (HO3.out.set 3 (by omega) (.slice a1 e.ord.length c1))
      have fz2 := HO2.out.frz 2 (by omega)
      have S3 : (w2.setCell ⟨p, 2, none⟩ (.slice a0 e.imp.length c0)).cell? ⟨p, 3, none⟩ = some v3 := by rw [HO3.out.cell.2.2.2.1]; show some (z 3) = _; rw [HZ.out.2.1]
      have fz3 := HO3.out.frz 3 (by omega)
      have HT := Lib.hid (show StrsT ((w2.setCell ⟨p, 2, none⟩ (.slice a0 e.imp.length c0)).setCell ⟨p, 3, none⟩ (.slice a1 e.ord.length c1)) (.slice a0 e.imp.length c0) e.imp ∧ StrsT ((w2.setCell ⟨p, 2, none⟩ (.slice a0 e.imp.length c0)).setCell ⟨p, 3, none⟩ (.slice a1 e.ord.length c1)) (.slice a1 e.ord.length c1) e.ord from ⟨((HT0.out.below hb1).keepT (HO2.out.keepT _ _)).keepT (HO3.out.keepT _ _), (hT1.keepT (HO2.out.keepT _ _)).keepT (HO3.out.keepT _ _)⟩)
      have HT9 := Lib.hid (show StrsT ((w2.setCell ⟨p, 2, none⟩ (.slice a0 e.imp.length c0)).setCell ⟨p, 3, none⟩ (.slice a1 e.ord.length c1)) (z 0) e.outs ∧ StrsT ((w2.setCell ⟨p, 2, none⟩ (.slice a0 e.imp.length c0)).setCell ⟨p, 3, none⟩ (.slice a1 e.ord.length c1)) (z 1) e.ins from ⟨((HT01x.out.1.below hb1).keepT (HO2.out.keepT _ _)).keepT (HO3.out.keepT _ _), ((HT01x.out.2.below hb1).keepT (HO2.out.keepT _ _)).keepT (HO3.out.keepT _ _)⟩)
      clear hcb S1 fz hT1 hb1
      refine hK.out _ _ (fun _ => S2) ?_
      clear hK K
      try simp only [Act.put, List.setIfInBounds_toArray, List.set_cons_zero, List.set_cons_succ]
      refine Nt.nextN (i := 7) (by kernel_rfl) rfl (fun K hK => ?_)
      go_simp
      refine hK.out _ _ (fun h => by simp at h) ?_
      clear hK K
      try simp only [Act.put, List.setIfInBounds_toArray, List.set_cons_zero, List.set_cons_succ]
      refine Nt.nextN (i := 8) (by kernel_rfl) rfl (fun K hK => ?_)
      go_simp
      refine hK.out _ _ (fun h => by simp at h) ?_
      clear hK K
      try simp only [Act.put, List.setIfInBounds_toArray, List.set_cons_zero, List.set_cons_succ]
      refine Nt.nextN (i := 9) (by kernel_rfl) rfl (fun K hK => ?_)
      go_simp
      refine hK.out _ _ (fun h => by simp at h) ?_
      clear hK K
      try simp only [Act.put, List.setIfInBounds_toArray, List.set_cons_zero, List.set_cons_succ]
      refine Nt.doneN (by kernel_rfl) ?_ _
      go_wp2_with fail
      go_meet
      case rel => exact ⟨rfl, _, HO4, Lib.hid ⟨HT9.out.1, HT9.out.2, HT.out⟩⟩
    case rest =>
      clear HOZ HZ z
      obtain ⟨rfl, z, HOZ, HZ⟩ := hcut
      obtain ⟨⟨x0, y0, e0, -⟩, -⟩ := id HZ.out.1
      obtain ⟨⟨x1, y1, e1, -⟩, -⟩ := id HZ.out.2.1
      obtain ⟨⟨x2, y2, e2, -⟩, -⟩ := id HZ.out.2.2.1
      obtain ⟨⟨x3, y3, e3, -⟩, -⟩ := id HZ.out.2.2.2
      obtain ⟨f0, f1, f2, f3, f4, f5⟩ := HOZ.out.cell
      have hnx := HOZ.out.nx
      rw [HQ.out] at hnx
      obtain ⟨g0, g1, g2, g3, g4, g5⟩ : wc.cell? ⟨q, 0, none⟩ = some (.slice none 0 0) ∧ wc.cell? ⟨q, 1, none⟩ = some (.slice none 0 0) ∧ wc.cell? ⟨q, 2, none⟩ = some (.slice none 0 0) ∧ wc.cell? ⟨q, 3, none⟩ = some (.slice none 0 0) ∧ wc.cell? ⟨q, 4, none⟩ = some (.string ⟨#[]⟩) ∧ wc.cell? ⟨q, 5, none⟩ = some (.string ⟨#[]⟩) := by
        refine ⟨?_, ?_, ?_, ?_, ?_, ?_⟩ <;> (simp [World.cell?, hnx])
      obtain ⟨k0, k1, k2, k3, k4, k5⟩ : wc.frozen? ⟨q, 0, none⟩ = false ∧ wc.frozen? ⟨q, 1, none⟩ = false ∧ wc.frozen? ⟨q, 2, none⟩ = false ∧ wc.frozen? ⟨q, 3, none⟩ = false ∧ wc.frozen? ⟨q, 4, none⟩ = false ∧ wc.frozen? ⟨q, 5, none⟩ = false := by
        refine ⟨?_, ?_, ?_, ?_, ?_, ?_⟩ <;> (simp [World.frozen?, hnx])
      rw [e0] at f0
      rw [e1] at f1
      rw [e2] at f2
      rw [e3] at f3
      have HZ2 := HZ
      rw [e0, e1, e2, e3] at HZ2
      have HNX := Lib.hid hnx
      clear hnx e0 e1 e2 e3 HZ
      have hq1 := HQ.out
      have hge := HOZ.out.ge
      have hfin : EdT (six wc q (.slice x0 e.outs.length y0) (.slice x1 e.ins.length y1) (.slice x2 e.imp.length y2) (.slice x3 e.ord.length y3) (.string (mk e.cmd)) (.string (mk e.dep))) e (.slice x0 e.outs.length y0) (.slice x1 e.ins.length y1) (.slice x2 e.imp.length y2) (.slice x3 e.ord.length y3) := by
        have hk : ∀ (g : Nat) C fr, wc.heap[g]? = some (.cells C 9 fr) → (six wc q (.slice x0 e.outs.length y0) (.slice x1 e.ins.length y1) (.slice x2 e.imp.length y2) (.slice x3 e.ord.length y3) (.string (mk e.cmd)) (.string (mk e.dep))).heap[g]? = wc.heap[g]? := fun g C fr hc => six_other fun e2 => by
          subst e2
          have h9 := HNX.out
          rw [h9] at hc
          simp only [Option.some.injEq, Obj.cells.injEq] at hc
          exact absurd hc.2.1 (by decide)
        exact ⟨HZ2.out.1.keepT hk, HZ2.out.2.1.keepT hk, HZ2.out.2.2.1.keepT hk, HZ2.out.2.2.2.keepT hk⟩
      have HFin : Hid (EdT (six wc q (.slice x0 e.outs.length y0) (.slice x1 e.ins.length y1) (.slice x2 e.imp.length y2) (.slice x3 e.ord.length y3) (.string (mk e.cmd)) (.string (mk e.dep))) e (.slice x0 e.outs.length y0) (.slice x1 e.ins.length y1) (.slice x2 e.imp.length y2) (.slice x3 e.ord.length y3) ∧ Below w.heap.size w (six wc q (.slice x0 e.outs.length y0) (.slice x1 e.ins.length y1) (.slice x2 e.imp.length y2) (.slice x3 e.ord.length y3) (.string (mk e.cmd)) (.string (mk e.dep)))) := Lib.hid ⟨hfin, six_below HOZ.out.bel (by omega)⟩
      have hsx := six_set (a0 := .slice x0 e.outs.length y0) (a1 := .slice x1 e.ins.length y1) (a2 := .slice x2 e.imp.length y2) (a3 := .slice x3 e.ord.length y3) (a4 := .string (mk e.cmd)) (a5 := .string (mk e.dep)) HNX.out
      have HSX := Lib.hid hsx
      have HWX : Hid (six wc q (.slice x0 e.outs.length y0) (.slice x1 e.ins.length y1) (.slice x2 e.imp.length y2) (.slice x3 e.ord.length y3) (.string (mk e.cmd)) (.string (mk e.dep)) = (((((wc.setCell ⟨q, 0, none⟩ (.slice x0 e.outs.length y0)).setCell ⟨q, 1, none⟩ (.slice x1 e.ins.length y1)).setCell ⟨q, 2, none⟩ (.slice x2 e.imp.length y2)).setCell ⟨q, 3, none⟩ (.slice x3 e.ord.length y3)).setCell ⟨q, 4, none⟩ (.string (mk e.cmd))).setCell ⟨q, 5, none⟩ (.string (mk e.dep))) := Lib.hid rfl
      clear hfin hsx hq1 hge
      go_wp2_with fail
      rw [← HWX.out]
      generalize six wc q (.slice x0 e.outs.length y0) (.slice x1 e.ins.length y1) (.slice x2 e.imp.length y2) (.slice x3 e.ord.length y3) (.string (mk e.cmd)) (.string (mk e.dep)) = W6 at *
      obtain ⟨r0, r1, r2, r3, r4, r5⟩ : W6.cell? ⟨q, 0, none⟩ = some (.slice x0 e.outs.length y0) ∧ W6.cell? ⟨q, 1, none⟩ = some (.slice x1 e.ins.length y1) ∧ W6.cell? ⟨q, 2, none⟩ = some (.slice x2 e.imp.length y2) ∧ W6.cell? ⟨q, 3, none⟩ = some (.slice x3 e.ord.length y3) ∧ W6.cell? ⟨q, 4, none⟩ = some (.string (mk e.cmd)) ∧ W6.cell? ⟨q, 5, none⟩ = some (.string (mk e.dep)) := by
        refine ⟨?_, ?_, ?_, ?_, ?_, ?_⟩ <;> (rw [Lib.cell_of_heap HSX.out]; rfl)
      clear g0 g1 g2 g3 g4 g5 k0 k1 k2 k3 k4 k5 f0 f1 f2 f3 f4 f5
      refine bodyPost_ret (v := .agg #[.slice x0 e.outs.length y0, .slice x1 e.ins.length y1, .slice x2 e.imp.length y2, .slice x3 e.ord.length y3, .string (mk e.cmd), .string (mk e.dep)]) (by simp [results, Try.f36, go_sem, r0, r1, r2, r3, r4, r5]) rfl ?_
      exact ⟨_, _, _, _, rfl, HFin.out⟩
end Go.Proofs.Ytbflodefmookiaa.Gr
