/-
  THE DOCUMENT's In, Maker.
  THE DOCUMENT's Needs.
-/
import Derived.Test.YtbflodefmookiaaGrMkS
import Derived.Test.YtbflodefmookiaaGrLit
import Derived.Test.YtbflodefmookiaaRgHold
namespace Go.Proofs.Ytbflodefmookiaa.Gr
open Go.RowKit Go.Maps Go.Proofs.Ytbflodefmookiaa Go.Proofs.Ytbflodefmookiaa.Pr

set_option maxRecDepth 100000 in
set_option maxHeartbeats 8000000 in
theorem in_c {w : World} {v : Value} {K : List Bs} {s : Bs} (hK : Strs w v K) (hk : K.length ≤ 1000000) : Calls Try.prog 38 #[v, .string (mk s)] w fun e w' => e = .returned (.bool (decide (s ∈ K))) ∧ Below w.heap.size w w' := by
  obtain ⟨a, c, rfl, hc, hra⟩ := hK
  have HA := Lib.hid hra
  clear hra
  go_enter Try.func38, Try.ntmps38
  go_wp2_with fail
  go_loopw [5] (fun i wr => ∃ j : Nat, j ≤ K.length ∧ i = .int .i64 j ∧ Hid (s ∉ K.take j) ∧ Hid (Below w.heap.size w wr)) (fun i _ => K.length - (intOf i).toNat)
  case atStart => exact ⟨0, Nat.zero_le _, rfl, Lib.hid (by simp), Lib.hid (Below.refl _ _)⟩
  case round =>
    obtain ⟨j, hj, rfl, hT, HWW⟩ := hrel
    by_cases hlt : j < K.length
    · have hx := List.getElem?_eq_getElem hlt
      have hmem := List.getElem_mem hlt
      rcases HA.out with h0 | ⟨ga, oa, rfl, hga, hca⟩
      · rw [h0] at hlt; simp at hlt
      have c1 := (cell_of_block (HWW.out.block ga hga)).trans (hca j _ hx)
      have ht1 : K.take (j + 1) = K.take j ++ [K[j]] := by rw [List.take_add_one, hx]; rfl
      generalize K[j] = x at *
      have hi0 : (0 : Int) ≤ (j : Int) := by omega
      have hi1 : (j : Int) < (K.length : Int) := by omega
      have hcmp := cmpS x s
      by_cases hxy : x = s
      · rw [decide_eq_true hxy] at hcmp
        have HE : Hid (decide (s ∈ K) = true) := Lib.hid (decide_eq_true (hxy ▸ hmem))
        clear hx hca ht1 hxy hmem
        go_wp2_with fail
        go_ret
        exact ⟨by rw [HE.out]; rfl, HWW.out⟩
      · rw [decide_eq_false hxy] at hcmp
        have HT2 : Hid (s ∉ K.take (j + 1)) := Lib.hid (by
          rw [ht1, List.mem_append]
          rintro (h | h)
          · exact hT.out h
          · exact hxy (List.mem_singleton.1 h).symm)
        clear hx hca ht1 hxy hmem
        go_wp2_with fail
        go_roundw
        case rel => exact ⟨j + 1, by omega, by go_num, HT2, HWW⟩
        case measure => simp [intOf]; omega
    · obtain rfl : j = K.length := by omega
      have HE : Hid (decide (s ∈ K) = false) := Lib.hid (decide_eq_false (by
        have := hT.out
        rwa [List.take_length] at this))
      go_wp2_with fail
      go_ret
      exact ⟨by rw [HE.out]; rfl, HWW.out⟩

/-- which edge makes a file, as the document tells it -/
def mkV (o : Option Nat) : Value := match o with | some n => .int .i64 (n : Int) | none => .int .i64 (-1)
set_option maxRecDepth 100000 in
set_option maxHeartbeats 8000000 in
theorem makerR_c {w : World} {u0 u1 : Value} {L : List Ed} {mkr : Bs → Option Nat} {s : Bs} (hL : Eds w u0 L) (hm : makers L = some mkr) (hl : L.length ≤ 1000000) (ho : ∀ e ∈ L, e.outs.length ≤ 1000000) :
    Calls Try.prog 18 #[.agg #[u0, u1], .string (mk s)] w fun e w' => e = .returned (mkV (mkr s)) ∧ Below w.heap.size w w' := by
  have hA := below_alloc w (.cells #[u0, u1] 25)
  have hb := heap_alloc_new w (.cells #[u0, u1] 25)
  obtain ⟨wB, hwB⟩ : ∃ wB, w.alloc (.cells #[u0, u1] 25) = wB := ⟨_, rfl⟩
  rw [hwB] at hA hb
  obtain ⟨a0, k0, rfl, -, -⟩ := id hL
  have c0 : wB.cell? ⟨w.heap.size, 0, none⟩ = some (.slice a0 L.length k0) := by rw [Lib.cell_of_heap hb]; rfl
  have HL := Lib.hid (hL.below hA)
  have HA := Lib.hid hA
  have HWB := Lib.hid hwB
  have HM := Lib.hid (makers_iff hm)
  have HBX := Lib.hid hb
  clear hL hA hb hwB hm
  go_enter Try.func18, Try.ntmps18
  go_upto_region 1 with fail
  rw [HWB.out]
  go_wp2_with fail
  go_loopw [5] (fun i wr => ∃ j : Nat, j ≤ L.length ∧ i = .int .i64 j ∧ Hid (∀ i e, i < j → L[i]? = some e → s ∉ e.outs) ∧ Hid (Below wB.heap.size wB wr)) (fun i _ => L.length - (intOf i).toNat)
  case atStart => exact ⟨0, Nat.zero_le _, rfl, Lib.hid (fun i e h => by omega), Lib.hid (Below.refl _ _)⟩
  case round =>
    clear c0
    obtain ⟨j, hj, rfl, hT, HWW⟩ := hrel
    have c0 : wr.cell? ⟨w.heap.size, 0, none⟩ = some (.slice a0 L.length k0) := by
      rw [cell_of_block (HWW.out.block _ (lt_some HBX.out)), Lib.cell_of_heap HBX.out]; rfl
    by_cases hlt : j < L.length
    · have hx := List.getElem?_eq_getElem hlt
      generalize L[j] = x at *
      obtain ⟨ge, off, ce, v0, v1, v2, v3, e1, hge, hE, r0, r1, r2, r3, r4, r5⟩ := (HL.out.below HWW.out).at hx
      cases e1
      have hin := in_c (s := s) hE.o (ho x (List.mem_of_getElem? hx))
      have hi0 : (0 : Int) ≤ (j : Int) := by omega
      have hi1 : (j : Int) < (L.length : Int) := by omega
      have HX := Lib.hid hx
      by_cases hs : s ∈ x.outs
      · rw [decide_eq_true hs] at hin
        have HR : Hid (mkr s = some j) := Lib.hid ((HM.out s j).2 ⟨x, hx, hs⟩)
        clear hx hE hs
        go_wp2_with fail
        refine hin.mono ?_
        rintro e w2 ⟨rfl, hb2⟩
        go_wp2_with fail
        go_ret
        exact ⟨by rw [HR.out]; rfl, HA.out.trans ((HWW.out.trans (hb2.mono HWW.out.size)).mono HA.out.size)⟩
      · rw [decide_eq_false hs] at hin
        have HT2 : Hid (∀ i e, i < j + 1 → L[i]? = some e → s ∉ e.outs) := Lib.hid fun i e hi he => by
          by_cases e2 : i = j
          · subst e2
            rw [HX.out] at he
            cases he
            exact hs
          · exact hT.out i e (by omega) he
        clear hx hE hs
        go_wp2_with fail
        refine hin.mono ?_
        rintro e w2 ⟨rfl, hb2⟩
        have HW2 := Lib.hid (HWW.out.trans (hb2.mono HWW.out.size))
        go_wp2_with fail
        go_roundw
        case rel => exact ⟨j + 1, by omega, by go_num, HT2, HW2⟩
        case measure => simp [intOf]; omega
    · obtain rfl : j = L.length := by omega
      have HR : Hid (mkr s = none) := Lib.hid (by
        cases hms : mkr s with
        | none => rfl
        | some n =>
          obtain ⟨e, h1, h2⟩ := (HM.out s n).1 hms
          exact absurd h2 (hT.out n e (List.getElem?_eq_some_iff.1 h1).1 h1))
      go_wp2_with fail
      go_ret
      exact ⟨by rw [HR.out]; rfl, HA.out.trans (HWW.out.mono HA.out.size)⟩
end Go.Proofs.Ytbflodefmookiaa.Gr
namespace Go.Proofs.Ytbflodefmookiaa.Gr
open Go.RowKit Go.Maps Go.Proofs.Ytbflodefmookiaa Go.Proofs.Ytbflodefmookiaa.Pr

/-- names of the call's own beside a box -/
structure Nq (w W : World) (b : Nat) (C : Array Value) (t : TypeId) (v : Value) (K : List Bs) : Prop where
  own : W.ownsRow w.heap.size 9 1 v K.length (strV K)
  bx : W.heap[b]? = some (.cells C t (0, 0))
  bel : Below w.heap.size w W
theorem Nq.app {w W : World} {b : Nat} {C : Array Value} {t : TypeId} {a u : Option Addr} {c k : Nat} {K M : List Bs} (ht : t ≠ 9) (h : Nq w W b C t (.slice a K.length c) K) (hm : Strs w (.slice u M.length k) M) (hl : K.length + M.length ≤ 1000000) :
    ∃ a' c' W', (Builtin.append_ #[23, 23] 23 #[.slice a K.length c, .slice u M.length k]).run Try.prog W = .ok (.slice a' (K ++ M).length c') W' ∧ Nq w W' b C t (.slice a' (K ++ M).length c') (K ++ M) := by
  obtain ⟨a', c', W', hr, h2, h3⟩ := run_appK h.own h.bel.size (hm.below h.bel) hl
  refine ⟨a', c', W', hr, ⟨h2, ?_, h.bel.trans ⟨h3.os, h3.tape, h3.output, h3.size, fun q hq => h3.block q (by have := h.bel.size; omega) fun e => ?_⟩⟩⟩
  · rw [h3.block b (lt_some h.bx) fun e => ?_]
    · exact h.bx
    · obtain ⟨_, C2, h2⟩ := owns_block h.own e.symm
      rw [h.bx] at h2
      cases h2
      exact ht rfl
  · have := (owns_block h.own e.symm).1
    omega

set_option maxRecDepth 100000 in
set_option maxHeartbeats 16000000 in
theorem needsR_c {w : World} {x : Ed} {v0 v1 v2 v3 : Value} (hE : EdV w x v0 v1 v2 v3) (h1 : x.ins.length ≤ 1000) (h2 : x.imp.length ≤ 1000) (h3 : x.ord.length ≤ 1000) :
    Calls Try.prog 32 #[.agg #[v0, v1, v2, v3, .string (mk x.cmd), .string (mk x.dep)]] w fun e w' => ∃ v, e = .returned v ∧ StrsT w' v (needsL x) ∧ w'.ownsRow w.heap.size 9 1 v (needsL x).length (strV (needsL x)) ∧ Below w.heap.size w w' := by
  obtain ⟨y0, z0, y1, z1, y2, z2, y3, z3, rfl, rfl, rfl, rfl⟩ := hE.sl
  have hA := below_alloc w (.cells #[.slice y0 x.outs.length z0, .slice y1 x.ins.length z1, .slice y2 x.imp.length z2, .slice y3 x.ord.length z3, .string (mk x.cmd), .string (mk x.dep)] 60)
  have hb := heap_alloc_new w (.cells #[.slice y0 x.outs.length z0, .slice y1 x.ins.length z1, .slice y2 x.imp.length z2, .slice y3 x.ord.length z3, .string (mk x.cmd), .string (mk x.dep)] 60)
  obtain ⟨wB, hwB⟩ : ∃ wB, w.alloc (.cells #[.slice y0 x.outs.length z0, .slice y1 x.ins.length z1, .slice y2 x.imp.length z2, .slice y3 x.ord.length z3, .string (mk x.cmd), .string (mk x.dep)] 60) = wB := ⟨_, rfl⟩
  rw [hwB] at hA hb
  obtain ⟨wD, hwD⟩ : ∃ wD, wB.drew = wD := ⟨_, rfl⟩
  have hDB : Below w.heap.size w wD := hwD ▸ bel_drawn hA 1
  have hDx : wD.heap[w.heap.size]? = some (.cells #[.slice y0 x.outs.length z0, .slice y1 x.ins.length z1, .slice y2 x.imp.length z2, .slice y3 x.ord.length z3, .string (mk x.cmd), .string (mk x.dep)] 60 (0, 0)) := by rw [← hwD]; exact hb
  obtain ⟨wX, hwX⟩ : ∃ wX, wD.alloc (.cells #[] 9) = wX := ⟨_, rfl⟩
  have hAX := below_alloc wD (.cells #[] 9)
  have hnX := heap_alloc_new wD (.cells #[] 9)
  rw [hwX] at hAX hnX
  have hN0 : Nq w wX w.heap.size #[.slice y0 x.outs.length z0, .slice y1 x.ins.length z1, .slice y2 x.imp.length z2, .slice y3 x.ord.length z3, .string (mk x.cmd), .string (mk x.dep)] 60 (.slice (some ⟨wD.heap.size, 0, none⟩) ([] : List Bs).length 0) [] :=
    ⟨⟨rfl, .inr ⟨wD.heap.size, 0, #[], rfl, hDB.size, hnX, Nat.le_refl _, by unfold maxLen; omega, rfl, rfl⟩⟩, (hAX.block _ (lt_some hDx)).trans hDx, hDB.trans (hAX.mono hDB.size)⟩
  obtain ⟨a1, c1, W1, hR1, hN1⟩ := hN0.app (by decide) hE.i (by simp; omega)
  rw [List.nil_append] at hR1 hN1
  obtain ⟨a2, c2, W2, hR2, hN2⟩ := hN1.app (by decide) hE.m (by omega)
  obtain ⟨a3, c3, W3, hR3, hN3⟩ := hN2.app (by decide) hE.r (by rw [List.length_append]; omega)
  rw [show x.ins ++ x.imp ++ x.ord = needsL x from rfl] at hR3 hN3
  obtain ⟨K2, hK2⟩ : ∃ K2, x.ins ++ x.imp = K2 := ⟨_, rfl⟩
  rw [hK2] at hR2 hR3 hN2
  obtain ⟨K3, hK3⟩ : ∃ K3, needsL x = K3 := ⟨_, rfl⟩
  rw [hK3] at hR3 hN3 ⊢
  have hcells : ∀ (W : World) (C : TypeId), W.heap[w.heap.size]? = some (.cells #[.slice y0 x.outs.length z0, .slice y1 x.ins.length z1, .slice y2 x.imp.length z2, .slice y3 x.ord.length z3, .string (mk x.cmd), .string (mk x.dep)] C (0, 0)) →
      W.cell? ⟨w.heap.size, 1, none⟩ = some (.slice y1 x.ins.length z1) ∧ W.cell? ⟨w.heap.size, 2, none⟩ = some (.slice y2 x.imp.length z2) ∧ W.cell? ⟨w.heap.size, 3, none⟩ = some (.slice y3 x.ord.length z3) := fun W C h => ⟨by rw [Lib.cell_of_heap h]; rfl, by rw [Lib.cell_of_heap h]; rfl, by rw [Lib.cell_of_heap h]; rfl⟩
  have S0 := hcells wD _ hDx
  have SX := hcells wX _ hN0.bx
  have S1 := hcells W1 _ hN1.bx
  have S2 := hcells W2 _ hN2.bx
  have S3 := hcells W3 _ hN3.bx
  obtain ⟨b, hbb⟩ : ∃ b, w.heap.size = b := ⟨_, rfl⟩
  rw [hbb] at S0 SX S1 S2 S3
  have HN3 := Lib.hid hN3
  have HR1 : Hid ((Builtin.append_ #[23, 23] 23 #[.slice (some ⟨wD.heap.size, 0, none⟩) 0 0, .slice y1 x.ins.length z1]).run Try.prog wX = .ok (.slice a1 x.ins.length c1) W1) := Lib.hid hR1
  have HR2 := Lib.hid hR2
  have HR3 := Lib.hid hR3
  have HWB := Lib.hid hwB
  have HWD := Lib.hid hwD
  have HWX := Lib.hid hwX
  clear hA hb hwB hwD hDB hDx hwX hAX hnX hN0 hN1 hN2 hN3 hR1 hR2 hR3 hcells hK2 hK3 hE h1 h2 h3
  go_enter Try.func32, Try.ntmps32
  go_upto_region 1 with fail
  rw [HWB.out]
  refine Nt.wp_region_N 10 (fun w' => w'.cell? ⟨b, 1, none⟩ = some (.slice y1 x.ins.length z1) ∧ w'.cell? ⟨b, 2, none⟩ = some (.slice y2 x.imp.length z2) ∧ w'.cell? ⟨b, 3, none⟩ = some (.slice y3 x.ord.length z3)) (by kernel_rfl) ?_
  rw [HWD.out]
  refine Nt.takeT (i := 1) (oi := { dst := some 4, op := Op.fieldAddr 60 (Operand.tmp 1) 1, type := 0, pos := _, after := #[], guard := Option.none }) (v := ?_) rfl (by kernel_rfl) (by kernel_rfl) (by kernel_rfl) (by kernel_rfl) (fun _ _ _ h => h) (Or.inl ⟨by rfl, ?_⟩) (fun _ => S0) ?_
  rotate_left 1
  · intro w hSw
    try dsimp only at hSw
    go_simp
    first | done | with_reducible rfl
  try simp only [Act.put, List.setIfInBounds_toArray, List.set_cons_zero, List.set_cons_succ]
  refine Nt.takeS (i := 2) (oi := { dst := some 5, op := Op.load 23 (Operand.tmp 4), type := 23, pos := _, after := #[{ on := 1, ground := Ground.data }], guard := Option.none }) (v := ?_) rfl (by kernel_rfl) (by kernel_rfl) (by kernel_rfl) (by kernel_rfl) (by kernel_rfl) (by kernel_rfl) (fun _ _ _ h => h) (Or.inl ⟨by rfl, ?_⟩) S0 ?_
  rotate_left 1
  · intro w hSw
    try dsimp only at hSw
    go_simp
    first | done | with_reducible rfl
  try simp only [Act.put, List.setIfInBounds_toArray, List.set_cons_zero, List.set_cons_succ]
  refine Nt.takeT (i := 4) (oi := { dst := some 7, op := Op.fieldAddr 60 (Operand.tmp 1) 2, type := 0, pos := _, after := #[], guard := Option.none }) (v := ?_) rfl (by kernel_rfl) (by kernel_rfl) (by kernel_rfl) (by kernel_rfl) (fun _ _ _ h => h) (Or.inl ⟨by rfl, ?_⟩) (fun _ => S0) ?_
  rotate_left 1
  · intro w hSw
    try dsimp only at hSw
    go_simp
    first | done | with_reducible rfl
  try simp only [Act.put, List.setIfInBounds_toArray, List.set_cons_zero, List.set_cons_succ]
  refine Nt.takeS (i := 5) (oi := { dst := some 8, op := Op.load 23 (Operand.tmp 7), type := 23, pos := _, after := #[{ on := 4, ground := Ground.data }], guard := Option.none }) (v := ?_) rfl (by kernel_rfl) (by kernel_rfl) (by kernel_rfl) (by kernel_rfl) (by kernel_rfl) (by kernel_rfl) (fun _ _ _ h => h) (Or.inl ⟨by rfl, ?_⟩) S0 ?_
  rotate_left 1
  · intro w hSw
    try dsimp only at hSw
    go_simp
    first | done | with_reducible rfl
  try simp only [Act.put, List.setIfInBounds_toArray, List.set_cons_zero, List.set_cons_succ]
  refine Nt.takeT (i := 7) (oi := { dst := some 10, op := Op.fieldAddr 60 (Operand.tmp 1) 3, type := 0, pos := _, after := #[], guard := Option.none }) (v := ?_) rfl (by kernel_rfl) (by kernel_rfl) (by kernel_rfl) (by kernel_rfl) (fun _ _ _ h => h) (Or.inl ⟨by rfl, ?_⟩) (fun _ => S0) ?_
  rotate_left 1
  · intro w hSw
    try dsimp only at hSw
    go_simp
    first | done | with_reducible rfl
  try simp only [Act.put, List.setIfInBounds_toArray, List.set_cons_zero, List.set_cons_succ]
  refine Nt.takeS (i := 8) (oi := { dst := some 11, op := Op.load 23 (Operand.tmp 10), type := 23, pos := _, after := #[{ on := 7, ground := Ground.data }], guard := Option.none }) (v := ?_) rfl (by kernel_rfl) (by kernel_rfl) (by kernel_rfl) (by kernel_rfl) (by kernel_rfl) (by kernel_rfl) (fun _ _ _ h => h) (Or.inl ⟨by rfl, ?_⟩) S0 ?_
  rotate_left 1
  · intro w hSw
    try dsimp only at hSw
    go_simp
    first | done | with_reducible rfl
  try simp only [Act.put, List.setIfInBounds_toArray, List.set_cons_zero, List.set_cons_succ]
  refine Nt.nextN (i := 0) (by kernel_rfl) rfl (fun K hK => ?_)
  go_simp
  rw [HWX.out]
  refine hK.out _ _ (fun _ => SX) ?_
  clear hK K
  try simp only [Act.put, List.setIfInBounds_toArray, List.set_cons_zero, List.set_cons_succ]
  refine Nt.nextN (i := 3) (by kernel_rfl) rfl (fun K hK => ?_)
  refine step_run2 rfl (.tmp 3) (.tmp 5) rfl (by simp [Act.eval]) (by simp [Act.eval]) HR1.out ?_
  refine hK.out _ _ (fun _ => S1) ?_
  clear hK K
  try simp only [Act.put, List.setIfInBounds_toArray, List.set_cons_zero, List.set_cons_succ]
  refine Nt.nextN (i := 6) (by kernel_rfl) rfl (fun K hK => ?_)
  refine step_run2 rfl (.tmp 6) (.tmp 8) rfl (by simp [Act.eval]) (by simp [Act.eval]) HR2.out ?_
  refine hK.out _ _ (fun _ => S2) ?_
  clear hK K
  try simp only [Act.put, List.setIfInBounds_toArray, List.set_cons_zero, List.set_cons_succ]
  refine Nt.nextN (i := 9) (by kernel_rfl) rfl (fun K hK => ?_)
  refine step_run2 rfl (.tmp 9) (.tmp 11) rfl (by simp [Act.eval]) (by simp [Act.eval]) HR3.out ?_
  refine hK.out _ _ (fun _ => S3) ?_
  clear hK K
  try simp only [Act.put, List.setIfInBounds_toArray, List.set_cons_zero, List.set_cons_succ]
  refine Nt.nextN (i := 10) (by kernel_rfl) rfl (fun K hK => ?_)
  go_simp
  refine hK.out _ _ (fun h => by simp at h) ?_
  clear hK K
  try simp only [Act.put, List.setIfInBounds_toArray, List.set_cons_zero, List.set_cons_succ]
  refine Nt.doneN (by kernel_rfl) ?_ _
  clear S0 SX S1 S2 S3
  go_wp2_with fail
  go_ret
  exact ⟨_, rfl, owns_strsT HN3.out.own, HN3.out.own, HN3.out.bel⟩
end Go.Proofs.Ytbflodefmookiaa.Gr
