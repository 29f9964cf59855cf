/-
  Edge: an edge of the graph, with rows of its own.
-/
import Derived.Test.YtbflodefmookiaaGrMaker
namespace Go.Proofs.Ytbflodefmookiaa.Gr
open Go.RowKit Go.Maps Go.Proofs.Ytbflodefmookiaa Go.Proofs.Ytbflodefmookiaa.Pr

set_option maxRecDepth 100000 in
set_option maxHeartbeats 8000000 in
theorem edge_c {w : World} {gp : Nat} {ve vd : Value} {m n : Nat} {L : List Ed} {D : List Bs} {mkr : Bs → Option Nat} (hG : Gph w gp ve vd m n L D mkr) {j : Nat} {x : Ed} (hx : L[j]? = some x) :
    Calls Try.prog 28 #[.pointer (some ⟨gp, 0, none⟩), .int .i64 (j : Int)] w fun e w' => ∃ u0 u1 u2 u3, e = .returned (.agg #[u0, u1, u2, u3, .string (mk x.cmd), .string (mk x.dep)]) ∧ EdT w' x u0 u1 u2 u3 ∧ Below w.heap.size w w' := by
  have hA := below_alloc w (.cells #[.slice none 0 0, .slice none 0 0, .slice none 0 0, .slice none 0 0, .string ⟨#[]⟩, .string ⟨#[]⟩] 52)
  have hN := heap_alloc_new w (.cells #[.slice none 0 0, .slice none 0 0, .slice none 0 0, .slice none 0 0, .string ⟨#[]⟩, .string ⟨#[]⟩] 52)
  obtain ⟨wA, hwA⟩ : ∃ wA, w.alloc (.cells #[.slice none 0 0, .slice none 0 0, .slice none 0 0, .slice none 0 0, .string ⟨#[]⟩, .string ⟨#[]⟩] 52) = wA := ⟨_, rfl⟩
  rw [hwA] at hA hN
  have hGA := hG.below hA
  have hsE := hG.small x (List.mem_of_getElem? hx)
  have hjl : j < L.length := (List.getElem?_eq_some_iff.1 hx).1
  have hfw := hG.few
  obtain ⟨ge, off, ce, v0, v1, v2, v3, rfl, hge, hE, r0, r1, r2, r3, r4, r5⟩ := hGA.ed.at hx
  have c0 : wA.cell? ⟨gp, 0, none⟩ = some (.slice (some ⟨ge, off, none⟩) L.length ce) := by simp [World.cell?, hGA.box]
  have ho := orNone_c (w := wA) (ad := ⟨gp, 0, none⟩)
  have hown := own_c hE hsE
  obtain ⟨y0, z0, y1, z1, y2, z2, y3, z3, rfl, rfl, rfl, rfl⟩ := hE.sl
  obtain ⟨q, hq⟩ : ∃ q, w.heap.size = q := ⟨_, rfl⟩
  rw [hq] at hN
  have HN := Lib.hid hN
  have HA : Hid (Below w.heap.size w wA) := Lib.hid hA
  have HQ := Lib.hid (Nat.le_of_eq hq)
  have HWA := Lib.hid hwA
  have i0 : ¬ (j : Int) < 0 := by omega
  have i1 : ¬ (L.length : Int) ≤ (j : Int) := by omega
  have i2 : (0 : Int) ≤ (j : Int) := by omega
  have i3 : (j : Int) < (L.length : Int) := by omega
  clear hG hGA hE hA hN hx hsE hwA hge
  go_enter Try.func28, Try.ntmps28
  go_upto_region 1 with fail
  rw [HWA.out]
  clear hq
  go_wp2_with fail
  refine ho.mono ?_
  rintro e w1 ⟨rfl, rfl⟩
  go_wp2_with fail
  refine hown.mono ?_
  rintro e w1 ⟨u0, u1, u2, u3, rfl, hT, hb⟩
  obtain ⟨⟨x0, t0, e0, -⟩, -⟩ := id hT.o
  obtain ⟨⟨x1, t1, e1, -⟩, -⟩ := id hT.i
  obtain ⟨⟨x2, t2, e2, -⟩, -⟩ := id hT.m
  obtain ⟨⟨x3, t3, e3, -⟩, -⟩ := id hT.r
  subst e0
  subst e1
  subst e2
  subst e3
  have hnx := (hb.block q (lt_some HN.out)).trans HN.out
  obtain ⟨g0, g1, g2, g3, g4, g5⟩ : w1.cell? ⟨q, 0, none⟩ = some (.slice none 0 0) ∧ w1.cell? ⟨q, 1, none⟩ = some (.slice none 0 0) ∧ w1.cell? ⟨q, 2, none⟩ = some (.slice none 0 0) ∧ w1.cell? ⟨q, 3, none⟩ = some (.slice none 0 0) ∧ w1.cell? ⟨q, 4, none⟩ = some (.string ⟨#[]⟩) ∧ w1.cell? ⟨q, 5, none⟩ = some (.string ⟨#[]⟩) := by
    refine ⟨?_, ?_, ?_, ?_, ?_, ?_⟩ <;> (simp [World.cell?, hnx])
  obtain ⟨k0, k1, k2, k3, k4, k5⟩ : w1.frozen? ⟨q, 0, none⟩ = false ∧ w1.frozen? ⟨q, 1, none⟩ = false ∧ w1.frozen? ⟨q, 2, none⟩ = false ∧ w1.frozen? ⟨q, 3, none⟩ = false ∧ w1.frozen? ⟨q, 4, none⟩ = false ∧ w1.frozen? ⟨q, 5, none⟩ = false := by
    refine ⟨?_, ?_, ?_, ?_, ?_, ?_⟩ <;> (simp [World.frozen?, hnx])
  have hk : ∀ (g : Nat) C fr, w1.heap[g]? = some (.cells C 9 fr) → (six w1 q (.slice x0 x.outs.length t0) (.slice x1 x.ins.length t1) (.slice x2 x.imp.length t2) (.slice x3 x.ord.length t3) (.string (mk x.cmd)) (.string (mk x.dep))).heap[g]? = w1.heap[g]? := fun g C fr hc => six_other fun e2 => by
    subst e2
    rw [hnx] at hc
    simp only [Option.some.injEq, Obj.cells.injEq] at hc
    exact absurd hc.2.1 (by decide)
  have HFin : Hid (EdT (six w1 q (.slice x0 x.outs.length t0) (.slice x1 x.ins.length t1) (.slice x2 x.imp.length t2) (.slice x3 x.ord.length t3) (.string (mk x.cmd)) (.string (mk x.dep))) x (.slice x0 x.outs.length t0) (.slice x1 x.ins.length t1) (.slice x2 x.imp.length t2) (.slice x3 x.ord.length t3) ∧ Below w.heap.size w (six w1 q (.slice x0 x.outs.length t0) (.slice x1 x.ins.length t1) (.slice x2 x.imp.length t2) (.slice x3 x.ord.length t3) (.string (mk x.cmd)) (.string (mk x.dep)))) := Lib.hid ⟨⟨hT.o.keepT hk, hT.i.keepT hk, hT.m.keepT hk, hT.r.keepT hk⟩, six_below (HA.out.trans (hb.mono HA.out.size)) HQ.out⟩
  have HSX := Lib.hid (six_set (a0 := .slice x0 x.outs.length t0) (a1 := .slice x1 x.ins.length t1) (a2 := .slice x2 x.imp.length t2) (a3 := .slice x3 x.ord.length t3) (a4 := .string (mk x.cmd)) (a5 := .string (mk x.dep)) hnx)
  have HWX : Hid (six w1 q (.slice x0 x.outs.length t0) (.slice x1 x.ins.length t1) (.slice x2 x.imp.length t2) (.slice x3 x.ord.length t3) (.string (mk x.cmd)) (.string (mk x.dep)) = (((((w1.setCell ⟨q, 0, none⟩ (.slice x0 x.outs.length t0)).setCell ⟨q, 1, none⟩ (.slice x1 x.ins.length t1)).setCell ⟨q, 2, none⟩ (.slice x2 x.imp.length t2)).setCell ⟨q, 3, none⟩ (.slice x3 x.ord.length t3)).setCell ⟨q, 4, none⟩ (.string (mk x.cmd))).setCell ⟨q, 5, none⟩ (.string (mk x.dep))) := Lib.hid rfl
  clear hown hT hb hk hnx ho
  go_wp2_with fail
  rw [← HWX.out]
  generalize six w1 q (.slice x0 x.outs.length t0) (.slice x1 x.ins.length t1) (.slice x2 x.imp.length t2) (.slice x3 x.ord.length t3) (.string (mk x.cmd)) (.string (mk x.dep)) = W6 at *
  obtain ⟨s0, s1, s2, s3, s4, s5⟩ : W6.cell? ⟨q, 0, none⟩ = some (.slice x0 x.outs.length t0) ∧ W6.cell? ⟨q, 1, none⟩ = some (.slice x1 x.ins.length t1) ∧ W6.cell? ⟨q, 2, none⟩ = some (.slice x2 x.imp.length t2) ∧ W6.cell? ⟨q, 3, none⟩ = some (.slice x3 x.ord.length t3) ∧ W6.cell? ⟨q, 4, none⟩ = some (.string (mk x.cmd)) ∧ W6.cell? ⟨q, 5, none⟩ = some (.string (mk x.dep)) := by
    refine ⟨?_, ?_, ?_, ?_, ?_, ?_⟩ <;> (rw [Lib.cell_of_heap HSX.out]; rfl)
  clear g0 g1 g2 g3 g4 g5 k0 k1 k2 k3 k4 k5
  refine bodyPost_ret (v := .agg #[.slice x0 x.outs.length t0, .slice x1 x.ins.length t1, .slice x2 x.imp.length t2, .slice x3 x.ord.length t3, .string (mk x.cmd), .string (mk x.dep)]) (by simp [results, Try.f28, go_sem, s0, s1, s2, s3, s4, s5]) rfl ?_
  exact ⟨_, _, _, _, rfl, HFin.out⟩
end Go.Proofs.Ytbflodefmookiaa.Gr
