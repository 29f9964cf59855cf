/-
  New: a manifest's graph.
-/
import Derived.Test.YtbflodefmookiaaGrNewP
namespace Go.Proofs.Ytbflodefmookiaa.Gr
open Go.RowKit Go.Maps Go.Proofs.Ytbflodefmookiaa Go.Proofs.Ytbflodefmookiaa.Pr

set_option maxRecDepth 100000 in
set_option maxHeartbeats 32000000 in
theorem New_c {w : World} {vE vD : Value} {L : List Ed} {D : List Bs} (hE : Eds w vE L) (hD : Strs w vD D) (hs : ∀ e ∈ L, Sm e) (hl : L.length ≤ 1000) (hd : D.length ≤ 1000000) :
    Calls Try.prog 11 #[.agg #[vE, vD]] w fun e w' =>
      (∀ mkr, makers L = some mkr → (order (depsL mkr L) (List.range L.length)).length = L.length → ∃ gp ve vd m n, e = .returned (.tuple #[.pointer (some ⟨gp, 0, none⟩), .int .i64 0]) ∧ Gph w' gp ve vd m n L D mkr) ∧
      (∀ mkr, makers L = some mkr → (order (depsL mkr L) (List.range L.length)).length < L.length → e = .returned (.tuple #[.pointer none, .int .i64 12])) ∧
      (makers L = none → e = .returned (.tuple #[.pointer none, .int .i64 11])) ∧ Below w.heap.size w w' := by
  have hA := below_alloc w (.cells #[vE, vD] 33)
  have hN := heap_alloc_new w (.cells #[vE, vD] 33)
  obtain ⟨wA, hwA⟩ : ∃ wA, w.alloc (.cells #[vE, vD] 33) = wA := ⟨_, rfl⟩
  rw [hwA] at hA hN
  obtain ⟨aE, cE, rfl, -, -⟩ := id hE
  obtain ⟨aD, cD, rfl, -, -⟩ := id hD
  have hcl := clone_c (hD.below hA) hd
  obtain ⟨p0, hp0⟩ : ∃ p0, w.heap.size = p0 := ⟨_, rfl⟩
  have c0 : wA.cell? ⟨p0, 0, none⟩ = some (.slice aE L.length cE) := by rw [← hp0, Lib.cell_of_heap hN]; rfl
  have c1 : wA.cell? ⟨p0, 1, none⟩ = some (.slice aD D.length cD) := by rw [← hp0, Lib.cell_of_heap hN]; rfl
  have HWA := Lib.hid hwA
  have HA : Hid (Below w.heap.size w wA) := Lib.hid hA
  have HE := Lib.hid hE
  have HS := Lib.hid hs
  rw [hp0] at hN
  have HN := Lib.hid hN
  have hmk := @run_makeMap Try.prog
  clear hA hN hwA hE hD hs
  go_enter Try.func11, Try.ntmps11
  go_upto_region 1 with fail
  rw [HWA.out]
  clear hp0
  go_wp2_with fail
  refine hcl.mono ?_
  rintro e w1 ⟨aV, cV, rfl, hT, hb⟩
  clear hcl
  have HB1 := Lib.hid (HA.out.trans (hb.mono HA.out.size))
  have HN1 := Lib.hid ((hb.block p0 (lt_some HN.out)).trans HN.out)
  have HT := Lib.hid hT
  clear hT hb c0 c1
  have c0 : ∀ o o2, (((w1.alloc o).alloc o2)).cell? ⟨p0, 0, none⟩ = some (.slice aE L.length cE) := fun o o2 => by
    have h1 := (below_alloc w1 o).block p0 (lt_some HN1.out)
    have h2 := (below_alloc (w1.alloc o) o2).block p0 (lt_some (h1.trans HN1.out))
    rw [Lib.cell_of_heap (h2.trans (h1.trans HN1.out))]
    rfl
  go_wp2_with fail
  have hM1 := MvS.kept (w := w1.alloc (.map #[] 0)) (w' := (w1.alloc (.map #[] 0)).alloc (.cells #[.slice none 0 0, .slice aV D.length cV, .map (some w1.heap.size)] 70)) (n := 0) (m := w1.heap.size) (g := fun x => ((fun _ => none : Bs → Option Nat) x).map fun (k : Nat) => Value.int .i64 (k : Int)) ⟨_, Mv.made w1 _, fun x => rfl⟩ ((below_alloc _ _).block _ (by rw [show (w1.alloc (.map #[] 0)).heap.size = w1.heap.size + 1 from Array.size_push _]; omega))
  have hbA := below_alloc w1 (.map #[] 0)
  have hbB := below_alloc (w1.alloc (.map #[] 0)) (.cells #[.slice none 0 0, .slice aV D.length cV, .map (some w1.heap.size)] 70)
  have hnG := heap_alloc_new (w1.alloc (.map #[] 0)) (.cells #[.slice none 0 0, .slice aV D.length cV, .map (some w1.heap.size)] 70)
  rw [show (w1.alloc (.map #[] 0)).heap.size = w1.heap.size + 1 from Array.size_push _] at hnG
  have hNw : Nw w ((w1.alloc (.map #[] 0)).alloc (.cells #[.slice none 0 0, .slice aV D.length cV, .map (some w1.heap.size)] 70)) (w1.heap.size + 1) w1.heap.size (.slice none ([] : List Ed).length 0) (.slice none ([] : List Ed).length 0) (.slice aV D.length cV) (.slice none ([] : List Nat).length 0) [] D [] (fun _ => none) 0 := ⟨hnG, OwnE.nil _ _, (HT.out.below hbA).below hbB, hM1, ⟨⟨none, 0, rfl⟩, World.ownsRow_nil _ _ _ _⟩, HB1.out.trans ((hbA.trans (hbB.mono hbA.size)).mono HB1.out.size), by have := HB1.out.size; omega, HB1.out.size⟩
  generalize (w1.alloc (.map #[] 0)).alloc (.cells #[.slice none 0 0, .slice aV D.length cV, .map (some w1.heap.size)] 70) = w2 at *
  generalize w1.heap.size + 1 = gp at *
  generalize w1.heap.size = mm at *
  have HNw := Lib.hid hNw
  clear hM1 hbA hbB hnG hNw c0 HT HN1 HB1
  go_loopw [5, 6, 7, 9, 10, 11, 21] (fun v _ _ _ _ _ i W => ∃ (j k : Nat) (aA : Option Addr) (cA : Nat) (ve : Value) (mkr : Bs → Option Nat), j ≤ L.length ∧ i = .int .i64 j ∧ v = .slice aA j cA ∧ Hid (Nw w W gp mm ve ve (.slice aV D.length cV) (.slice aA j cA) (L.take j) D (List.range j) mkr k) ∧ Hid (addAll j (L.drop j) mkr = makers L) ∧ k ≤ 10 * j) (fun _ _ _ _ _ _ i _ => L.length - (intOf i).toNat)
  case atStart => exact ⟨0, 0, none, 0, _, _, Nat.zero_le _, rfl, rfl, HNw, Lib.hid rfl, by omega⟩
  case round =>
    clear HNw w2
    obtain ⟨j, k, aA, cA, ve, mkr, hj, rfl, rfl, HNw, HMK, hk⟩ := hrel
    by_cases hlt : j < L.length
    · have hx := List.getElem?_eq_getElem hlt
      have hsE := HS.out _ (List.getElem_mem hlt)
      generalize L[j] = x at *
      obtain ⟨ge, off, ce, v0, v1, v2, v3, e, hge, hE, e0, e1, e2, e3, e4, e5⟩ := HE.out.at hx
      cases e
      have hbk := HNw.out.bel.block ge hge
      have r0 := (cell_of_block (j := off + j * 6) hbk).trans e0
      have r1 := (cell_of_block (j := off + j * 6 + 1) hbk).trans e1
      have r2 := (cell_of_block (j := off + j * 6 + 2) hbk).trans e2
      have r3 := (cell_of_block (j := off + j * 6 + 3) hbk).trans e3
      have r4 := (cell_of_block (j := off + j * 6 + 4) hbk).trans e4
      have r5 := (cell_of_block (j := off + j * 6 + 5) hbk).trans e5
      have HX := Lib.hid hE
      obtain ⟨y0, z0, y1, z1, y2, z2, y3, z3, rfl, rfl, rfl, rfl⟩ := hE.sl
      have hB6 := below_alloc wr (.cells #[.slice y0 x.outs.length z0, .slice y1 x.ins.length z1, .slice y2 x.imp.length z2, .slice y3 x.ord.length z3, .string (mk x.cmd), .string (mk x.dep)] 52)
      have hS6 := heap_alloc_new wr (.cells #[.slice y0 x.outs.length z0, .slice y1 x.ins.length z1, .slice y2 x.imp.length z2, .slice y3 x.ord.length z3, .string (mk x.cmd), .string (mk x.dep)] 52)
      obtain ⟨W6, hW6⟩ : ∃ W6, wr.alloc (.cells #[.slice y0 x.outs.length z0, .slice y1 x.ins.length z1, .slice y2 x.imp.length z2, .slice y3 x.ord.length z3, .string (mk x.cmd), .string (mk x.dep)] 52) = W6 := ⟨_, rfl⟩
      rw [hW6] at hB6 hS6
      have HW6 := Lib.hid hW6
      obtain ⟨q, hq⟩ : ∃ q, wr.heap.size = q := ⟨_, rfl⟩
      rw [hq] at hS6
      have d0 : W6.cell? ⟨q, 0, none⟩ = some (.slice y0 x.outs.length z0) := by rw [Lib.cell_of_heap hS6]; rfl
      have HNw6 := Lib.hid (HNw.out.below hB6)
      have HS6 := Lib.hid hS6
      have HNE : Hid (∀ g, ve.ownBlock = some g → g ≠ q) := Lib.hid fun g hg => by have := HNw.out.lt hg; omega
      have HMK2 := Lib.hid ((addAll_drop hx).symm.trans HMK.out)
      have HSE := Lib.hid hsE
      have HXJ := Lib.hid hx
      have i0 : (0 : Int) ≤ (j : Int) := by omega
      have i1 : (j : Int) < (L.length : Int) := by omega
      clear e0 e1 e2 e3 e4 e5 hE hB6 hS6 hW6 hx hsE hbk hge HNw HMK
      go_upto_region 6 with fail
      rw [HW6.out]
      clear r0 r1 r2 r3 r4 r5 hq
      go_wp2_with fail
      go_loopw [9, 10, 11, 29] (fun _ _ _ i W => ∃ (i2 k2 : Nat) (mkr2 : Bs → Option Nat), i2 ≤ x.outs.length ∧ i = .int .i64 i2 ∧ Hid (Nw w W gp mm ve ve (.slice aV D.length cV) (.slice aA j cA) (L.take j) D (List.range j) mkr2 k2) ∧ Hid ((match addOuts j (x.outs.drop i2) mkr2 with | none => none | some g => addAll (j + 1) (L.drop (j + 1)) g) = makers L) ∧ Hid (W.heap[q]? = some (.cells #[.slice y0 x.outs.length z0, .slice y1 x.ins.length z1, .slice y2 x.imp.length z2, .slice y3 x.ord.length z3, .string (mk x.cmd), .string (mk x.dep)] 52 (0, 0))) ∧ k2 ≤ 10 * j + i2) (fun _ _ _ i _ => x.outs.length - (intOf i).toNat)
      case atStart => exact ⟨0, k, mkr, Nat.zero_le _, rfl, HNw6, Lib.hid HMK2.out, HS6, by omega⟩
      case round =>
        clear HNw6 HS6 HMK2 d0
        obtain ⟨i2, k2, mkr2, hi2, rfl, HNw, HMK, HQ, hk2⟩ := hrel
        by_cases hli : i2 < x.outs.length
        · have hx := List.getElem?_eq_getElem hli
          have hsl := HSE.out.xo _ (List.getElem_mem hli)
          have hol := HSE.out.o
          generalize x.outs[i2] = s at *
          have hSr := HX.out.o.below HNw.out.bel
          obtain ⟨_, _, eS, _, hSr⟩ := hSr
          cases eS
          rcases hSr with h | ⟨gS, oS, rfl, hgS, hcS⟩
          · rw [h] at hli; simp at hli
          have s0 := hcS i2 s hx
          have cm := HNw.out.cells.2.2.1
          have hlk := HNw.out.mks.look (s := s) (by unfold maxLen; omega)
          have hmk2 := HMK.out
          rw [addOuts_drop hx] at hmk2
          have hj0 : (0 : Int) ≤ (i2 : Int) := by omega
          have hj1 : (i2 : Int) < (x.outs.length : Int) := by omega
          cases hm : mkr2 s with
          | some d =>
            rw [hm] at hlk hmk2
            have HFin : Hid (makers L = none) := Lib.hid (by rw [← hmk2]; rfl)
            replace hlk : (Instr.lookup 68 (.map (some mm)) (.string (mk s)) true).run Try.prog wr = .ok (.tuple #[.int .i64 (d : Int), .bool true]) wr := hlk
            have HB := Lib.hid HNw.out.bel
            clear hx hcS hmk2 HMK hm HNw
            go_wp2_with fail
            refine bodyPost_ret (v := .tuple #[.pointer none, .int .i64 11]) (by simp [results, Try.f11, go_sem]) rfl ?_
            refine ⟨fun m h => ?_, fun m h => ?_, fun _ => rfl, HB.out⟩
            · rw [HFin.out] at h; cases h
            · rw [HFin.out] at h; cases h
          | none =>
            rw [hm] at hlk hmk2
            replace hlk : (Instr.lookup 68 (.map (some mm)) (.string (mk s)) true).run Try.prog wr = .ok (.tuple #[.int .i64 0, .bool false]) wr := hlk
            obtain ⟨W4, hr4, hN4, hcl⟩ := HNw.out.maker (by unfold maxLen; omega) (s := s) (by unfold maxLen; omega) j
            have HN4 := Lib.hid hN4
            have HMK4 : Hid ((match addOuts j (x.outs.drop (i2 + 1)) (fun y => if y = s then some j else mkr2 y) with | none => none | some g => addAll (j + 1) (L.drop (j + 1)) g) = makers L) := Lib.hid hmk2
            have HQ4 := Lib.hid ((hcl q _ _ _ HQ.out).trans HQ.out)
            clear hx hcS hmk2 HMK hm HNw hN4 hcl HQ
            go_wp2_with fail
            go_roundw
            case rel => exact ⟨i2 + 1, k2 + 1, _, by omega, by go_num, HN4, HMK4, HQ4, by omega⟩
            case measure => simp [intOf] <;> omega
        · obtain rfl : i2 = x.outs.length := by omega
          rw [List.drop_length] at HMK
          have HMK5 : Hid (addAll (j + 1) (L.drop (j + 1)) mkr2 = makers L) := HMK
          have hol := HSE.out.o
          obtain ⟨aV9, cV9, hve⟩ := HNw.out.sl
          rw [show (L.take j).length = j by rw [List.length_take]; omega] at hve
          subst hve
          have HTK : Hid (L.take (j + 1) = L.take j ++ [x]) := Lib.hid (by rw [List.take_add_one, HXJ.out]; rfl)
          go_upto_region 14 with fail
          refine Nt.wp_region_N 15 (fun w' => w'.cell? ⟨gp, 0, none⟩ = some (.slice aV9 j cV9) ∧ w'.cell? ⟨q, 0, none⟩ = some (.slice y0 x.outs.length z0) ∧ w'.cell? ⟨q, 1, none⟩ = some (.slice y1 x.ins.length z1) ∧ w'.cell? ⟨q, 2, none⟩ = some (.slice y2 x.imp.length z2) ∧ w'.cell? ⟨q, 3, none⟩ = some (.slice y3 x.ord.length z3) ∧ w'.cell? ⟨q, 4, none⟩ = some (.string (mk x.cmd)) ∧ w'.cell? ⟨q, 5, none⟩ = some (.string (mk x.dep))) (by kernel_rfl) ?_
          have H0x := Lib.hid HNw.out.drew
          have B0x : Hid (wr.drew.heap[q]? = some (.cells #[.slice y0 x.outs.length z0, .slice y1 x.ins.length z1, .slice y2 x.imp.length z2, .slice y3 x.ord.length z3, .string (mk x.cmd), .string (mk x.dep)] 52 (0, 0))) := Lib.hid HQ.out
          generalize wr.drew = wD at *
          have S0 : wD.cell? ⟨gp, 0, none⟩ = some (.slice aV9 j cV9) ∧ wD.cell? ⟨q, 0, none⟩ = some (.slice y0 x.outs.length z0) ∧ wD.cell? ⟨q, 1, none⟩ = some (.slice y1 x.ins.length z1) ∧ wD.cell? ⟨q, 2, none⟩ = some (.slice y2 x.imp.length z2) ∧ wD.cell? ⟨q, 3, none⟩ = some (.slice y3 x.ord.length z3) ∧ wD.cell? ⟨q, 4, none⟩ = some (.string (mk x.cmd)) ∧ wD.cell? ⟨q, 5, none⟩ = some (.string (mk x.dep)) := ⟨H0x.out.cells.1, by refine ⟨?_, ?_, ?_, ?_, ?_, ?_⟩ <;> (rw [Lib.cell_of_heap B0x.out]; rfl)⟩
          refine Nt.takeT (i := 0) (oi := { dst := some 50, op := Op.move (Operand.tmp 4), type := 27, pos := _, after := #[], guard := Option.none }) (v := ?_) rfl (by kernel_rfl) (by kernel_rfl) (by kernel_rfl) (by kernel_rfl) (fun _ _ _ h => h) (Or.inl ⟨by rfl, ?_⟩) (fun _ => S0) ?_
          rotate_left 1
          · intro w hSw
            try dsimp only at hSw
            go_simp
            first | done | with_reducible rfl
          try simp only [Act.put, List.setIfInBounds_toArray, List.set_cons_zero, List.set_cons_succ]
          refine Nt.takeT (i := 1) (oi := { dst := some 51, op := Op.move (Operand.tmp 4), type := 27, pos := _, after := #[], guard := Option.none }) (v := ?_) rfl (by kernel_rfl) (by kernel_rfl) (by kernel_rfl) (by kernel_rfl) (fun _ _ _ h => h) (Or.inl ⟨by rfl, ?_⟩) (fun _ => S0) ?_
          rotate_left 1
          · intro w hSw
            try dsimp only at hSw
            go_simp
            first | done | with_reducible rfl
          try simp only [Act.put, List.setIfInBounds_toArray, List.set_cons_zero, List.set_cons_succ]
          refine Nt.takeT (i := 2) (oi := { dst := some 52, op := Op.nilCheck (Operand.tmp 51), type := 0, pos := _, after := #[{ on := 1, ground := Ground.data }], guard := Option.none }) (v := ?_) rfl (by kernel_rfl) (by kernel_rfl) (by kernel_rfl) (by kernel_rfl) (fun _ _ _ h => h) (Or.inl ⟨by rfl, ?_⟩) (fun _ => S0) ?_
          rotate_left 1
          · intro w hSw
            try dsimp only at hSw
            go_simp
            first | done | with_reducible rfl
          try simp only [Act.put, List.setIfInBounds_toArray, List.set_cons_zero, List.set_cons_succ]
          refine Nt.takeT (i := 3) (oi := { dst := some 53, op := Op.fieldAddr 70 (Operand.tmp 52) 0, type := 0, pos := _, after := #[{ on := 2, ground := Ground.data }], guard := Option.none }) (v := ?_) rfl (by kernel_rfl) (by kernel_rfl) (by kernel_rfl) (by kernel_rfl) (fun _ _ _ h => h) (Or.inl ⟨by rfl, ?_⟩) (fun _ => S0) ?_
          rotate_left 1
          · intro w hSw
            try dsimp only at hSw
            go_simp
            first | done | with_reducible rfl
          try simp only [Act.put, List.setIfInBounds_toArray, List.set_cons_zero, List.set_cons_succ]
          refine Nt.takeS (i := 4) (oi := { dst := some 54, op := Op.load 31 (Operand.tmp 53), type := 31, pos := _, after := #[{ on := 3, ground := Ground.data }], guard := Option.none }) (v := ?_) rfl (by kernel_rfl) (by kernel_rfl) (by kernel_rfl) (by kernel_rfl) (by kernel_rfl) (by kernel_rfl) (fun _ _ _ h => h) (Or.inl ⟨by rfl, ?_⟩) S0 ?_
          rotate_left 1
          · intro w hSw
            try dsimp only at hSw
            go_simp
            first | done | with_reducible rfl
          try simp only [Act.put, List.setIfInBounds_toArray, List.set_cons_zero, List.set_cons_succ]
          refine Nt.takeS (i := 5) (oi := { dst := some 55, op := Op.load 52 (Operand.tmp 7), type := 52, pos := _, after := #[], guard := Option.none }) (v := ?_) rfl (by kernel_rfl) (by kernel_rfl) (by kernel_rfl) (by kernel_rfl) (by kernel_rfl) (by kernel_rfl) (fun _ _ _ h => h) (Or.inl ⟨by rfl, ?_⟩) S0 ?_
          rotate_left 1
          · intro w hSw
            try dsimp only at hSw
            go_simp
            first | done | with_reducible rfl
          try simp only [Act.put, List.setIfInBounds_toArray, List.set_cons_zero, List.set_cons_succ]
          refine Nt.takeT (i := 9) (oi := { dst := some 59, op := Op.move (Operand.tmp 5), type := 37, pos := _, after := #[], guard := Option.none }) (v := ?_) rfl (by kernel_rfl) (by kernel_rfl) (by kernel_rfl) (by kernel_rfl) (fun _ _ _ h => h) (Or.inl ⟨by rfl, ?_⟩) (fun _ => S0) ?_
          rotate_left 1
          · intro w hSw
            try dsimp only at hSw
            go_simp
            first | done | with_reducible rfl
          try simp only [Act.put, List.setIfInBounds_toArray, List.set_cons_zero, List.set_cons_succ]
          refine Nt.takeT (i := 10) (oi := { dst := some 60, op := Op.move (Operand.tmp 6), type := 3, pos := _, after := #[], guard := Option.none }) (v := ?_) rfl (by kernel_rfl) (by kernel_rfl) (by kernel_rfl) (by kernel_rfl) (fun _ _ _ h => h) (Or.inl ⟨by rfl, ?_⟩) (fun _ => S0) ?_
          rotate_left 1
          · intro w hSw
            try dsimp only at hSw
            go_simp
            first | done | with_reducible rfl
          try simp only [Act.put, List.setIfInBounds_toArray, List.set_cons_zero, List.set_cons_succ]
          refine Nt.twoN (i := 6) (j := 11) (by kernel_rfl) rfl rfl (fun K hK => ?_) (fun K hK => ?_)
          · have hown1 := own_c (HX.out.below H0x.out.bel) HSE.out
            go_simp
            refine hown1.mono ?_
            rintro _ w1x ⟨u0, u1, u2, u3, rfl, hT1, hb1⟩
            obtain ⟨⟨m0, t0, eu0, -⟩, -⟩ := id hT1.o
            obtain ⟨⟨m1, t1, eu1, -⟩, -⟩ := id hT1.i
            obtain ⟨⟨m2, t2, eu2, -⟩, -⟩ := id hT1.m
            obtain ⟨⟨m3, t3, eu3, -⟩, -⟩ := id hT1.r
            subst eu0
            subst eu1
            subst eu2
            subst eu3
            have H1x := Lib.hid (H0x.out.below hb1)
            have B1x := Lib.hid ((hb1.block q (lt_some B0x.out)).trans B0x.out)
            have T1x := Lib.hid hT1
            have S1x : w1x.cell? ⟨gp, 0, none⟩ = some (.slice aV9 j cV9) ∧ w1x.cell? ⟨q, 0, none⟩ = some (.slice y0 x.outs.length z0) ∧ w1x.cell? ⟨q, 1, none⟩ = some (.slice y1 x.ins.length z1) ∧ w1x.cell? ⟨q, 2, none⟩ = some (.slice y2 x.imp.length z2) ∧ w1x.cell? ⟨q, 3, none⟩ = some (.slice y3 x.ord.length z3) ∧ w1x.cell? ⟨q, 4, none⟩ = some (.string (mk x.cmd)) ∧ w1x.cell? ⟨q, 5, none⟩ = some (.string (mk x.dep)) := ⟨H1x.out.cells.1, by refine ⟨?_, ?_, ?_, ?_, ?_, ?_⟩ <;> (rw [Lib.cell_of_heap B1x.out]; rfl)⟩
            clear hown1 hT1 hb1
            refine hK.out _ _ (fun _ => S1x) ?_
            clear hK K
            try simp only [Act.put, List.setIfInBounds_toArray, List.set_cons_zero, List.set_cons_succ]
            refine Nt.twoN (i := 7) (j := 11) (by kernel_rfl) rfl rfl (fun K hK => ?_) (fun K hK => ?_)
            · have hb2 := below_alloc w1x (.cells #[.slice m0 x.outs.length t0, .slice m1 x.ins.length t1, .slice m2 x.imp.length t2, .slice m3 x.ord.length t3, .string (mk x.cmd), .string (mk x.dep)] 52)
              have hn2 := heap_alloc_new w1x (.cells #[.slice m0 x.outs.length t0, .slice m1 x.ins.length t1, .slice m2 x.imp.length t2, .slice m3 x.ord.length t3, .string (mk x.cmd), .string (mk x.dep)] 52)
              go_simp
              obtain ⟨w2x, hw2⟩ : ∃ w2x, w1x.alloc (.cells #[.slice m0 x.outs.length t0, .slice m1 x.ins.length t1, .slice m2 x.imp.length t2, .slice m3 x.ord.length t3, .string (mk x.cmd), .string (mk x.dep)] 52) = w2x := ⟨_, rfl⟩
              rw [hw2] at hb2 hn2
              have H2x := Lib.hid (H1x.out.below hb2)
              have B2x := Lib.hid ((hb2.block q (lt_some B1x.out)).trans B1x.out)
              have T2x := Lib.hid (T1x.out.keepT fun g C fr hg => hb2.block g (lt_some hg))
              have E2x := Lib.hid hn2
              have S2x : w2x.cell? ⟨gp, 0, none⟩ = some (.slice aV9 j cV9) ∧ w2x.cell? ⟨q, 0, none⟩ = some (.slice y0 x.outs.length z0) ∧ w2x.cell? ⟨q, 1, none⟩ = some (.slice y1 x.ins.length z1) ∧ w2x.cell? ⟨q, 2, none⟩ = some (.slice y2 x.imp.length z2) ∧ w2x.cell? ⟨q, 3, none⟩ = some (.slice y3 x.ord.length z3) ∧ w2x.cell? ⟨q, 4, none⟩ = some (.string (mk x.cmd)) ∧ w2x.cell? ⟨q, 5, none⟩ = some (.string (mk x.dep)) := ⟨H2x.out.cells.1, by refine ⟨?_, ?_, ?_, ?_, ?_, ?_⟩ <;> (rw [Lib.cell_of_heap B2x.out]; rfl)⟩
              try rw [hw2]
              clear hb2 hn2
              refine hK.out _ _ (fun _ => S2x) ?_
              clear hK K
              try simp only [Act.put, List.setIfInBounds_toArray, List.set_cons_zero, List.set_cons_succ]
              refine Nt.twoN (i := 8) (j := 11) (by kernel_rfl) rfl rfl (fun K hK => ?_) (fun K hK => ?_)
              · obtain ⟨aN, cN, w3x, hr3, hN3, hg3⟩ := H2x.out.edge (by rw [List.length_take]; omega) T2x.out rfl rfl rfl rfl E2x.out
                have HR3 := Lib.hid hr3
                refine step_run2 rfl (.tmp 54) (.tmp 57) rfl (by first | rfl | simp [Act.eval]) (by first | rfl | simp [Act.eval]) HR3.out ?_
                have H3x := Lib.hid hN3
                have B3x := Lib.hid ((hg3.block q (lt_some B2x.out) fun e => HNE.out q e.symm rfl).trans B2x.out)
                have S3x : w3x.cell? ⟨gp, 0, none⟩ = some (.slice aV9 j cV9) ∧ w3x.cell? ⟨q, 0, none⟩ = some (.slice y0 x.outs.length z0) ∧ w3x.cell? ⟨q, 1, none⟩ = some (.slice y1 x.ins.length z1) ∧ w3x.cell? ⟨q, 2, none⟩ = some (.slice y2 x.imp.length z2) ∧ w3x.cell? ⟨q, 3, none⟩ = some (.slice y3 x.ord.length z3) ∧ w3x.cell? ⟨q, 4, none⟩ = some (.string (mk x.cmd)) ∧ w3x.cell? ⟨q, 5, none⟩ = some (.string (mk x.dep)) := ⟨H3x.out.cells.1, by refine ⟨?_, ?_, ?_, ?_, ?_, ?_⟩ <;> (rw [Lib.cell_of_heap B3x.out]; rfl)⟩
                clear hr3 hN3 hg3
                refine hK.out _ _ (fun _ => S3x) ?_
                clear hK K
                try simp only [Act.put, List.setIfInBounds_toArray, List.set_cons_zero, List.set_cons_succ]
                refine Nt.nextN (i := 11) (by kernel_rfl) rfl (fun K hK => ?_)
                have hb4 := below_alloc w3x (.cells #[.int .i64 (j : Int)] 3)
                have hn4 := heap_alloc_new w3x (.cells #[.int .i64 (j : Int)] 3)
                go_simp
                obtain ⟨w4x, hw4⟩ : ∃ w4x, w3x.alloc (.cells #[.int .i64 (j : Int)] 3) = w4x := ⟨_, rfl⟩
                rw [hw4] at hb4 hn4
                have H4x := Lib.hid (H3x.out.below hb4)
                have B4x := Lib.hid ((hb4.block q (lt_some B3x.out)).trans B3x.out)
                have I4x := Lib.hid hn4
                have S4x : w4x.cell? ⟨gp, 0, none⟩ = some (.slice aV9 j cV9) ∧ w4x.cell? ⟨q, 0, none⟩ = some (.slice y0 x.outs.length z0) ∧ w4x.cell? ⟨q, 1, none⟩ = some (.slice y1 x.ins.length z1) ∧ w4x.cell? ⟨q, 2, none⟩ = some (.slice y2 x.imp.length z2) ∧ w4x.cell? ⟨q, 3, none⟩ = some (.slice y3 x.ord.length z3) ∧ w4x.cell? ⟨q, 4, none⟩ = some (.string (mk x.cmd)) ∧ w4x.cell? ⟨q, 5, none⟩ = some (.string (mk x.dep)) := ⟨H4x.out.cells.1, by refine ⟨?_, ?_, ?_, ?_, ?_, ?_⟩ <;> (rw [Lib.cell_of_heap B4x.out]; rfl)⟩
                try rw [hw4]
                clear hb4 hn4
                refine hK.out _ _ (fun _ => S4x) ?_
                clear hK K
                try simp only [Act.put, List.setIfInBounds_toArray, List.set_cons_zero, List.set_cons_succ]
                refine Nt.nextN (i := 12) (by kernel_rfl) rfl (fun K hK => ?_)
                obtain ⟨aI, cI, w5x, hr5, hN5, hg5⟩ := H4x.out.num (by rw [List.length_range]; omega) I4x.out
                have HR5 := Lib.hid hr5
                refine step_run2 rfl (.tmp 59) (.tmp 61) rfl (by first | rfl | simp [Act.eval]) (by first | rfl | simp [Act.eval]) HR5.out ?_
                have H5x := Lib.hid hN5
                have B5x := Lib.hid ((hg5 q _ _ _ (by decide) B4x.out).trans B4x.out)
                have S5x : w5x.cell? ⟨gp, 0, none⟩ = some (.slice aV9 j cV9) ∧ w5x.cell? ⟨q, 0, none⟩ = some (.slice y0 x.outs.length z0) ∧ w5x.cell? ⟨q, 1, none⟩ = some (.slice y1 x.ins.length z1) ∧ w5x.cell? ⟨q, 2, none⟩ = some (.slice y2 x.imp.length z2) ∧ w5x.cell? ⟨q, 3, none⟩ = some (.slice y3 x.ord.length z3) ∧ w5x.cell? ⟨q, 4, none⟩ = some (.string (mk x.cmd)) ∧ w5x.cell? ⟨q, 5, none⟩ = some (.string (mk x.dep)) := ⟨H5x.out.cells.1, by refine ⟨?_, ?_, ?_, ?_, ?_, ?_⟩ <;> (rw [Lib.cell_of_heap B5x.out]; rfl)⟩
                clear hr5 hN5 hg5
                refine hK.out _ _ (fun _ => S5x) ?_
                clear hK K
                try simp only [Act.put, List.setIfInBounds_toArray, List.set_cons_zero, List.set_cons_succ]
                have HF := Lib.hid H5x.out.store.1
                have fz := H5x.out.cells.2.2.2
                have hlA : (List.range j ++ [j]).length = j + 1 := by simp
                have hlL : (L.take j).length + 1 = j + 1 := by rw [List.length_take]; omega
                refine Nt.nextN (i := 13) (by kernel_rfl) rfl (fun K hK => ?_)
                go_simp
                refine hK.out _ _ (fun _ => S5x) ?_
                clear hK K
                try simp only [Act.put, List.setIfInBounds_toArray, List.set_cons_zero, List.set_cons_succ]
                refine Nt.nextN (i := 14) (by kernel_rfl) rfl (fun K hK => ?_)
                go_simp
                refine hK.out _ _ (fun _ => S5x) ?_
                clear hK K
                try simp only [Act.put, List.setIfInBounds_toArray, List.set_cons_zero, List.set_cons_succ]
                refine Nt.nextN (i := 15) (by kernel_rfl) rfl (fun K hK => ?_)
                go_simp
                refine hK.out _ _ (fun h => by simp at h) ?_
                clear hK K
                try simp only [Act.put, List.setIfInBounds_toArray, List.set_cons_zero, List.set_cons_succ]
                refine Nt.nextN (i := 16) (by kernel_rfl) rfl (fun K hK => ?_)
                go_simp
                refine hK.out _ _ (fun h => by simp at h) ?_
                clear hK K
                try simp only [Act.put, List.setIfInBounds_toArray, List.set_cons_zero, List.set_cons_succ]
                refine Nt.doneN (by kernel_rfl) ?_ _
                rw [← List.range_succ, ← HTK.out] at HF
                try rw [hlA]
                rw [List.length_range] at HF
                rw [hlL] at HF
                go_wp2_with fail
                go_roundw
                case rel => exact ⟨j + 1, k2, _, _, _, mkr2, by omega, by go_num, rfl, HF, HMK5, by omega⟩
                case measure => simp [intOf] <;> omega
              · have hb6 := below_alloc w2x (.cells #[.int .i64 (j : Int)] 3)
                have hn6 := heap_alloc_new w2x (.cells #[.int .i64 (j : Int)] 3)
                go_simp
                obtain ⟨w6x, hw6⟩ : ∃ w6x, w2x.alloc (.cells #[.int .i64 (j : Int)] 3) = w6x := ⟨_, rfl⟩
                rw [hw6] at hb6 hn6
                have H6x := Lib.hid (H2x.out.below hb6)
                have B6x := Lib.hid ((hb6.block q (lt_some B2x.out)).trans B2x.out)
                have T6x := Lib.hid (T2x.out.keepT fun g C fr hg => hb6.block g (lt_some hg))
                have E6x := Lib.hid ((hb6.block _ (lt_some E2x.out)).trans E2x.out)
                have I6x := Lib.hid hn6
                have S6x : w6x.cell? ⟨gp, 0, none⟩ = some (.slice aV9 j cV9) ∧ w6x.cell? ⟨q, 0, none⟩ = some (.slice y0 x.outs.length z0) ∧ w6x.cell? ⟨q, 1, none⟩ = some (.slice y1 x.ins.length z1) ∧ w6x.cell? ⟨q, 2, none⟩ = some (.slice y2 x.imp.length z2) ∧ w6x.cell? ⟨q, 3, none⟩ = some (.slice y3 x.ord.length z3) ∧ w6x.cell? ⟨q, 4, none⟩ = some (.string (mk x.cmd)) ∧ w6x.cell? ⟨q, 5, none⟩ = some (.string (mk x.dep)) := ⟨H6x.out.cells.1, by refine ⟨?_, ?_, ?_, ?_, ?_, ?_⟩ <;> (rw [Lib.cell_of_heap B6x.out]; rfl)⟩
                try rw [hw6]
                clear hb6 hn6
                refine hK.out _ _ (fun _ => S6x) ?_
                clear hK K
                try simp only [Act.put, List.setIfInBounds_toArray, List.set_cons_zero, List.set_cons_succ]
                refine Nt.nextN (i := 8) (by kernel_rfl) rfl (fun K hK => ?_)
                obtain ⟨aN, cN, w7x, hr7, hN7, hg7⟩ := H6x.out.edge (by rw [List.length_take]; omega) T6x.out rfl rfl rfl rfl E6x.out
                have HR7 := Lib.hid hr7
                refine step_run2 rfl (.tmp 54) (.tmp 57) rfl (by first | rfl | simp [Act.eval]) (by first | rfl | simp [Act.eval]) HR7.out ?_
                have H7x := Lib.hid hN7
                have B7x := Lib.hid ((hg7.block q (lt_some B6x.out) fun e => HNE.out q e.symm rfl).trans B6x.out)
                have I7x := Lib.hid ((hg7.block _ (lt_some I6x.out) fun e => H6x.out.ne_int I6x.out e.symm).trans I6x.out)
                have S7x : w7x.cell? ⟨gp, 0, none⟩ = some (.slice aV9 j cV9) ∧ w7x.cell? ⟨q, 0, none⟩ = some (.slice y0 x.outs.length z0) ∧ w7x.cell? ⟨q, 1, none⟩ = some (.slice y1 x.ins.length z1) ∧ w7x.cell? ⟨q, 2, none⟩ = some (.slice y2 x.imp.length z2) ∧ w7x.cell? ⟨q, 3, none⟩ = some (.slice y3 x.ord.length z3) ∧ w7x.cell? ⟨q, 4, none⟩ = some (.string (mk x.cmd)) ∧ w7x.cell? ⟨q, 5, none⟩ = some (.string (mk x.dep)) := ⟨H7x.out.cells.1, by refine ⟨?_, ?_, ?_, ?_, ?_, ?_⟩ <;> (rw [Lib.cell_of_heap B7x.out]; rfl)⟩
                clear hr7 hN7 hg7
                refine hK.out _ _ (fun _ => S7x) ?_
                clear hK K
                try simp only [Act.put, List.setIfInBounds_toArray, List.set_cons_zero, List.set_cons_succ]
                refine Nt.nextN (i := 12) (by kernel_rfl) rfl (fun K hK => ?_)
                obtain ⟨aI, cI, w8x, hr8, hN8, hg8⟩ := H7x.out.num (by rw [List.length_range]; omega) I7x.out
                have HR8 := Lib.hid hr8
                refine step_run2 rfl (.tmp 59) (.tmp 61) rfl (by first | rfl | simp [Act.eval]) (by first | rfl | simp [Act.eval]) HR8.out ?_
                have H8x := Lib.hid hN8
                have B8x := Lib.hid ((hg8 q _ _ _ (by decide) B7x.out).trans B7x.out)
                have S8x : w8x.cell? ⟨gp, 0, none⟩ = some (.slice aV9 j cV9) ∧ w8x.cell? ⟨q, 0, none⟩ = some (.slice y0 x.outs.length z0) ∧ w8x.cell? ⟨q, 1, none⟩ = some (.slice y1 x.ins.length z1) ∧ w8x.cell? ⟨q, 2, none⟩ = some (.slice y2 x.imp.length z2) ∧ w8x.cell? ⟨q, 3, none⟩ = some (.slice y3 x.ord.length z3) ∧ w8x.cell? ⟨q, 4, none⟩ = some (.string (mk x.cmd)) ∧ w8x.cell? ⟨q, 5, none⟩ = some (.string (mk x.dep)) := ⟨H8x.out.cells.1, by refine ⟨?_, ?_, ?_, ?_, ?_, ?_⟩ <;> (rw [Lib.cell_of_heap B8x.out]; rfl)⟩
                clear hr8 hN8 hg8
                refine hK.out _ _ (fun _ => S8x) ?_
                clear hK K
                try simp only [Act.put, List.setIfInBounds_toArray, List.set_cons_zero, List.set_cons_succ]
                have HF := Lib.hid H8x.out.store.1
                have fz := H8x.out.cells.2.2.2
                have hlA : (List.range j ++ [j]).length = j + 1 := by simp
                have hlL : (L.take j).length + 1 = j + 1 := by rw [List.length_take]; omega
                refine Nt.nextN (i := 13) (by kernel_rfl) rfl (fun K hK => ?_)
                go_simp
                refine hK.out _ _ (fun _ => S8x) ?_
                clear hK K
                try simp only [Act.put, List.setIfInBounds_toArray, List.set_cons_zero, List.set_cons_succ]
                refine Nt.nextN (i := 14) (by kernel_rfl) rfl (fun K hK => ?_)
                go_simp
                refine hK.out _ _ (fun _ => S8x) ?_
                clear hK K
                try simp only [Act.put, List.setIfInBounds_toArray, List.set_cons_zero, List.set_cons_succ]
                refine Nt.nextN (i := 15) (by kernel_rfl) rfl (fun K hK => ?_)
                go_simp
                refine hK.out _ _ (fun h => by simp at h) ?_
                clear hK K
                try simp only [Act.put, List.setIfInBounds_toArray, List.set_cons_zero, List.set_cons_succ]
                refine Nt.nextN (i := 16) (by kernel_rfl) rfl (fun K hK => ?_)
                go_simp
                refine hK.out _ _ (fun h => by simp at h) ?_
                clear hK K
                try simp only [Act.put, List.setIfInBounds_toArray, List.set_cons_zero, List.set_cons_succ]
                refine Nt.doneN (by kernel_rfl) ?_ _
                rw [← List.range_succ, ← HTK.out] at HF
                try rw [hlA]
                rw [List.length_range] at HF
                rw [hlL] at HF
                go_wp2_with fail
                go_roundw
                case rel => exact ⟨j + 1, k2, _, _, _, mkr2, by omega, by go_num, rfl, HF, HMK5, by omega⟩
                case measure => simp [intOf] <;> omega
            · have hb9 := below_alloc w1x (.cells #[.int .i64 (j : Int)] 3)
              have hn9 := heap_alloc_new w1x (.cells #[.int .i64 (j : Int)] 3)
              go_simp
              obtain ⟨w9x, hw9⟩ : ∃ w9x, w1x.alloc (.cells #[.int .i64 (j : Int)] 3) = w9x := ⟨_, rfl⟩
              rw [hw9] at hb9 hn9
              have H9x := Lib.hid (H1x.out.below hb9)
              have B9x := Lib.hid ((hb9.block q (lt_some B1x.out)).trans B1x.out)
              have T9x := Lib.hid (T1x.out.keepT fun g C fr hg => hb9.block g (lt_some hg))
              have I9x := Lib.hid hn9
              have S9x : w9x.cell? ⟨gp, 0, none⟩ = some (.slice aV9 j cV9) ∧ w9x.cell? ⟨q, 0, none⟩ = some (.slice y0 x.outs.length z0) ∧ w9x.cell? ⟨q, 1, none⟩ = some (.slice y1 x.ins.length z1) ∧ w9x.cell? ⟨q, 2, none⟩ = some (.slice y2 x.imp.length z2) ∧ w9x.cell? ⟨q, 3, none⟩ = some (.slice y3 x.ord.length z3) ∧ w9x.cell? ⟨q, 4, none⟩ = some (.string (mk x.cmd)) ∧ w9x.cell? ⟨q, 5, none⟩ = some (.string (mk x.dep)) := ⟨H9x.out.cells.1, by refine ⟨?_, ?_, ?_, ?_, ?_, ?_⟩ <;> (rw [Lib.cell_of_heap B9x.out]; rfl)⟩
              try rw [hw9]
              clear hb9 hn9
              refine hK.out _ _ (fun _ => S9x) ?_
              clear hK K
              try simp only [Act.put, List.setIfInBounds_toArray, List.set_cons_zero, List.set_cons_succ]
              refine Nt.nextN (i := 7) (by kernel_rfl) rfl (fun K hK => ?_)
              have hb10 := below_alloc w9x (.cells #[.slice m0 x.outs.length t0, .slice m1 x.ins.length t1, .slice m2 x.imp.length t2, .slice m3 x.ord.length t3, .string (mk x.cmd), .string (mk x.dep)] 52)
              have hn10 := heap_alloc_new w9x (.cells #[.slice m0 x.outs.length t0, .slice m1 x.ins.length t1, .slice m2 x.imp.length t2, .slice m3 x.ord.length t3, .string (mk x.cmd), .string (mk x.dep)] 52)
              go_simp
              obtain ⟨w10x, hw10⟩ : ∃ w10x, w9x.alloc (.cells #[.slice m0 x.outs.length t0, .slice m1 x.ins.length t1, .slice m2 x.imp.length t2, .slice m3 x.ord.length t3, .string (mk x.cmd), .string (mk x.dep)] 52) = w10x := ⟨_, rfl⟩
              rw [hw10] at hb10 hn10
              have H10x := Lib.hid (H9x.out.below hb10)
              have B10x := Lib.hid ((hb10.block q (lt_some B9x.out)).trans B9x.out)
              have T10x := Lib.hid (T9x.out.keepT fun g C fr hg => hb10.block g (lt_some hg))
              have I10x := Lib.hid ((hb10.block _ (lt_some I9x.out)).trans I9x.out)
              have E10x := Lib.hid hn10
              have S10x : w10x.cell? ⟨gp, 0, none⟩ = some (.slice aV9 j cV9) ∧ w10x.cell? ⟨q, 0, none⟩ = some (.slice y0 x.outs.length z0) ∧ w10x.cell? ⟨q, 1, none⟩ = some (.slice y1 x.ins.length z1) ∧ w10x.cell? ⟨q, 2, none⟩ = some (.slice y2 x.imp.length z2) ∧ w10x.cell? ⟨q, 3, none⟩ = some (.slice y3 x.ord.length z3) ∧ w10x.cell? ⟨q, 4, none⟩ = some (.string (mk x.cmd)) ∧ w10x.cell? ⟨q, 5, none⟩ = some (.string (mk x.dep)) := ⟨H10x.out.cells.1, by refine ⟨?_, ?_, ?_, ?_, ?_, ?_⟩ <;> (rw [Lib.cell_of_heap B10x.out]; rfl)⟩
              try rw [hw10]
              clear hb10 hn10
              refine hK.out _ _ (fun _ => S10x) ?_
              clear hK K
              try simp only [Act.put, List.setIfInBounds_toArray, List.set_cons_zero, List.set_cons_succ]
              refine Nt.nextN (i := 8) (by kernel_rfl) rfl (fun K hK => ?_)
              obtain ⟨aN, cN, w11x, hr11, hN11, hg11⟩ := H10x.out.edge (by rw [List.length_take]; omega) T10x.out rfl rfl rfl rfl E10x.out
              have HR11 := Lib.hid hr11
              refine step_run2 rfl (.tmp 54) (.tmp 57) rfl (by first | rfl | simp [Act.eval]) (by first | rfl | simp [Act.eval]) HR11.out ?_
              have H11x := Lib.hid hN11
              have B11x := Lib.hid ((hg11.block q (lt_some B10x.out) fun e => HNE.out q e.symm rfl).trans B10x.out)
              have I11x := Lib.hid ((hg11.block _ (lt_some I10x.out) fun e => H10x.out.ne_int I10x.out e.symm).trans I10x.out)
              have S11x : w11x.cell? ⟨gp, 0, none⟩ = some (.slice aV9 j cV9) ∧ w11x.cell? ⟨q, 0, none⟩ = some (.slice y0 x.outs.length z0) ∧ w11x.cell? ⟨q, 1, none⟩ = some (.slice y1 x.ins.length z1) ∧ w11x.cell? ⟨q, 2, none⟩ = some (.slice y2 x.imp.length z2) ∧ w11x.cell? ⟨q, 3, none⟩ = some (.slice y3 x.ord.length z3) ∧ w11x.cell? ⟨q, 4, none⟩ = some (.string (mk x.cmd)) ∧ w11x.cell? ⟨q, 5, none⟩ = some (.string (mk x.dep)) := ⟨H11x.out.cells.1, by refine ⟨?_, ?_, ?_, ?_, ?_, ?_⟩ <;> (rw [Lib.cell_of_heap B11x.out]; rfl)⟩
              clear hr11 hN11 hg11
              refine hK.out _ _ (fun _ => S11x) ?_
              clear hK K
              try simp only [Act.put, List.setIfInBounds_toArray, List.set_cons_zero, List.set_cons_succ]
              refine Nt.nextN (i := 12) (by kernel_rfl) rfl (fun K hK => ?_)
              obtain ⟨aI, cI, w12x, hr12, hN12, hg12⟩ := H11x.out.num (by rw [List.length_range]; omega) I11x.out
              have HR12 := Lib.hid hr12
              refine step_run2 rfl (.tmp 59) (.tmp 61) rfl (by first | rfl | simp [Act.eval]) (by first | rfl | simp [Act.eval]) HR12.out ?_
              have H12x := Lib.hid hN12
              have B12x := Lib.hid ((hg12 q _ _ _ (by decide) B11x.out).trans B11x.out)
              have S12x : w12x.cell? ⟨gp, 0, none⟩ = some (.slice aV9 j cV9) ∧ w12x.cell? ⟨q, 0, none⟩ = some (.slice y0 x.outs.length z0) ∧ w12x.cell? ⟨q, 1, none⟩ = some (.slice y1 x.ins.length z1) ∧ w12x.cell? ⟨q, 2, none⟩ = some (.slice y2 x.imp.length z2) ∧ w12x.cell? ⟨q, 3, none⟩ = some (.slice y3 x.ord.length z3) ∧ w12x.cell? ⟨q, 4, none⟩ = some (.string (mk x.cmd)) ∧ w12x.cell? ⟨q, 5, none⟩ = some (.string (mk x.dep)) := ⟨H12x.out.cells.1, by refine ⟨?_, ?_, ?_, ?_, ?_, ?_⟩ <;> (rw [Lib.cell_of_heap B12x.out]; rfl)⟩
              clear hr12 hN12 hg12
              refine hK.out _ _ (fun _ => S12x) ?_
              clear hK K
              try simp only [Act.put, List.setIfInBounds_toArray, List.set_cons_zero, List.set_cons_succ]
              have HF := Lib.hid H12x.out.store.1
              have fz := H12x.out.cells.2.2.2
              have hlA : (List.range j ++ [j]).length = j + 1 := by simp
              have hlL : (L.take j).length + 1 = j + 1 := by rw [List.length_take]; omega
              refine Nt.nextN (i := 13) (by kernel_rfl) rfl (fun K hK => ?_)
              go_simp
              refine hK.out _ _ (fun _ => S12x) ?_
              clear hK K
              try simp only [Act.put, List.setIfInBounds_toArray, List.set_cons_zero, List.set_cons_succ]
              refine Nt.nextN (i := 14) (by kernel_rfl) rfl (fun K hK => ?_)
              go_simp
              refine hK.out _ _ (fun _ => S12x) ?_
              clear hK K
              try simp only [Act.put, List.setIfInBounds_toArray, List.set_cons_zero, List.set_cons_succ]
              refine Nt.nextN (i := 15) (by kernel_rfl) rfl (fun K hK => ?_)
              go_simp
              refine hK.out _ _ (fun h => by simp at h) ?_
              clear hK K
              try simp only [Act.put, List.setIfInBounds_toArray, List.set_cons_zero, List.set_cons_succ]
              refine Nt.nextN (i := 16) (by kernel_rfl) rfl (fun K hK => ?_)
              go_simp
              refine hK.out _ _ (fun h => by simp at h) ?_
              clear hK K
              try simp only [Act.put, List.setIfInBounds_toArray, List.set_cons_zero, List.set_cons_succ]
              refine Nt.doneN (by kernel_rfl) ?_ _
              rw [← List.range_succ, ← HTK.out] at HF
              try rw [hlA]
              rw [List.length_range] at HF
              rw [hlL] at HF
              go_wp2_with fail
              go_roundw
              case rel => exact ⟨j + 1, k2, _, _, _, mkr2, by omega, by go_num, rfl, HF, HMK5, by omega⟩
              case measure => simp [intOf] <;> omega
          · have hb13 := below_alloc wD (.cells #[.int .i64 (j : Int)] 3)
            have hn13 := heap_alloc_new wD (.cells #[.int .i64 (j : Int)] 3)
            go_simp
            obtain ⟨w13x, hw13⟩ : ∃ w13x, wD.alloc (.cells #[.int .i64 (j : Int)] 3) = w13x := ⟨_, rfl⟩
            rw [hw13] at hb13 hn13
            have H13x := Lib.hid (H0x.out.below hb13)
            have B13x := Lib.hid ((hb13.block q (lt_some B0x.out)).trans B0x.out)
            have I13x := Lib.hid hn13
            have S13x : w13x.cell? ⟨gp, 0, none⟩ = some (.slice aV9 j cV9) ∧ w13x.cell? ⟨q, 0, none⟩ = some (.slice y0 x.outs.length z0) ∧ w13x.cell? ⟨q, 1, none⟩ = some (.slice y1 x.ins.length z1) ∧ w13x.cell? ⟨q, 2, none⟩ = some (.slice y2 x.imp.length z2) ∧ w13x.cell? ⟨q, 3, none⟩ = some (.slice y3 x.ord.length z3) ∧ w13x.cell? ⟨q, 4, none⟩ = some (.string (mk x.cmd)) ∧ w13x.cell? ⟨q, 5, none⟩ = some (.string (mk x.dep)) := ⟨H13x.out.cells.1, by refine ⟨?_, ?_, ?_, ?_, ?_, ?_⟩ <;> (rw [Lib.cell_of_heap B13x.out]; rfl)⟩
            try rw [hw13]
            clear hb13 hn13
            refine hK.out _ _ (fun _ => S13x) ?_
            clear hK K
            try simp only [Act.put, List.setIfInBounds_toArray, List.set_cons_zero, List.set_cons_succ]
            refine Nt.nextN (i := 6) (by kernel_rfl) rfl (fun K hK => ?_)
            have hown14 := own_c (HX.out.below H13x.out.bel) HSE.out
            go_simp
            refine hown14.mono ?_
            rintro _ w14x ⟨u0, u1, u2, u3, rfl, hT14, hb14⟩
            obtain ⟨⟨m0, t0, eu0, -⟩, -⟩ := id hT14.o
            obtain ⟨⟨m1, t1, eu1, -⟩, -⟩ := id hT14.i
            obtain ⟨⟨m2, t2, eu2, -⟩, -⟩ := id hT14.m
            obtain ⟨⟨m3, t3, eu3, -⟩, -⟩ := id hT14.r
            subst eu0
            subst eu1
            subst eu2
            subst eu3
            have H14x := Lib.hid (H13x.out.below hb14)
            have B14x := Lib.hid ((hb14.block q (lt_some B13x.out)).trans B13x.out)
            have I14x := Lib.hid ((hb14.block _ (lt_some I13x.out)).trans I13x.out)
            have T14x := Lib.hid hT14
            have S14x : w14x.cell? ⟨gp, 0, none⟩ = some (.slice aV9 j cV9) ∧ w14x.cell? ⟨q, 0, none⟩ = some (.slice y0 x.outs.length z0) ∧ w14x.cell? ⟨q, 1, none⟩ = some (.slice y1 x.ins.length z1) ∧ w14x.cell? ⟨q, 2, none⟩ = some (.slice y2 x.imp.length z2) ∧ w14x.cell? ⟨q, 3, none⟩ = some (.slice y3 x.ord.length z3) ∧ w14x.cell? ⟨q, 4, none⟩ = some (.string (mk x.cmd)) ∧ w14x.cell? ⟨q, 5, none⟩ = some (.string (mk x.dep)) := ⟨H14x.out.cells.1, by refine ⟨?_, ?_, ?_, ?_, ?_, ?_⟩ <;> (rw [Lib.cell_of_heap B14x.out]; rfl)⟩
            clear hown14 hT14 hb14
            refine hK.out _ _ (fun _ => S14x) ?_
            clear hK K
            try simp only [Act.put, List.setIfInBounds_toArray, List.set_cons_zero, List.set_cons_succ]
            refine Nt.nextN (i := 7) (by kernel_rfl) rfl (fun K hK => ?_)
            have hb15 := below_alloc w14x (.cells #[.slice m0 x.outs.length t0, .slice m1 x.ins.length t1, .slice m2 x.imp.length t2, .slice m3 x.ord.length t3, .string (mk x.cmd), .string (mk x.dep)] 52)
            have hn15 := heap_alloc_new w14x (.cells #[.slice m0 x.outs.length t0, .slice m1 x.ins.length t1, .slice m2 x.imp.length t2, .slice m3 x.ord.length t3, .string (mk x.cmd), .string (mk x.dep)] 52)
            go_simp
            obtain ⟨w15x, hw15⟩ : ∃ w15x, w14x.alloc (.cells #[.slice m0 x.outs.length t0, .slice m1 x.ins.length t1, .slice m2 x.imp.length t2, .slice m3 x.ord.length t3, .string (mk x.cmd), .string (mk x.dep)] 52) = w15x := ⟨_, rfl⟩
            rw [hw15] at hb15 hn15
            have H15x := Lib.hid (H14x.out.below hb15)
            have B15x := Lib.hid ((hb15.block q (lt_some B14x.out)).trans B14x.out)
            have T15x := Lib.hid (T14x.out.keepT fun g C fr hg => hb15.block g (lt_some hg))
            have I15x := Lib.hid ((hb15.block _ (lt_some I14x.out)).trans I14x.out)
            have E15x := Lib.hid hn15
            have S15x : w15x.cell? ⟨gp, 0, none⟩ = some (.slice aV9 j cV9) ∧ w15x.cell? ⟨q, 0, none⟩ = some (.slice y0 x.outs.length z0) ∧ w15x.cell? ⟨q, 1, none⟩ = some (.slice y1 x.ins.length z1) ∧ w15x.cell? ⟨q, 2, none⟩ = some (.slice y2 x.imp.length z2) ∧ w15x.cell? ⟨q, 3, none⟩ = some (.slice y3 x.ord.length z3) ∧ w15x.cell? ⟨q, 4, none⟩ = some (.string (mk x.cmd)) ∧ w15x.cell? ⟨q, 5, none⟩ = some (.string (mk x.dep)) := ⟨H15x.out.cells.1, by refine ⟨?_, ?_, ?_, ?_, ?_, ?_⟩ <;> (rw [Lib.cell_of_heap B15x.out]; rfl)⟩
            try rw [hw15]
            clear hb15 hn15
            refine hK.out _ _ (fun _ => S15x) ?_
            clear hK K
            try simp only [Act.put, List.setIfInBounds_toArray, List.set_cons_zero, List.set_cons_succ]
            refine Nt.nextN (i := 8) (by kernel_rfl) rfl (fun K hK => ?_)
            obtain ⟨aN, cN, w16x, hr16, hN16, hg16⟩ := H15x.out.edge (by rw [List.length_take]; omega) T15x.out rfl rfl rfl rfl E15x.out
            have HR16 := Lib.hid hr16
            refine step_run2 rfl (.tmp 54) (.tmp 57) rfl (by first | rfl | simp [Act.eval]) (by first | rfl | simp [Act.eval]) HR16.out ?_
            have H16x := Lib.hid hN16
            have B16x := Lib.hid ((hg16.block q (lt_some B15x.out) fun e => HNE.out q e.symm rfl).trans B15x.out)
            have I16x := Lib.hid ((hg16.block _ (lt_some I15x.out) fun e => H15x.out.ne_int I15x.out e.symm).trans I15x.out)
            have S16x : w16x.cell? ⟨gp, 0, none⟩ = some (.slice aV9 j cV9) ∧ w16x.cell? ⟨q, 0, none⟩ = some (.slice y0 x.outs.length z0) ∧ w16x.cell? ⟨q, 1, none⟩ = some (.slice y1 x.ins.length z1) ∧ w16x.cell? ⟨q, 2, none⟩ = some (.slice y2 x.imp.length z2) ∧ w16x.cell? ⟨q, 3, none⟩ = some (.slice y3 x.ord.length z3) ∧ w16x.cell? ⟨q, 4, none⟩ = some (.string (mk x.cmd)) ∧ w16x.cell? ⟨q, 5, none⟩ = some (.string (mk x.dep)) := ⟨H16x.out.cells.1, by refine ⟨?_, ?_, ?_, ?_, ?_, ?_⟩ <;> (rw [Lib.cell_of_heap B16x.out]; rfl)⟩
            clear hr16 hN16 hg16
            refine hK.out _ _ (fun _ => S16x) ?_
            clear hK K
            try simp only [Act.put, List.setIfInBounds_toArray, List.set_cons_zero, List.set_cons_succ]
            refine Nt.nextN (i := 12) (by kernel_rfl) rfl (fun K hK => ?_)
            obtain ⟨aI, cI, w17x, hr17, hN17, hg17⟩ := H16x.out.num (by rw [List.length_range]; omega) I16x.out
            have HR17 := Lib.hid hr17
            refine step_run2 rfl (.tmp 59) (.tmp 61) rfl (by first | rfl | simp [Act.eval]) (by first | rfl | simp [Act.eval]) HR17.out ?_
            have H17x := Lib.hid hN17
            have B17x := Lib.hid ((hg17 q _ _ _ (by decide) B16x.out).trans B16x.out)
            have S17x : w17x.cell? ⟨gp, 0, none⟩ = some (.slice aV9 j cV9) ∧ w17x.cell? ⟨q, 0, none⟩ = some (.slice y0 x.outs.length z0) ∧ w17x.cell? ⟨q, 1, none⟩ = some (.slice y1 x.ins.length z1) ∧ w17x.cell? ⟨q, 2, none⟩ = some (.slice y2 x.imp.length z2) ∧ w17x.cell? ⟨q, 3, none⟩ = some (.slice y3 x.ord.length z3) ∧ w17x.cell? ⟨q, 4, none⟩ = some (.string (mk x.cmd)) ∧ w17x.cell? ⟨q, 5, none⟩ = some (.string (mk x.dep)) := ⟨H17x.out.cells.1, by refine ⟨?_, ?_, ?_, ?_, ?_, ?_⟩ <;> (rw [Lib.cell_of_heap B17x.out]; rfl)⟩
            clear hr17 hN17 hg17
            refine hK.out _ _ (fun _ => S17x) ?_
            clear hK K
            try simp only [Act.put, List.setIfInBounds_toArray, List.set_cons_zero, List.set_cons_succ]
            have HF := Lib.hid H17x.out.store.1
            have fz := H17x.out.cells.2.2.2
            have hlA : (List.range j ++ [j]).length = j + 1 := by simp
            have hlL : (L.take j).length + 1 = j + 1 := by rw [List.length_take]; omega
            refine Nt.nextN (i := 13) (by kernel_rfl) rfl (fun K hK => ?_)
            go_simp
            refine hK.out _ _ (fun _ => S17x) ?_
            clear hK K
            try simp only [Act.put, List.setIfInBounds_toArray, List.set_cons_zero, List.set_cons_succ]
            refine Nt.nextN (i := 14) (by kernel_rfl) rfl (fun K hK => ?_)
            go_simp
            refine hK.out _ _ (fun _ => S17x) ?_
            clear hK K
            try simp only [Act.put, List.setIfInBounds_toArray, List.set_cons_zero, List.set_cons_succ]
            refine Nt.nextN (i := 15) (by kernel_rfl) rfl (fun K hK => ?_)
            go_simp
            refine hK.out _ _ (fun h => by simp at h) ?_
            clear hK K
            try simp only [Act.put, List.setIfInBounds_toArray, List.set_cons_zero, List.set_cons_succ]
            refine Nt.nextN (i := 16) (by kernel_rfl) rfl (fun K hK => ?_)
            go_simp
            refine hK.out _ _ (fun h => by simp at h) ?_
            clear hK K
            try simp only [Act.put, List.setIfInBounds_toArray, List.set_cons_zero, List.set_cons_succ]
            refine Nt.doneN (by kernel_rfl) ?_ _
            rw [← List.range_succ, ← HTK.out] at HF
            try rw [hlA]
            rw [List.length_range] at HF
            rw [hlL] at HF
            go_wp2_with fail
            go_roundw
            case rel => exact ⟨j + 1, k2, _, _, _, mkr2, by omega, by go_num, rfl, HF, HMK5, by omega⟩
            case measure => simp [intOf] <;> omega
    · obtain rfl : j = L.length := by omega
      rw [List.take_length] at HNw
      rw [List.drop_length] at HMK
      have hmk : makers L = some mkr := HMK.out.symm
      have hG := HNw.out.gph HS.out hl (makers_to hmk)
      have hin := inOrder_c hG List.pairwise_lt_range (fun k hk => List.mem_range.1 hk) HNw.out.al.read
      have HG := Lib.hid hG
      have HMk := Lib.hid hmk
      have HB := Lib.hid HNw.out.bel
      clear hG hmk HMK HNw
      go_wp2_with fail
      refine hin.mono ?_
      rintro e w9 ⟨v, rfl, hR, hb⟩
      obtain ⟨⟨a9, c9, rfl⟩, -⟩ := hR
      have HB9 := Lib.hid (HB.out.trans (hb.mono HB.out.size))
      have HG9 := Lib.hid (HG.out.below hb)
      obtain ⟨n9, hn9⟩ : ∃ n9, (order (depsL mkr L) (List.range L.length)).length = n9 := ⟨_, rfl⟩
      have HN9 := Lib.hid hn9
      rw [hn9]
      clear hin hb hn9
      by_cases h9 : n9 < L.length
      · have i0 : (n9 : Int) < (L.length : Int) := by omega
        go_wp2_with fail
        refine bodyPost_ret (v := .tuple #[.pointer none, .int .i64 12]) (by simp [results, Try.f11, go_sem]) rfl ?_
        refine ⟨fun m h h2 => ?_, fun m h h2 => rfl, fun h => ?_, HB9.out⟩
        · rw [HMk.out] at h
          cases h
          have := HN9.out
          omega
        · rw [HMk.out] at h; cases h
      · have i0 : ¬ (n9 : Int) < (L.length : Int) := by omega
        go_wp2_with fail
        refine bodyPost_ret (v := .tuple #[.pointer (some ⟨gp, 0, none⟩), .int .i64 0]) (by simp [results, Try.f11, go_sem]) rfl ?_
        refine ⟨fun m h h2 => ?_, fun m h h2 => ?_, fun h => ?_, HB9.out⟩
        · rw [HMk.out] at h
          cases h
          exact ⟨_, _, _, _, _, rfl, HG9.out⟩
        · rw [HMk.out] at h
          cases h
          have := HN9.out
          omega
        · rw [HMk.out] at h; cases h
end Go.Proofs.Ytbflodefmookiaa.Gr
