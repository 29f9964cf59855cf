/-
  making: the numbers, rising, of those that make some files, and of all below which these stand.
-/
import Derived.Test.YtbflodefmookiaaGrMeet
import Derived.Deep.LoopGhost
namespace Go.Proofs.Ytbflodefmookiaa.Gr
open Go.RowKit Go.Maps Go.Conc Go.Proofs.Ytbflodefmookiaa Go.Proofs.Ytbflodefmookiaa.Pr

theorem mchan_c (n : Nat) (hn : n ≤ 1000000) (W : World) : (Instr.makeChan 99 (.int .i64 (n : Int))).run Try.prog W = .ok (.chan (some W.heap.size)) (W.alloc (.chan n #[] false 0 0 false)) := by
  have h : (Try.prog.info? 3).map (·.bytes) = some 8 := by kernel_rfl
  obtain ⟨i, hi, hb⟩ := Option.map_eq_some_iff.1 h
  exact run_makeChan (P := Try.prog) (w := W) Try.underlying99 hi .i64 n (by omega) (by rw [hb]; omega)
theorem Mk.start (w : World) (gp cap : Nat) : Mk w (((((w.alloc (.cells #[.pointer (some ⟨gp, 0, none⟩)] 27)).alloc (.map #[] 0)).alloc (.cells #[.map (some (w.heap.size + 1))] 98)).alloc (.chan cap #[] false 0 0 false)).alloc (.cells #[.chan (some (w.heap.size + 1 + 1 + 1))] 99))
    w.heap.size (w.heap.size + 1 + 1) (w.heap.size + 1 + 1 + 1 + 1) (w.heap.size + 1) (w.heap.size + 1 + 1 + 1) gp cap [] [] := by
  obtain ⟨A, hA⟩ : ∃ A, w.alloc (.cells #[.pointer (some ⟨gp, 0, none⟩)] 27) = A := ⟨_, rfl⟩
  have bA : Below w.heap.size w A := hA ▸ below_alloc w _
  have sA : A.heap.size = w.heap.size + 1 := hA ▸ Array.size_push _
  have nA := hA ▸ heap_alloc_new w (.cells #[.pointer (some ⟨gp, 0, none⟩)] 27)
  obtain ⟨B, hB⟩ : ∃ B, A.alloc (.map #[] 0) = B := ⟨_, rfl⟩
  have bB : Below A.heap.size A B := hB ▸ below_alloc A _
  have sB : B.heap.size = w.heap.size + 1 + 1 := (hB ▸ Array.size_push _ : B.heap.size = A.heap.size + 1).trans (by rw [sA])
  have nB : Is B 0 A.heap.size [] := hB ▸ Is.made A
  obtain ⟨C, hC⟩ : ∃ C, B.alloc (.cells #[.map (some (w.heap.size + 1))] 98) = C := ⟨_, rfl⟩
  have bC : Below B.heap.size B C := hC ▸ below_alloc B _
  have sC : C.heap.size = w.heap.size + 1 + 1 + 1 := (hC ▸ Array.size_push _ : C.heap.size = B.heap.size + 1).trans (by rw [sB])
  have nC := hC ▸ heap_alloc_new B (.cells #[.map (some (w.heap.size + 1))] 98)
  obtain ⟨D, hD⟩ : ∃ D, C.alloc (.chan cap #[] false 0 0 false) = D := ⟨_, rfl⟩
  have bD : Below C.heap.size C D := hD ▸ below_alloc C _
  have sD : D.heap.size = w.heap.size + 1 + 1 + 1 + 1 := (hD ▸ Array.size_push _ : D.heap.size = C.heap.size + 1).trans (by rw [sC])
  have nD := hD ▸ heap_alloc_new C (.chan cap #[] false 0 0 false)
  obtain ⟨E, hE⟩ : ∃ E, D.alloc (.cells #[.chan (some (w.heap.size + 1 + 1 + 1))] 99) = E := ⟨_, rfl⟩
  have bE : Below D.heap.size D E := hE ▸ below_alloc D _
  have nE := hE ▸ heap_alloc_new D (.cells #[.chan (some (w.heap.size + 1 + 1 + 1))] 99)
  rw [hA, hB, hC, hD, hE]
  rw [sB] at nC
  rw [sC] at nD
  rw [sD] at nE
  rw [sA] at nB
  have bBE : ∀ k, k < B.heap.size → E.heap[k]? = B.heap[k]? := fun k hk => (bE.block k (by omega)).trans ((bD.block k (by omega)).trans (bC.block k hk))
  refine ⟨(bBE _ (by omega)).trans ((bB.block _ (by omega)).trans nA), (bE.block _ (by omega)).trans ((bD.block _ (by omega)).trans nC), nE, nB.kept (bBE _ (by omega)), ⟨0, 0, (bE.block _ (by omega)).trans nD⟩, ?_, by omega, by omega⟩
  exact bA.trans ((bB.mono bA.size).trans ((bC.mono (by omega)).trans ((bD.mono (by omega)).trans (bE.mono (by omega)))))

set_option maxRecDepth 100000 in
set_option maxHeartbeats 16000000 in
theorem making_c {w : World} {gp : Nat} {ve vd : Value} {m n : Nat} {L : List Ed} {D : List Bs} {mkr : Bs → Option Nat} {vf : Value} {K : List Bs} (hG : Gph w gp ve vd m n L D mkr)
    (hK : Strs w vf K) (hKl : ∀ x ∈ K, x.length ≤ maxLen) (hlen : K.length ≤ 1000000) :
    Calls Try.prog 41 #[.pointer (some ⟨gp, 0, none⟩), vf] w fun e w' => ∃ v M, e = .returned v ∧ RowI w' w.heap.size v M ∧ M.Pairwise (· < ·) ∧ (∀ x, x ∈ M ↔ Reach mkr L K x) ∧ Below w.heap.size w w' := by
  have hmk := @run_makeMap Try.prog
  have hM0 := Mk.start w gp L.length
  obtain ⟨W3, hW3⟩ : ∃ W3, ((w.alloc (.cells #[.pointer (some ⟨gp, 0, none⟩)] 27)).alloc (.map #[] 0)).alloc (.cells #[.map (some (w.heap.size + 1))] 98) = W3 := ⟨_, rfl⟩
  rw [hW3] at hM0
  have hs3 : W3.heap.size = w.heap.size + 1 + 1 + 1 := by rw [← hW3, World.size_alloc, World.size_alloc, World.size_alloc]
  have bA := below_alloc w (.cells #[.pointer (some ⟨gp, 0, none⟩)] 27)
  have bB := below_alloc (w.alloc (.cells #[.pointer (some ⟨gp, 0, none⟩)] 27)) (.map #[] 0)
  have bC := below_alloc ((w.alloc (.cells #[.pointer (some ⟨gp, 0, none⟩)] 27)).alloc (.map #[] 0)) (.cells #[.map (some (w.heap.size + 1))] 98)
  rw [hW3] at bC
  have hg3 : W3.heap[w.heap.size]? = some (.cells #[.pointer (some ⟨gp, 0, none⟩)] 27 (0, 0)) :=
    (bC.block _ (by rw [World.size_alloc, World.size_alloc]; omega)).trans ((bB.block _ (by rw [World.size_alloc]; omega)).trans (heap_alloc_new w _))
  have hb3 : Below w.heap.size w W3 := bA.trans ((bB.mono bA.size).trans (bC.mono (by rw [World.size_alloc, World.size_alloc]; omega)))
  have hmc := mchan_c L.length (by have := hG.few; omega) W3
  rw [hs3] at hmc
  obtain ⟨aE, cE, rfl, hcE, hrE⟩ := id hG.ed
  have c0 : W3.cell? ⟨w.heap.size, 0, none⟩ = some (.pointer (some ⟨gp, 0, none⟩)) := by simp [World.cell?, hg3]
  have c1 : W3.cell? ⟨gp, 0, none⟩ = some (.slice aE L.length cE) := by
    have := hb3.block gp (lt_some hG.box)
    simp [World.cell?, this, hG.box]
  obtain ⟨s, hs⟩ : ∃ s, w.heap.size = s := ⟨_, rfl⟩
  rw [hs] at hM0 hW3 hs3 hmc c0
  have HG := Lib.hid hG
  have HK := Lib.hid hK
  have HKL := Lib.hid hKl
  have HM := Lib.hid hM0
  have HW3 := Lib.hid hW3
  clear hG hK hKl hM0 hb3 hg3 hcE hrE hW3 bA bB bC
  go_enter Try.func41, Try.ntmps41
  go_wp2_with fail
  go_step3
  go_upto_region 2 with fail
  clear hmk
  rw [HW3.out]
  clear HW3
  go_wp2_with fail
  generalize s + 1 + 1 + 1 + 1 = nb at *
  generalize s + 1 + 1 + 1 = c at *
  generalize s + 1 + 1 = mb at *
  generalize s + 1 = mm at *
  obtain ⟨W5, hW5⟩ : ∃ W5, (W3.alloc (.chan L.length #[] false 0 0 false)).alloc (.cells #[.chan (some c)] 99) = W5 := ⟨_, rfl⟩
  rw [hW5] at HM ⊢
  clear hW5 hmc c0 c1 hs3
  refine (meet_c HG.out HM.out (HK.out.below HM.out.bel) HKL.out hlen List.nodup_nil (fun x hx => by cases hx) (Nat.le_refl _)).mono ?_
  rintro e w1 ⟨rfl, T, hT, hM1, -⟩
  rw [List.nil_append] at hT hM1
  have HM1 := Lib.hid hM1
  have HB := Lib.hid (show Bfs mkr L K T 0 from hT ▸ Bfs.start)
  clear HM hT hM1 W3 W5
  go_wp2_with fail
  go_step3
  go_wp2_with fail
  go_loopg [8] L.length (fun k _ W => ∃ (S : List Nat) (d : Nat), k + d = L.length ∧ Hid (Mk w W s mb nb mm c gp L.length S (S.drop d)) ∧ Hid (Bfs mkr L K S d))
  case atStart => exact ⟨T, 0, by omega, by simpa using HM1, HB⟩
  case round =>
    clear HM1 HB T
    obtain ⟨S, d, hkd, HM, HB⟩ := hrel
    have cn : wr.cell? ⟨nb, 0, none⟩ = some (.chan (some c)) := by simp [World.cell?, HM.out.nbx]
    obtain ⟨sn, rn, hch⟩ := HM.out.ch
    have hltL : ∀ x ∈ S, x < L.length := fun x hx => (HB.out.snd x hx).lt HG.out.to
    have hSl : S.length ≤ L.length := by
      have := sub_len (A := S) (B := List.range L.length) HB.out.nd fun x hx => List.mem_range.2 (hltL x hx)
      simpa using this
    have hfw := HG.out.few
    have hz := zeroI wr
    by_cases hd : d < S.length
    · have hx := List.getElem?_eq_getElem hd
      have hnL := hltL _ (List.getElem_mem hd)
      have hdrop : S.drop d = S[d] :: S.drop (d + 1) := List.drop_eq_getElem_cons hd
      generalize S[d] = q at *
      have hxe := List.getElem?_eq_getElem hnL
      have hB2 := HB.out.next hx hxe
      have hsE := HG.out.small _ (List.getElem_mem hnL)
      obtain ⟨hM1, -⟩ := HM.out.chan (S.drop (d + 1)) sn (rn + 1)
      rw [hdrop] at hch
      obtain ⟨W1, hW1⟩ : ∃ W1, wr.setChan c L.length (intV (S.drop (d + 1))).toArray false sn (rn + 1) false = W1 := ⟨_, rfl⟩
      rw [hW1] at hM1
      have hGr := HG.out.below hM1.bel
      generalize L[q] = x at *
      obtain ⟨ge, off, ce, v0, v1, v2, v3, e1, hge, hE, r0, r1, r2, r3, r4, r5⟩ := hGr.ed.at hxe
      cases e1
      have c0 : W1.cell? ⟨gp, 0, none⟩ = some (.slice (some ⟨ge, off, none⟩) L.length cE) := by simp [World.cell?, hGr.box]
      have cs : W1.cell? ⟨s, 0, none⟩ = some (.pointer (some ⟨gp, 0, none⟩)) := by simp [World.cell?, hM1.gbx]
      have hn := needs_c hE (by have := hsE.i; omega) (by have := hsE.m; omega) (by have := hsE.r; omega)
      obtain ⟨y0, z0, y1, z1, y2, z2, y3, z3, rfl, rfl, rfl, rfl⟩ := hE.sl
      have hq0 : (0 : Int) ≤ (q : Int) := by omega
      have hq1 : (q : Int) < (L.length : Int) := by omega
      have hKn : x.ins ++ x.imp ++ x.ord = needsL x := rfl
      rw [hKn] at hn
      have HSX : Hid ((needsL x).length ≤ 30 ∧ ∀ y ∈ needsL x, y.length ≤ 200) := Lib.hid (by
        refine ⟨by have := hsE.i; have := hsE.m; have := hsE.r; simp [needsL]; omega, fun y hy => ?_⟩
        simp only [needsL, List.mem_append] at hy
        rcases hy with (hy | hy) | hy
        · exact hsE.xi y hy
        · exact hsE.xm y hy
        · exact hsE.xr y hy)
      obtain ⟨R, hR⟩ : ∃ R, needsL x = R := ⟨_, rfl⟩
      rw [hR] at hn HSX hB2
      have HM1 := Lib.hid hM1
      have HCH := Lib.hid hch
      have HW1 := Lib.hid hW1
      have HB2 := Lib.hid hB2
      have HLT := Lib.hid hltL
      have HSL := Lib.hid (show S.length ≤ L.length ∧ d < S.length from ⟨hSl, hd⟩)
      have HND := Lib.hid HB.out.nd
      clear hx hnL hdrop hxe hB2 hsE hM1 hch hW1 hGr hE hge hKn hR hltL hSl hd HM HB
      go_upto_region 6 with fail
      apply wp_region_reg
      show RegW _ _ _ [0, 1, 2] _ _
      refine RegW.recv (c := c) (z := .int .i64 0) (w₁ := wr) rfl rfl (by simp [go_sem, execOp, rcase, Act.eval]) HCH.out (by simp [intV]) ?_
      rw [intV_pop, HW1.out]
      have hq : (intV (q :: S.drop (d + 1))).toArray.getD 0 undef = .int .i64 (q : Int) := by simp [intV]
      rw [hq]
      clear hq HCH HW1 hz cn
      refine RegW.value (v := .int .i64 0) (w₁ := W1) rfl rfl (by simp [go_sem, execOp, Act.eval, Act.put, goInt]) ?_
      refine RegW.value (v := .bool true) (w₁ := W1) rfl rfl (by simp [go_sem, execOp, Act.eval, Act.put, goInt]) ?_
      refine RegW.done ?_
      simp [Exit.inBlock, Exit.then, Act.put, goInt]
      go_at_K
      go_wp2_with fail
      refine hn.mono ?_
      rintro e w1 ⟨vN, rfl, hS, hb⟩
      go_wp2_with fail
      refine (meet_c HG.out (HM1.out.below hb) hS.1 (fun y hy => Nat.le_trans (HSX.out.2 y hy) (by unfold maxLen; omega)) (by have := HSX.out.1; omega) HND.out HLT.out (by rw [List.length_drop]; omega)).mono ?_
      rintro e w2 ⟨rfl, T, hT, hM2, -⟩
      rw [hT] at HB2
      rw [← List.drop_append_of_le_length HSL.out.2] at hM2
      have HM2 := Lib.hid hM2
      have hkd2 := HSL.out
      clear hT hM2 hn hS hb c0 cs r0 r1 r2 r3 r4 r5
      go_wp2_with fail
      go_roundg (gk - 1)
      case measure => omega
      case rel => exact ⟨S ++ T, d + 1, by omega, HM2, HB2⟩
    · have hde : d = S.length := by have := HB.out.le; omega
      subst hde
      rw [List.drop_length] at hch
      have hM := HM.out
      rw [List.drop_length] at hM
      have hk := (callsIn_wide (n := 5)).1 (ikeys_c (some mm) wr)
      have hso := hM.set.sorted (by omega)
      have cm : wr.cell? ⟨mb, 0, none⟩ = some (.map (some mm)) := by simp [World.cell?, hM.mbx]
      have HCH := Lib.hid hch
      have HF : Hid (∀ x, x ∈ S ↔ Reach mkr L K x) := Lib.hid fun x => HB.out.fin
      have HBL := Lib.hid hM.bel
      clear hch hM HM HB hltL hSl hd
      go_upto_region 6 with fail
      apply wp_region_reg
      show RegW _ _ _ [0, 1, 2] _ _
      refine RegW.default (c := c) (z := .int .i64 0) (w₁ := wr) rfl rfl (by simp [go_sem, execOp, rcase, Act.eval]) HCH.out ?_
      refine RegW.value (v := .int .i64 (-1)) (w₁ := wr) rfl rfl (by simp [go_sem, execOp, Act.eval, Act.put, goInt]) ?_
      refine RegW.value (v := .bool false) (w₁ := wr) rfl rfl (by simp [go_sem, execOp, Act.eval, Act.put, goInt]) ?_
      refine RegW.done ?_
      simp [Exit.inBlock, Exit.then, Act.put, goInt]
      go_at_K
      clear HCH hz cn
      go_wp2_with fail
      refine hk.mono ?_
      rintro e w1 ⟨rfl, rfl⟩
      go_wp2_with fail
      refine hso.mono ?_
      rintro e w1 ⟨v, M, rfl, hR, hP, hMe, hb⟩
      go_wp2_with fail
      rw [Exit.noGoto_ret]
      go_ret
      have hsz := HBL.out.size
      refine ⟨v, M, rfl, ⟨hR.1, ownsRow_base_a hR.2 hsz⟩, hP, fun x => (hMe x).trans (HF.out x), HBL.out.trans (hb.mono hsz)⟩
end Go.Proofs.Ytbflodefmookiaa.Gr
