/-
  THE TEXT OF A MANIFEST, by the document.
-/
import Derived.Test.YtlhhpggjdbbcmaaDoorPrFew
import Derived.Test.YtlhhpggjdbbcmaaDoorPrRow
namespace Go.Proofs.YtlhhpggjdbbcmaaDoor.Pr
open Go.RowKit Go.Proofs.YtlhhpggjdbbcmaaDoor Go.Proofs.YtlhhpggjdbbcmaaDoor.Df

theorem refEscape_s (s : Bs) (hs : s.length ≤ 400000) (w : World) : Calls Tryd.prog 23 #[.string (mk s)] w fun e w' => e = .returned (.string (mk (esc s))) ∧ ∃ q, w' = w.drewN q :=
  (refEscape_c s hs w).mono fun _ _ ⟨h1, h2⟩ => ⟨h1, 0, h2.symm⟩
theorem row_s {w : World} {v : Value} {K : List Bs} (h : Strs w v K) (hl : K.length ≤ 1000) (hx : ∀ x ∈ K, x.length ≤ 200) :
    Calls Tryd.prog 24 #[v] w fun e w' => e = .returned (.string (mk (rowT K))) ∧ ∃ q, w' = w.drewN q :=
  (row_c h hl hx).mono fun _ _ ⟨h1, h2⟩ => ⟨h1, 0, h2.symm⟩
theorem below_drewN (b : Nat) (w : World) (n : Nat) : Below b w (w.drewN n) := ⟨rfl, rfl, rfl, Nat.le_refl _, fun _ _ => rfl⟩
theorem strs_drewN {w : World} {v : Value} {K : List Bs} (h : Strs w v K) (n : Nat) : Strs (w.drewN n) v K := h

set_option maxRecDepth 100000 in
set_option maxHeartbeats 64000000 in
theorem refPrint_c {w : World} {u0 u1 : Value} {L : List Ed} {D : List Bs} (hL : Eds w u0 L) (hD : Strs w u1 D) (hl : L.length ≤ 30) (hd : D.length ≤ 20) (hx : ∀ x ∈ L, Sm x) (hy : ∀ x ∈ D, x.length ≤ 200) :
    Calls Tryd.prog 10 #[.agg #[u0, u1]] w fun x w' => x = .returned (.string (mk (printT L D))) ∧ Below w.heap.size w w' := by
  have hA := below_alloc w (.cells #[u0, u1] 25)
  obtain ⟨wB, hwB⟩ : ∃ wB, w.alloc (.cells #[u0, u1] 25) = wB := ⟨_, rfl⟩
  have hQ : wB.heap[w.heap.size]? = some (.cells #[u0, u1] 25 (0, 0)) := by rw [← hwB]; exact heap_alloc_new w _
  rw [hwB] at hA
  have HL := Lib.hid hL
  have HD := Lib.hid hD
  have HX := Lib.hid hx
  have HY := Lib.hid hy
  have HA := Lib.hid hA
  obtain ⟨a0, k0, rfl, -, -⟩ := id hL
  obtain ⟨a1, k1, rfl, -, -⟩ := id hD
  have hcell : ∀ W, Below wB.heap.size wB W → W.cell? ⟨w.heap.size, 0, none⟩ = some (.slice a0 L.length k0) ∧ W.cell? ⟨w.heap.size, 1, none⟩ = some (.slice a1 D.length k1) := fun W hW => by
    have h1 := (hW.block _ (lt_some hQ)).trans hQ
    constructor <;> (rw [Lib.cell_of_heap h1]; rfl)
  have HC := Lib.hid hcell
  obtain ⟨c0, c1⟩ := hcell _ (Below.refl _ _)
  have HWB := Lib.hid hwB
  clear hL hD hx hy hA hQ hcell hwB
  go_enter Tryd.func10, Tryd.ntmps10
  go_upto_region 1 with fail
  rw [HWB.out]
  go_wp2_with fail
  go_loopw [3, 4, 5] (fun s i _ wr => ∃ j : Nat, j ≤ L.length ∧ i = .int .i64 j ∧ s = .string (mk (edgesT 0 (L.take j))) ∧ Hid (Below wB.heap.size wB wr)) (fun _ i _ _ => L.length - (intOf i).toNat)
  case atStart => exact ⟨0, Nat.zero_le _, rfl, by simp [edgesT]; rfl, Lib.hid (Below.refl _ _)⟩
  case round =>
    clear c0 c1
    obtain ⟨j, hj, rfl, rfl, HB⟩ := hrel
    obtain ⟨c0, c1⟩ := HC.out _ HB.out
    have hTl := edgesT_len (L.take j) 0 fun e he => HX.out e (List.mem_of_mem_take he)
    rw [List.length_take, Nat.min_eq_left hj] at hTl
    by_cases hlt : j < L.length
    · have hxj := List.getElem?_eq_getElem hlt
      have hsm := HX.out _ (List.getElem_mem hlt)
      have het := edgesT_take hxj
      generalize L[j] = x at *
      obtain ⟨g, off, c2, v0, v1, v2, v3, e, hg, hE, r0, r1, r2, r3, r4, r5⟩ := ((HL.out.below HA.out).below HB.out).at hxj
      cases e
      have HET := Lib.hid het
      obtain ⟨y0, z0, y1, z1, y2, z2, y3, z3, rfl, rfl, rfl, rfl⟩ := hE.sl
      have hi0 : (0 : Int) ≤ (j : Int) := by omega
      have hi1 : (j : Int) < (L.length : Int) := by omega
      have hAE := below_alloc wr (.cells #[.slice y0 x.outs.length z0, .slice y1 x.ins.length z1, .slice y2 x.imp.length z2, .slice y3 x.ord.length z3, .string (mk x.cmd), .string (mk x.dep)] 38)
      have hQE := heap_alloc_new wr (.cells #[.slice y0 x.outs.length z0, .slice y1 x.ins.length z1, .slice y2 x.imp.length z2, .slice y3 x.ord.length z3, .string (mk x.cmd), .string (mk x.dep)] 38)
      obtain ⟨wE, hwE⟩ : ∃ wE, wr.alloc (.cells #[.slice y0 x.outs.length z0, .slice y1 x.ins.length z1, .slice y2 x.imp.length z2, .slice y3 x.ord.length z3, .string (mk x.cmd), .string (mk x.dep)] 38) = wE := ⟨_, rfl⟩
      rw [hwE] at hAE hQE
      have HWE := Lib.hid hwE
      have HBE := Lib.hid (HB.out.trans (hAE.mono HB.out.size))
      have hcs : ∀ W : World, W.heap[wr.heap.size]? = some (.cells #[.slice y0 x.outs.length z0, .slice y1 x.ins.length z1, .slice y2 x.imp.length z2, .slice y3 x.ord.length z3, .string (mk x.cmd), .string (mk x.dep)] 38 (0, 0)) → W.cell? ⟨wr.heap.size, 0, none⟩ = some (.slice y0 x.outs.length z0) ∧ W.cell? ⟨wr.heap.size, 1, none⟩ = some (.slice y1 x.ins.length z1) ∧ W.cell? ⟨wr.heap.size, 2, none⟩ = some (.slice y2 x.imp.length z2) ∧ W.cell? ⟨wr.heap.size, 3, none⟩ = some (.slice y3 x.ord.length z3) ∧ W.cell? ⟨wr.heap.size, 4, none⟩ = some (.string (mk x.cmd)) ∧ W.cell? ⟨wr.heap.size, 5, none⟩ = some (.string (mk x.dep)) := fun W h => by
        refine ⟨?_, ?_, ?_, ?_, ?_, ?_⟩ <;> (rw [Lib.cell_of_heap h]; rfl)
      have HCS := Lib.hid hcs
      have HQE := Lib.hid hQE
      have hE2 := hE.below hAE
      have HS0 := Lib.hid hE2.o
      have HS1 := Lib.hid hE2.i
      have HS2 := Lib.hid hE2.m
      have HS3 := Lib.hid hE2.r
      have HSM := Lib.hid hsm
      have hec := esc_len x.cmd
      have hed := esc_len x.dep
      have hcl := hsm.c
      have hdl := hsm.d
      have HR0 := Lib.hid (rowT_len hsm.xo)
      have HR1 := Lib.hid (rowT_len hsm.xi)
      have HR2 := Lib.hid (rowT_len hsm.xm)
      have HR3 := Lib.hid (rowT_len hsm.xr)
      have hdg := digT_len j
      have hj30 : j < 100 := by omega
      have hDC := fun W => digits_c j hj30 W
      have hEC := fun W => refEscape_s x.cmd (by omega) W
      have hED := fun W => refEscape_s x.dep (by omega) W
      have hD1 : (mk x.dep).toList.isEmpty = x.dep.isEmpty := by rw [mk_toList]
      have HDP : Hid (depT x.dep = if x.dep = [] then [] else [32, 32, 100, 101, 112, 102, 105, 108, 101, 32, 61, 32] ++ esc x.dep ++ [10]) := Lib.hid rfl
      have HED : Hid (edgeT (ruleT j) x = headT (ruleT j) x ++ depT x.dep ++ [98, 117, 105, 108, 100] ++ rowT x.outs ++ ([58, 32] ++ ruleT j) ++ rowT x.ins ++ barT [32, 124] x.imp ++ barT [32, 124, 124] x.ord ++ [10]) := Lib.hid rfl
      have HHD : Hid (headT (ruleT j) x = [114, 117, 108, 101, 32] ++ ruleT j ++ [10, 32, 32, 99, 111, 109, 109, 97, 110, 100, 32, 61, 32] ++ esc x.cmd ++ [10]) := Lib.hid rfl
      have HRU : Hid (ruleT j = 114 :: digT j) := Lib.hid rfl
      obtain ⟨T, hT⟩ : ∃ T, edgesT 0 (L.take j) = T := ⟨_, rfl⟩
      obtain ⟨dj, hdj⟩ : ∃ dj, digT j = dj := ⟨_, rfl⟩
      obtain ⟨ec, hecE⟩ : ∃ ec, esc x.cmd = ec := ⟨_, rfl⟩
      obtain ⟨ed, hedE⟩ : ∃ ed, esc x.dep = ed := ⟨_, rfl⟩
      rw [hdj] at hDC hdg
      rw [hecE] at hEC hec
      rw [hedE] at hED hed
      rw [hT] at hTl ⊢
      have hzT := mk_size T
      have hzd := mk_size dj
      have hzc := mk_size ec
      have hze := mk_size ed
      have HT := Lib.hid hT
      have HDJ := Lib.hid hdj
      have HECE := Lib.hid hecE
      have HEDE := Lib.hid hedE
      have hl0 := hsm.o
      have hl1 := hsm.i
      have hl2 := hsm.m
      have hl3 := hsm.r
      clear hAE hQE hwE hE hE2 hcs hsm hxj hg het hT hdj hecE hedE
      have bT : T.length ≤ 540000 := by omega
      have bdj : dj.length ≤ 2 := hdg
      have bec : ec.length ≤ 600 := by omega
      have bed : ed.length ≤ 400 := by omega
      go_upto_region 6 with fail
      rw [HWE.out]
      clear r0 r1 r2 r3 r4 r5 c0 c1
      obtain ⟨f0, f1, f2, f3, f4, f5⟩ := HCS.out _ HQE.out
      obtain ⟨A1, hA1⟩ : ∃ A, ([114, 117, 108, 101, 32, 114] : Bs) ++ dj = A := ⟨_, rfl⟩
      have eA1 : (⟨#[114, 117, 108, 101, 32, 114]⟩ : ByteArray) ++ mk dj = mk A1 := (mk_append [114, 117, 108, 101, 32, 114] dj).trans (congrArg mk hA1)
      have zA1 := mk_size A1
      have bA1 : A1.length ≤ 100 := by
        have : A1.length = 6 + dj.length := by rw [← hA1, List.length_append] <;> rfl
        omega
      have nA1 : ¬ 9223372036854775807 < 6 + dj.length := by omega
      have mA1 : ¬ 9223372036854775807 < dj.length + 6 := by omega
      have HA1 := Lib.hid hA1
      clear hA1
      obtain ⟨A2, hA2⟩ : ∃ A, (A1 : Bs) ++ [10, 32, 32, 99, 111, 109, 109, 97, 110, 100, 32, 61, 32] = A := ⟨_, rfl⟩
      have eA2 : mk A1 ++ (⟨#[10, 32, 32, 99, 111, 109, 109, 97, 110, 100, 32, 61, 32]⟩ : ByteArray) = mk A2 := (mk_append A1 [10, 32, 32, 99, 111, 109, 109, 97, 110, 100, 32, 61, 32]).trans (congrArg mk hA2)
      have zA2 := mk_size A2
      have bA2 : A2.length ≤ 200 := by
        have : A2.length = A1.length + 13 := by rw [← hA2, List.length_append] <;> rfl
        omega
      have nA2 : ¬ 9223372036854775807 < A1.length + 13 := by omega
      have mA2 : ¬ 9223372036854775807 < 13 + A1.length := by omega
      have HA2 := Lib.hid hA2
      clear hA2
      obtain ⟨A3, hA3⟩ : ∃ A, (A2 : Bs) ++ ec = A := ⟨_, rfl⟩
      have eA3 : mk A2 ++ mk ec = mk A3 := (mk_append A2 ec).trans (congrArg mk hA3)
      have zA3 := mk_size A3
      have bA3 : A3.length ≤ 900 := by
        have : A3.length = A2.length + ec.length := by rw [← hA3, List.length_append] <;> rfl
        omega
      have nA3 : ¬ 9223372036854775807 < A2.length + ec.length := by omega
      have mA3 : ¬ 9223372036854775807 < ec.length + A2.length := by omega
      have HA3 := Lib.hid hA3
      clear hA3
      obtain ⟨A4, hA4⟩ : ∃ A, (A3 : Bs) ++ [10] = A := ⟨_, rfl⟩
      have eA4 : mk A3 ++ (⟨#[10]⟩ : ByteArray) = mk A4 := (mk_append A3 [10]).trans (congrArg mk hA4)
      have zA4 := mk_size A4
      have bA4 : A4.length ≤ 1000 := by
        have : A4.length = A3.length + 1 := by rw [← hA4, List.length_append] <;> rfl
        omega
      have nA4 : ¬ 9223372036854775807 < A3.length + 1 := by omega
      have mA4 : ¬ 9223372036854775807 < 1 + A3.length := by omega
      have HA4 := Lib.hid hA4
      clear hA4
      obtain ⟨A5, hA5⟩ : ∃ A, (T : Bs) ++ A4 = A := ⟨_, rfl⟩
      have eA5 : mk T ++ mk A4 = mk A5 := (mk_append T A4).trans (congrArg mk hA5)
      have zA5 := mk_size A5
      have bA5 : A5.length ≤ 541000 := by
        have : A5.length = T.length + A4.length := by rw [← hA5, List.length_append] <;> rfl
        omega
      have nA5 : ¬ 9223372036854775807 < T.length + A4.length := by omega
      have mA5 : ¬ 9223372036854775807 < A4.length + T.length := by omega
      have HA5 := Lib.hid hA5
      clear hA5
      go_quiet (first | exact Calls.quiet_of (hDC _) | exact Calls.quiet_of (hEC _))
      obtain ⟨w1, hw1⟩ : ∃ W, wE.drewN nq = W := ⟨_, rfl⟩
      have hbd := below_drewN wE.heap.size wE nq
      rw [hw1] at hbd ⊢
      have HBE := Lib.hid (HBE.out.trans (hbd.mono HBE.out.size))
      have HQE := Lib.hid ((hbd.block _ (lt_some HQE.out)).trans HQE.out)
      have HS0 := Lib.hid (HS0.out.below hbd)
      have HS1 := Lib.hid (HS1.out.below hbd)
      have HS2 := Lib.hid (HS2.out.below hbd)
      have HS3 := Lib.hid (HS3.out.below hbd)
      clear hbd hw1 f0 f1 f2 f3 f4 f5
      obtain ⟨f0, f1, f2, f3, f4, f5⟩ := HCS.out _ HQE.out
      by_cases hdd : x.dep = []
      · have HDD := Lib.hid (show (x.dep = []) = True from eq_true hdd)
        have hD2 : (mk x.dep).toList.isEmpty = true := by rw [hD1, hdd]; rfl
        clear hdd hD1
        have hrow0 := fun n => row_s (strs_drewN HS0.out n) (by have := HSM.out.o; omega) HSM.out.xo
        have hbr0 := HR0.out
        obtain ⟨R0, hR0⟩ : ∃ R, rowT x.outs = R := ⟨_, rfl⟩
        rw [hR0] at hrow0 hbr0
        have HRR0 := Lib.hid hR0
        have hzR0 := mk_size R0
        have bR0 : R0.length ≤ 4010 := by have := HSM.out.o; omega
        clear hR0 hbr0
        have hrow1 := fun n => row_s (strs_drewN HS1.out n) (by have := HSM.out.i; omega) HSM.out.xi
        have hbr1 := HR1.out
        obtain ⟨R1, hR1⟩ : ∃ R, rowT x.ins = R := ⟨_, rfl⟩
        rw [hR1] at hrow1 hbr1
        have HRR1 := Lib.hid hR1
        have hzR1 := mk_size R1
        have bR1 : R1.length ≤ 4010 := by have := HSM.out.i; omega
        clear hR1 hbr1
        obtain ⟨A6, hA6⟩ : ∃ A, ([98, 117, 105, 108, 100] : Bs) ++ R0 = A := ⟨_, rfl⟩
        have eA6 : (⟨#[98, 117, 105, 108, 100]⟩ : ByteArray) ++ mk R0 = mk A6 := (mk_append [98, 117, 105, 108, 100] R0).trans (congrArg mk hA6)
        have zA6 := mk_size A6
        have bA6 : A6.length ≤ 4020 := by
          have : A6.length = 5 + R0.length := by rw [← hA6, List.length_append] <;> rfl
          omega
        have nA6 : ¬ 9223372036854775807 < 5 + R0.length := by omega
        have mA6 : ¬ 9223372036854775807 < R0.length + 5 := by omega
        have HA6 := Lib.hid hA6
        clear hA6
        obtain ⟨A7, hA7⟩ : ∃ A, (A6 : Bs) ++ [58, 32, 114] = A := ⟨_, rfl⟩
        have eA7 : mk A6 ++ (⟨#[58, 32, 114]⟩ : ByteArray) = mk A7 := (mk_append A6 [58, 32, 114]).trans (congrArg mk hA7)
        have zA7 := mk_size A7
        have bA7 : A7.length ≤ 4030 := by
          have : A7.length = A6.length + 3 := by rw [← hA7, List.length_append] <;> rfl
          omega
        have nA7 : ¬ 9223372036854775807 < A6.length + 3 := by omega
        have mA7 : ¬ 9223372036854775807 < 3 + A6.length := by omega
        have HA7 := Lib.hid hA7
        clear hA7
        obtain ⟨A8, hA8⟩ : ∃ A, (A7 : Bs) ++ dj = A := ⟨_, rfl⟩
        have eA8 : mk A7 ++ mk dj = mk A8 := (mk_append A7 dj).trans (congrArg mk hA8)
        have zA8 := mk_size A8
        have bA8 : A8.length ≤ 4040 := by
          have : A8.length = A7.length + dj.length := by rw [← hA8, List.length_append] <;> rfl
          omega
        have nA8 : ¬ 9223372036854775807 < A7.length + dj.length := by omega
        have mA8 : ¬ 9223372036854775807 < dj.length + A7.length := by omega
        have HA8 := Lib.hid hA8
        clear hA8
        obtain ⟨A9, hA9⟩ : ∃ A, (A8 : Bs) ++ R1 = A := ⟨_, rfl⟩
        have eA9 : mk A8 ++ mk R1 = mk A9 := (mk_append A8 R1).trans (congrArg mk hA9)
        have zA9 := mk_size A9
        have bA9 : A9.length ≤ 8100 := by
          have : A9.length = A8.length + R1.length := by rw [← hA9, List.length_append] <;> rfl
          omega
        have nA9 : ¬ 9223372036854775807 < A8.length + R1.length := by omega
        have mA9 : ¬ 9223372036854775807 < R1.length + A8.length := by omega
        have HA9 := Lib.hid hA9
        clear hA9
        obtain ⟨A10, hA10⟩ : ∃ A, (A5 : Bs) ++ A9 = A := ⟨_, rfl⟩
        have eA10 : mk A5 ++ mk A9 = mk A10 := (mk_append A5 A9).trans (congrArg mk hA10)
        have zA10 := mk_size A10
        have bA10 : A10.length ≤ 551000 := by
          have : A10.length = A5.length + A9.length := by rw [← hA10, List.length_append] <;> rfl
          omega
        have nA10 : ¬ 9223372036854775807 < A5.length + A9.length := by omega
        have mA10 : ¬ 9223372036854775807 < A9.length + A5.length := by omega
        have HA10 := Lib.hid hA10
        clear hA10
        go_upto_region 9 with fail
        go_quiet (first | (with_reducible exact Calls.quiet_of (hDC _)) | (with_reducible exact Calls.quiet_of (hrow0 _)) | (with_reducible exact Calls.quiet_of (hrow1 _)))
        obtain ⟨w2, hw2⟩ : ∃ W, w1.drewN nq = W := ⟨_, rfl⟩
        have hbd := below_drewN w1.heap.size w1 nq
        rw [hw2] at hbd ⊢
        have HBE := Lib.hid (HBE.out.trans (hbd.mono HBE.out.size))
        have HQE := Lib.hid ((hbd.block _ (lt_some HQE.out)).trans HQE.out)
        have HS0 := Lib.hid (HS0.out.below hbd)
        have HS1 := Lib.hid (HS1.out.below hbd)
        have HS2 := Lib.hid (HS2.out.below hbd)
        have HS3 := Lib.hid (HS3.out.below hbd)
        clear hbd hw2 f0 f1 f2 f3 f4 f5
        obtain ⟨f0, f1, f2, f3, f4, f5⟩ := HCS.out _ HQE.out
        by_cases hii : x.imp = []
        · have HII := Lib.hid (show (x.imp = []) = True from eq_true hii)
          have hp0 : ¬ (0 : Int) < (x.imp.length : Int) := by rw [hii]; decide
          clear hii
          by_cases hoo : x.ord = []
          · have HOO := Lib.hid (show (x.ord = []) = True from eq_true hoo)
            have ho0 : ¬ (0 : Int) < (x.ord.length : Int) := by rw [hoo]; decide
            clear hoo
            obtain ⟨A11, hA11⟩ : ∃ A, (A10 : Bs) ++ [10] = A := ⟨_, rfl⟩
            have eA11 : mk A10 ++ (⟨#[10]⟩ : ByteArray) = mk A11 := (mk_append A10 [10]).trans (congrArg mk hA11)
            have zA11 := mk_size A11
            have bA11 : A11.length ≤ 561000 := by
              have : A11.length = A10.length + 1 := by rw [← hA11, List.length_append] <;> rfl
              omega
            have nA11 : ¬ 9223372036854775807 < A10.length + 1 := by omega
            have mA11 : ¬ 9223372036854775807 < 1 + A10.length := by omega
            have HA11 := Lib.hid hA11
            clear hA11
            have HFIN : Hid (A11 = edgesT 0 (L.take (j + 1))) := Lib.hid (by
              rw [HET.out, HED.out, HHD.out, HDP.out, HRU.out, HT.out, HDJ.out, HECE.out, HEDE.out]
              simp only [← HA11.out, ← HA10.out, ← HA9.out, ← HA8.out, ← HA7.out, ← HA6.out, ← HA5.out, ← HA4.out, ← HA3.out, ← HA2.out, ← HA1.out, barT, HRR0.out, HRR1.out, HDD.out, HII.out, HOO.out, if_true, if_false, List.append_assoc, List.cons_append, List.nil_append, List.append_nil])
            go_wp2_with fail
            go_roundw
            case rel => exact ⟨j + 1, by omega, by go_num, by rw [HFIN.out], HBE⟩
            case measure => simp [intOf] <;> omega
          · have HOO := Lib.hid (show (x.ord = []) = False from eq_false hoo)
            have ho0 : (0 : Int) < (x.ord.length : Int) := by have := List.length_pos_iff.2 hoo; omega
            clear hoo
            have hrow3 := fun n => row_s (strs_drewN HS3.out n) (by have := HSM.out.r; omega) HSM.out.xr
            have hbr3 := HR3.out
            obtain ⟨R3, hR3⟩ : ∃ R, rowT x.ord = R := ⟨_, rfl⟩
            rw [hR3] at hrow3 hbr3
            have HRR3 := Lib.hid hR3
            have hzR3 := mk_size R3
            have bR3 : R3.length ≤ 4010 := by have := HSM.out.r; omega
            clear hR3 hbr3
            obtain ⟨A12, hA12⟩ : ∃ A, ([32, 124, 124] : Bs) ++ R3 = A := ⟨_, rfl⟩
            have eA12 : (⟨#[32, 124, 124]⟩ : ByteArray) ++ mk R3 = mk A12 := (mk_append [32, 124, 124] R3).trans (congrArg mk hA12)
            have zA12 := mk_size A12
            have bA12 : A12.length ≤ 4020 := by
              have : A12.length = 3 + R3.length := by rw [← hA12, List.length_append] <;> rfl
              omega
            have nA12 : ¬ 9223372036854775807 < 3 + R3.length := by omega
            have mA12 : ¬ 9223372036854775807 < R3.length + 3 := by omega
            have HA12 := Lib.hid hA12
            clear hA12
            obtain ⟨A13, hA13⟩ : ∃ A, (A10 : Bs) ++ A12 = A := ⟨_, rfl⟩
            have eA13 : mk A10 ++ mk A12 = mk A13 := (mk_append A10 A12).trans (congrArg mk hA13)
            have zA13 := mk_size A13
            have bA13 : A13.length ≤ 560500 := by
              have : A13.length = A10.length + A12.length := by rw [← hA13, List.length_append] <;> rfl
              omega
            have nA13 : ¬ 9223372036854775807 < A10.length + A12.length := by omega
            have mA13 : ¬ 9223372036854775807 < A12.length + A10.length := by omega
            have HA13 := Lib.hid hA13
            clear hA13
            have hcall := row_c HS3.out (by have := HSM.out.r; omega) HSM.out.xr
            rw [HRR3.out] at hcall
            go_upto_region 13 with fail
            go_wp2_with fail
            refine hcall.mono ?_
            rintro e w9 ⟨rfl, rfl⟩
            clear hcall
            obtain ⟨A14, hA14⟩ : ∃ A, (A13 : Bs) ++ [10] = A := ⟨_, rfl⟩
            have eA14 : mk A13 ++ (⟨#[10]⟩ : ByteArray) = mk A14 := (mk_append A13 [10]).trans (congrArg mk hA14)
            have zA14 := mk_size A14
            have bA14 : A14.length ≤ 561000 := by
              have : A14.length = A13.length + 1 := by rw [← hA14, List.length_append] <;> rfl
              omega
            have nA14 : ¬ 9223372036854775807 < A13.length + 1 := by omega
            have mA14 : ¬ 9223372036854775807 < 1 + A13.length := by omega
            have HA14 := Lib.hid hA14
            clear hA14
            have HFIN : Hid (A14 = edgesT 0 (L.take (j + 1))) := Lib.hid (by
              rw [HET.out, HED.out, HHD.out, HDP.out, HRU.out, HT.out, HDJ.out, HECE.out, HEDE.out]
              simp only [← HA14.out, ← HA13.out, ← HA12.out, ← HA10.out, ← HA9.out, ← HA8.out, ← HA7.out, ← HA6.out, ← HA5.out, ← HA4.out, ← HA3.out, ← HA2.out, ← HA1.out, barT, HRR0.out, HRR1.out, HRR3.out, HDD.out, HII.out, HOO.out, if_true, if_false, List.append_assoc, List.cons_append, List.nil_append, List.append_nil])
            go_wp2_with fail
            go_roundw
            case rel => exact ⟨j + 1, by omega, by go_num, by rw [HFIN.out], HBE⟩
            case measure => simp [intOf] <;> omega
        · have HII := Lib.hid (show (x.imp = []) = False from eq_false hii)
          have hp0 : (0 : Int) < (x.imp.length : Int) := by have := List.length_pos_iff.2 hii; omega
          clear hii
          have hrow2 := fun n => row_s (strs_drewN HS2.out n) (by have := HSM.out.m; omega) HSM.out.xm
          have hbr2 := HR2.out
          obtain ⟨R2, hR2⟩ : ∃ R, rowT x.imp = R := ⟨_, rfl⟩
          rw [hR2] at hrow2 hbr2
          have HRR2 := Lib.hid hR2
          have hzR2 := mk_size R2
          have bR2 : R2.length ≤ 4010 := by have := HSM.out.m; omega
          clear hR2 hbr2
          obtain ⟨A15, hA15⟩ : ∃ A, ([32, 124] : Bs) ++ R2 = A := ⟨_, rfl⟩
          have eA15 : (⟨#[32, 124]⟩ : ByteArray) ++ mk R2 = mk A15 := (mk_append [32, 124] R2).trans (congrArg mk hA15)
          have zA15 := mk_size A15
          have bA15 : A15.length ≤ 4020 := by
            have : A15.length = 2 + R2.length := by rw [← hA15, List.length_append] <;> rfl
            omega
          have nA15 : ¬ 9223372036854775807 < 2 + R2.length := by omega
          have mA15 : ¬ 9223372036854775807 < R2.length + 2 := by omega
          have HA15 := Lib.hid hA15
          clear hA15
          obtain ⟨A16, hA16⟩ : ∃ A, (A10 : Bs) ++ A15 = A := ⟨_, rfl⟩
          have eA16 : mk A10 ++ mk A15 = mk A16 := (mk_append A10 A15).trans (congrArg mk hA16)
          have zA16 := mk_size A16
          have bA16 : A16.length ≤ 556000 := by
            have : A16.length = A10.length + A15.length := by rw [← hA16, List.length_append] <;> rfl
            omega
          have nA16 : ¬ 9223372036854775807 < A10.length + A15.length := by omega
          have mA16 : ¬ 9223372036854775807 < A15.length + A10.length := by omega
          have HA16 := Lib.hid hA16
          clear hA16
          have hcall := row_c HS2.out (by have := HSM.out.m; omega) HSM.out.xm
          rw [HRR2.out] at hcall
          go_upto_region 11 with fail
          go_wp2_with fail
          refine hcall.mono ?_
          rintro e w8 ⟨rfl, rfl⟩
          clear hcall
          by_cases hoo : x.ord = []
          · have HOO := Lib.hid (show (x.ord = []) = True from eq_true hoo)
            have ho0 : ¬ (0 : Int) < (x.ord.length : Int) := by rw [hoo]; decide
            clear hoo
            obtain ⟨A17, hA17⟩ : ∃ A, (A16 : Bs) ++ [10] = A := ⟨_, rfl⟩
            have eA17 : mk A16 ++ (⟨#[10]⟩ : ByteArray) = mk A17 := (mk_append A16 [10]).trans (congrArg mk hA17)
            have zA17 := mk_size A17
            have bA17 : A17.length ≤ 561000 := by
              have : A17.length = A16.length + 1 := by rw [← hA17, List.length_append] <;> rfl
              omega
            have nA17 : ¬ 9223372036854775807 < A16.length + 1 := by omega
            have mA17 : ¬ 9223372036854775807 < 1 + A16.length := by omega
            have HA17 := Lib.hid hA17
            clear hA17
            have HFIN : Hid (A17 = edgesT 0 (L.take (j + 1))) := Lib.hid (by
              rw [HET.out, HED.out, HHD.out, HDP.out, HRU.out, HT.out, HDJ.out, HECE.out, HEDE.out]
              simp only [← HA17.out, ← HA16.out, ← HA15.out, ← HA10.out, ← HA9.out, ← HA8.out, ← HA7.out, ← HA6.out, ← HA5.out, ← HA4.out, ← HA3.out, ← HA2.out, ← HA1.out, barT, HRR0.out, HRR1.out, HRR2.out, HDD.out, HII.out, HOO.out, if_true, if_false, List.append_assoc, List.cons_append, List.nil_append, List.append_nil])
            go_wp2_with fail
            go_roundw
            case rel => exact ⟨j + 1, by omega, by go_num, by rw [HFIN.out], HBE⟩
            case measure => simp [intOf] <;> omega
          · have HOO := Lib.hid (show (x.ord = []) = False from eq_false hoo)
            have ho0 : (0 : Int) < (x.ord.length : Int) := by have := List.length_pos_iff.2 hoo; omega
            clear hoo
            have hrow3 := fun n => row_s (strs_drewN HS3.out n) (by have := HSM.out.r; omega) HSM.out.xr
            have hbr3 := HR3.out
            obtain ⟨R3, hR3⟩ : ∃ R, rowT x.ord = R := ⟨_, rfl⟩
            rw [hR3] at hrow3 hbr3
            have HRR3 := Lib.hid hR3
            have hzR3 := mk_size R3
            have bR3 : R3.length ≤ 4010 := by have := HSM.out.r; omega
            clear hR3 hbr3
            obtain ⟨A18, hA18⟩ : ∃ A, ([32, 124, 124] : Bs) ++ R3 = A := ⟨_, rfl⟩
            have eA18 : (⟨#[32, 124, 124]⟩ : ByteArray) ++ mk R3 = mk A18 := (mk_append [32, 124, 124] R3).trans (congrArg mk hA18)
            have zA18 := mk_size A18
            have bA18 : A18.length ≤ 4020 := by
              have : A18.length = 3 + R3.length := by rw [← hA18, List.length_append] <;> rfl
              omega
            have nA18 : ¬ 9223372036854775807 < 3 + R3.length := by omega
            have mA18 : ¬ 9223372036854775807 < R3.length + 3 := by omega
            have HA18 := Lib.hid hA18
            clear hA18
            obtain ⟨A19, hA19⟩ : ∃ A, (A16 : Bs) ++ A18 = A := ⟨_, rfl⟩
            have eA19 : mk A16 ++ mk A18 = mk A19 := (mk_append A16 A18).trans (congrArg mk hA19)
            have zA19 := mk_size A19
            have bA19 : A19.length ≤ 560500 := by
              have : A19.length = A16.length + A18.length := by rw [← hA19, List.length_append] <;> rfl
              omega
            have nA19 : ¬ 9223372036854775807 < A16.length + A18.length := by omega
            have mA19 : ¬ 9223372036854775807 < A18.length + A16.length := by omega
            have HA19 := Lib.hid hA19
            clear hA19
            have hcall := row_c HS3.out (by have := HSM.out.r; omega) HSM.out.xr
            rw [HRR3.out] at hcall
            go_upto_region 13 with fail
            go_wp2_with fail
            refine hcall.mono ?_
            rintro e w9 ⟨rfl, rfl⟩
            clear hcall
            obtain ⟨A20, hA20⟩ : ∃ A, (A19 : Bs) ++ [10] = A := ⟨_, rfl⟩
            have eA20 : mk A19 ++ (⟨#[10]⟩ : ByteArray) = mk A20 := (mk_append A19 [10]).trans (congrArg mk hA20)
            have zA20 := mk_size A20
            have bA20 : A20.length ≤ 561000 := by
              have : A20.length = A19.length + 1 := by rw [← hA20, List.length_append] <;> rfl
              omega
            have nA20 : ¬ 9223372036854775807 < A19.length + 1 := by omega
            have mA20 : ¬ 9223372036854775807 < 1 + A19.length := by omega
            have HA20 := Lib.hid hA20
            clear hA20
            have HFIN : Hid (A20 = edgesT 0 (L.take (j + 1))) := Lib.hid (by
              rw [HET.out, HED.out, HHD.out, HDP.out, HRU.out, HT.out, HDJ.out, HECE.out, HEDE.out]
              simp only [← HA20.out, ← HA19.out, ← HA18.out, ← HA16.out, ← HA15.out, ← HA10.out, ← HA9.out, ← HA8.out, ← HA7.out, ← HA6.out, ← HA5.out, ← HA4.out, ← HA3.out, ← HA2.out, ← HA1.out, barT, HRR0.out, HRR1.out, HRR2.out, HRR3.out, HDD.out, HII.out, HOO.out, if_true, if_false, List.append_assoc, List.cons_append, List.nil_append, List.append_nil])
            go_wp2_with fail
            go_roundw
            case rel => exact ⟨j + 1, by omega, by go_num, by rw [HFIN.out], HBE⟩
            case measure => simp [intOf] <;> omega
      · have HDD := Lib.hid (show (x.dep = []) = False from eq_false hdd)
        have hD2 : (mk x.dep).toList.isEmpty = false := by
          rw [hD1]
          cases hh : x.dep with
          | nil => exact absurd hh hdd
          | cons a t => rfl
        clear hdd hD1
        obtain ⟨A21, hA21⟩ : ∃ A, ([32, 32, 100, 101, 112, 102, 105, 108, 101, 32, 61, 32] : Bs) ++ ed = A := ⟨_, rfl⟩
        have eA21 : (⟨#[32, 32, 100, 101, 112, 102, 105, 108, 101, 32, 61, 32]⟩ : ByteArray) ++ mk ed = mk A21 := (mk_append [32, 32, 100, 101, 112, 102, 105, 108, 101, 32, 61, 32] ed).trans (congrArg mk hA21)
        have zA21 := mk_size A21
        have bA21 : A21.length ≤ 420 := by
          have : A21.length = 12 + ed.length := by rw [← hA21, List.length_append] <;> rfl
          omega
        have nA21 : ¬ 9223372036854775807 < 12 + ed.length := by omega
        have mA21 : ¬ 9223372036854775807 < ed.length + 12 := by omega
        have HA21 := Lib.hid hA21
        clear hA21
        obtain ⟨A22, hA22⟩ : ∃ A, (A21 : Bs) ++ [10] = A := ⟨_, rfl⟩
        have eA22 : mk A21 ++ (⟨#[10]⟩ : ByteArray) = mk A22 := (mk_append A21 [10]).trans (congrArg mk hA22)
        have zA22 := mk_size A22
        have bA22 : A22.length ≤ 430 := by
          have : A22.length = A21.length + 1 := by rw [← hA22, List.length_append] <;> rfl
          omega
        have nA22 : ¬ 9223372036854775807 < A21.length + 1 := by omega
        have mA22 : ¬ 9223372036854775807 < 1 + A21.length := by omega
        have HA22 := Lib.hid hA22
        clear hA22
        obtain ⟨A23, hA23⟩ : ∃ A, (A5 : Bs) ++ A22 = A := ⟨_, rfl⟩
        have eA23 : mk A5 ++ mk A22 = mk A23 := (mk_append A5 A22).trans (congrArg mk hA23)
        have zA23 := mk_size A23
        have bA23 : A23.length ≤ 541500 := by
          have : A23.length = A5.length + A22.length := by rw [← hA23, List.length_append] <;> rfl
          omega
        have nA23 : ¬ 9223372036854775807 < A5.length + A22.length := by omega
        have mA23 : ¬ 9223372036854775807 < A22.length + A5.length := by omega
        have HA23 := Lib.hid hA23
        clear hA23
        go_upto_region 8 with fail
        go_wp2_with fail
        refine (refEscape_c x.dep (by omega) _).mono ?_
        rintro e w7 ⟨rfl, rfl⟩
        rw [HEDE.out]
        have hrow0 := fun n => row_s (strs_drewN HS0.out n) (by have := HSM.out.o; omega) HSM.out.xo
        have hbr0 := HR0.out
        obtain ⟨R0, hR0⟩ : ∃ R, rowT x.outs = R := ⟨_, rfl⟩
        rw [hR0] at hrow0 hbr0
        have HRR0 := Lib.hid hR0
        have hzR0 := mk_size R0
        have bR0 : R0.length ≤ 4010 := by have := HSM.out.o; omega
        clear hR0 hbr0
        have hrow1 := fun n => row_s (strs_drewN HS1.out n) (by have := HSM.out.i; omega) HSM.out.xi
        have hbr1 := HR1.out
        obtain ⟨R1, hR1⟩ : ∃ R, rowT x.ins = R := ⟨_, rfl⟩
        rw [hR1] at hrow1 hbr1
        have HRR1 := Lib.hid hR1
        have hzR1 := mk_size R1
        have bR1 : R1.length ≤ 4010 := by have := HSM.out.i; omega
        clear hR1 hbr1
        obtain ⟨A24, hA24⟩ : ∃ A, ([98, 117, 105, 108, 100] : Bs) ++ R0 = A := ⟨_, rfl⟩
        have eA24 : (⟨#[98, 117, 105, 108, 100]⟩ : ByteArray) ++ mk R0 = mk A24 := (mk_append [98, 117, 105, 108, 100] R0).trans (congrArg mk hA24)
        have zA24 := mk_size A24
        have bA24 : A24.length ≤ 4020 := by
          have : A24.length = 5 + R0.length := by rw [← hA24, List.length_append] <;> rfl
          omega
        have nA24 : ¬ 9223372036854775807 < 5 + R0.length := by omega
        have mA24 : ¬ 9223372036854775807 < R0.length + 5 := by omega
        have HA24 := Lib.hid hA24
        clear hA24
        obtain ⟨A25, hA25⟩ : ∃ A, (A24 : Bs) ++ [58, 32, 114] = A := ⟨_, rfl⟩
        have eA25 : mk A24 ++ (⟨#[58, 32, 114]⟩ : ByteArray) = mk A25 := (mk_append A24 [58, 32, 114]).trans (congrArg mk hA25)
        have zA25 := mk_size A25
        have bA25 : A25.length ≤ 4030 := by
          have : A25.length = A24.length + 3 := by rw [← hA25, List.length_append] <;> rfl
          omega
        have nA25 : ¬ 9223372036854775807 < A24.length + 3 := by omega
        have mA25 : ¬ 9223372036854775807 < 3 + A24.length := by omega
        have HA25 := Lib.hid hA25
        clear hA25
        obtain ⟨A26, hA26⟩ : ∃ A, (A25 : Bs) ++ dj = A := ⟨_, rfl⟩
        have eA26 : mk A25 ++ mk dj = mk A26 := (mk_append A25 dj).trans (congrArg mk hA26)
        have zA26 := mk_size A26
        have bA26 : A26.length ≤ 4040 := by
          have : A26.length = A25.length + dj.length := by rw [← hA26, List.length_append] <;> rfl
          omega
        have nA26 : ¬ 9223372036854775807 < A25.length + dj.length := by omega
        have mA26 : ¬ 9223372036854775807 < dj.length + A25.length := by omega
        have HA26 := Lib.hid hA26
        clear hA26
        obtain ⟨A27, hA27⟩ : ∃ A, (A26 : Bs) ++ R1 = A := ⟨_, rfl⟩
        have eA27 : mk A26 ++ mk R1 = mk A27 := (mk_append A26 R1).trans (congrArg mk hA27)
        have zA27 := mk_size A27
        have bA27 : A27.length ≤ 8100 := by
          have : A27.length = A26.length + R1.length := by rw [← hA27, List.length_append] <;> rfl
          omega
        have nA27 : ¬ 9223372036854775807 < A26.length + R1.length := by omega
        have mA27 : ¬ 9223372036854775807 < R1.length + A26.length := by omega
        have HA27 := Lib.hid hA27
        clear hA27
        obtain ⟨A28, hA28⟩ : ∃ A, (A23 : Bs) ++ A27 = A := ⟨_, rfl⟩
        have eA28 : mk A23 ++ mk A27 = mk A28 := (mk_append A23 A27).trans (congrArg mk hA28)
        have zA28 := mk_size A28
        have bA28 : A28.length ≤ 551000 := by
          have : A28.length = A23.length + A27.length := by rw [← hA28, List.length_append] <;> rfl
          omega
        have nA28 : ¬ 9223372036854775807 < A23.length + A27.length := by omega
        have mA28 : ¬ 9223372036854775807 < A27.length + A23.length := by omega
        have HA28 := Lib.hid hA28
        clear hA28
        go_upto_region 9 with fail
        go_quiet (first | (with_reducible exact Calls.quiet_of (hDC _)) | (with_reducible exact Calls.quiet_of (hrow0 _)) | (with_reducible exact Calls.quiet_of (hrow1 _)))
        obtain ⟨w3, hw3⟩ : ∃ W, w1.drewN nq = W := ⟨_, rfl⟩
        have hbd := below_drewN w1.heap.size w1 nq
        rw [hw3] at hbd ⊢
        have HBE := Lib.hid (HBE.out.trans (hbd.mono HBE.out.size))
        have HQE := Lib.hid ((hbd.block _ (lt_some HQE.out)).trans HQE.out)
        have HS0 := Lib.hid (HS0.out.below hbd)
        have HS1 := Lib.hid (HS1.out.below hbd)
        have HS2 := Lib.hid (HS2.out.below hbd)
        have HS3 := Lib.hid (HS3.out.below hbd)
        clear hbd hw3 f0 f1 f2 f3 f4 f5
        obtain ⟨f0, f1, f2, f3, f4, f5⟩ := HCS.out _ HQE.out
        by_cases hii : x.imp = []
        · have HII := Lib.hid (show (x.imp = []) = True from eq_true hii)
          have hp0 : ¬ (0 : Int) < (x.imp.length : Int) := by rw [hii]; decide
          clear hii
          by_cases hoo : x.ord = []
          · have HOO := Lib.hid (show (x.ord = []) = True from eq_true hoo)
            have ho0 : ¬ (0 : Int) < (x.ord.length : Int) := by rw [hoo]; decide
            clear hoo
            obtain ⟨A29, hA29⟩ : ∃ A, (A28 : Bs) ++ [10] = A := ⟨_, rfl⟩
            have eA29 : mk A28 ++ (⟨#[10]⟩ : ByteArray) = mk A29 := (mk_append A28 [10]).trans (congrArg mk hA29)
            have zA29 := mk_size A29
            have bA29 : A29.length ≤ 561000 := by
              have : A29.length = A28.length + 1 := by rw [← hA29, List.length_append] <;> rfl
              omega
            have nA29 : ¬ 9223372036854775807 < A28.length + 1 := by omega
            have mA29 : ¬ 9223372036854775807 < 1 + A28.length := by omega
            have HA29 := Lib.hid hA29
            clear hA29
            have HFIN : Hid (A29 = edgesT 0 (L.take (j + 1))) := Lib.hid (by
              rw [HET.out, HED.out, HHD.out, HDP.out, HRU.out, HT.out, HDJ.out, HECE.out, HEDE.out]
              simp only [← HA29.out, ← HA28.out, ← HA27.out, ← HA26.out, ← HA25.out, ← HA24.out, ← HA23.out, ← HA22.out, ← HA21.out, ← HA5.out, ← HA4.out, ← HA3.out, ← HA2.out, ← HA1.out, barT, HRR0.out, HRR1.out, HDD.out, HII.out, HOO.out, if_true, if_false, List.append_assoc, List.cons_append, List.nil_append, List.append_nil])
            go_wp2_with fail
            go_roundw
            case rel => exact ⟨j + 1, by omega, by go_num, by rw [HFIN.out], HBE⟩
            case measure => simp [intOf] <;> omega
          · have HOO := Lib.hid (show (x.ord = []) = False from eq_false hoo)
            have ho0 : (0 : Int) < (x.ord.length : Int) := by have := List.length_pos_iff.2 hoo; omega
            clear hoo
            have hrow3 := fun n => row_s (strs_drewN HS3.out n) (by have := HSM.out.r; omega) HSM.out.xr
            have hbr3 := HR3.out
            obtain ⟨R3, hR3⟩ : ∃ R, rowT x.ord = R := ⟨_, rfl⟩
            rw [hR3] at hrow3 hbr3
            have HRR3 := Lib.hid hR3
            have hzR3 := mk_size R3
            have bR3 : R3.length ≤ 4010 := by have := HSM.out.r; omega
            clear hR3 hbr3
            obtain ⟨A30, hA30⟩ : ∃ A, ([32, 124, 124] : Bs) ++ R3 = A := ⟨_, rfl⟩
            have eA30 : (⟨#[32, 124, 124]⟩ : ByteArray) ++ mk R3 = mk A30 := (mk_append [32, 124, 124] R3).trans (congrArg mk hA30)
            have zA30 := mk_size A30
            have bA30 : A30.length ≤ 4020 := by
              have : A30.length = 3 + R3.length := by rw [← hA30, List.length_append] <;> rfl
              omega
            have nA30 : ¬ 9223372036854775807 < 3 + R3.length := by omega
            have mA30 : ¬ 9223372036854775807 < R3.length + 3 := by omega
            have HA30 := Lib.hid hA30
            clear hA30
            obtain ⟨A31, hA31⟩ : ∃ A, (A28 : Bs) ++ A30 = A := ⟨_, rfl⟩
            have eA31 : mk A28 ++ mk A30 = mk A31 := (mk_append A28 A30).trans (congrArg mk hA31)
            have zA31 := mk_size A31
            have bA31 : A31.length ≤ 560500 := by
              have : A31.length = A28.length + A30.length := by rw [← hA31, List.length_append] <;> rfl
              omega
            have nA31 : ¬ 9223372036854775807 < A28.length + A30.length := by omega
            have mA31 : ¬ 9223372036854775807 < A30.length + A28.length := by omega
            have HA31 := Lib.hid hA31
            clear hA31
            have hcall := row_c HS3.out (by have := HSM.out.r; omega) HSM.out.xr
            rw [HRR3.out] at hcall
            go_upto_region 13 with fail
            go_wp2_with fail
            refine hcall.mono ?_
            rintro e w9 ⟨rfl, rfl⟩
            clear hcall
            obtain ⟨A32, hA32⟩ : ∃ A, (A31 : Bs) ++ [10] = A := ⟨_, rfl⟩
            have eA32 : mk A31 ++ (⟨#[10]⟩ : ByteArray) = mk A32 := (mk_append A31 [10]).trans (congrArg mk hA32)
            have zA32 := mk_size A32
            have bA32 : A32.length ≤ 561000 := by
              have : A32.length = A31.length + 1 := by rw [← hA32, List.length_append] <;> rfl
              omega
            have nA32 : ¬ 9223372036854775807 < A31.length + 1 := by omega
            have mA32 : ¬ 9223372036854775807 < 1 + A31.length := by omega
            have HA32 := Lib.hid hA32
            clear hA32
            have HFIN : Hid (A32 = edgesT 0 (L.take (j + 1))) := Lib.hid (by
              rw [HET.out, HED.out, HHD.out, HDP.out, HRU.out, HT.out, HDJ.out, HECE.out, HEDE.out]
              simp only [← HA32.out, ← HA31.out, ← HA30.out, ← HA28.out, ← HA27.out, ← HA26.out, ← HA25.out, ← HA24.out, ← HA23.out, ← HA22.out, ← HA21.out, ← HA5.out, ← HA4.out, ← HA3.out, ← HA2.out, ← HA1.out, barT, HRR0.out, HRR1.out, HRR3.out, HDD.out, HII.out, HOO.out, if_true, if_false, List.append_assoc, List.cons_append, List.nil_append, List.append_nil])
            go_wp2_with fail
            go_roundw
            case rel => exact ⟨j + 1, by omega, by go_num, by rw [HFIN.out], HBE⟩
            case measure => simp [intOf] <;> omega
        · have HII := Lib.hid (show (x.imp = []) = False from eq_false hii)
          have hp0 : (0 : Int) < (x.imp.length : Int) := by have := List.length_pos_iff.2 hii; omega
          clear hii
          have hrow2 := fun n => row_s (strs_drewN HS2.out n) (by have := HSM.out.m; omega) HSM.out.xm
          have hbr2 := HR2.out
          obtain ⟨R2, hR2⟩ : ∃ R, rowT x.imp = R := ⟨_, rfl⟩
          rw [hR2] at hrow2 hbr2
          have HRR2 := Lib.hid hR2
          have hzR2 := mk_size R2
          have bR2 : R2.length ≤ 4010 := by have := HSM.out.m; omega
          clear hR2 hbr2
          obtain ⟨A33, hA33⟩ : ∃ A, ([32, 124] : Bs) ++ R2 = A := ⟨_, rfl⟩
          have eA33 : (⟨#[32, 124]⟩ : ByteArray) ++ mk R2 = mk A33 := (mk_append [32, 124] R2).trans (congrArg mk hA33)
          have zA33 := mk_size A33
          have bA33 : A33.length ≤ 4020 := by
            have : A33.length = 2 + R2.length := by rw [← hA33, List.length_append] <;> rfl
            omega
          have nA33 : ¬ 9223372036854775807 < 2 + R2.length := by omega
          have mA33 : ¬ 9223372036854775807 < R2.length + 2 := by omega
          have HA33 := Lib.hid hA33
          clear hA33
          obtain ⟨A34, hA34⟩ : ∃ A, (A28 : Bs) ++ A33 = A := ⟨_, rfl⟩
          have eA34 : mk A28 ++ mk A33 = mk A34 := (mk_append A28 A33).trans (congrArg mk hA34)
          have zA34 := mk_size A34
          have bA34 : A34.length ≤ 556000 := by
            have : A34.length = A28.length + A33.length := by rw [← hA34, List.length_append] <;> rfl
            omega
          have nA34 : ¬ 9223372036854775807 < A28.length + A33.length := by omega
          have mA34 : ¬ 9223372036854775807 < A33.length + A28.length := by omega
          have HA34 := Lib.hid hA34
          clear hA34
          have hcall := row_c HS2.out (by have := HSM.out.m; omega) HSM.out.xm
          rw [HRR2.out] at hcall
          go_upto_region 11 with fail
          go_wp2_with fail
          refine hcall.mono ?_
          rintro e w8 ⟨rfl, rfl⟩
          clear hcall
          by_cases hoo : x.ord = []
          · have HOO := Lib.hid (show (x.ord = []) = True from eq_true hoo)
            have ho0 : ¬ (0 : Int) < (x.ord.length : Int) := by rw [hoo]; decide
            clear hoo
            obtain ⟨A35, hA35⟩ : ∃ A, (A34 : Bs) ++ [10] = A := ⟨_, rfl⟩
            have eA35 : mk A34 ++ (⟨#[10]⟩ : ByteArray) = mk A35 := (mk_append A34 [10]).trans (congrArg mk hA35)
            have zA35 := mk_size A35
            have bA35 : A35.length ≤ 561000 := by
              have : A35.length = A34.length + 1 := by rw [← hA35, List.length_append] <;> rfl
              omega
            have nA35 : ¬ 9223372036854775807 < A34.length + 1 := by omega
            have mA35 : ¬ 9223372036854775807 < 1 + A34.length := by omega
            have HA35 := Lib.hid hA35
            clear hA35
            have HFIN : Hid (A35 = edgesT 0 (L.take (j + 1))) := Lib.hid (by
              rw [HET.out, HED.out, HHD.out, HDP.out, HRU.out, HT.out, HDJ.out, HECE.out, HEDE.out]
              simp only [← HA35.out, ← HA34.out, ← HA33.out, ← HA28.out, ← HA27.out, ← HA26.out, ← HA25.out, ← HA24.out, ← HA23.out, ← HA22.out, ← HA21.out, ← HA5.out, ← HA4.out, ← HA3.out, ← HA2.out, ← HA1.out, barT, HRR0.out, HRR1.out, HRR2.out, HDD.out, HII.out, HOO.out, if_true, if_false, List.append_assoc, List.cons_append, List.nil_append, List.append_nil])
            go_wp2_with fail
            go_roundw
            case rel => exact ⟨j + 1, by omega, by go_num, by rw [HFIN.out], HBE⟩
            case measure => simp [intOf] <;> omega
          · have HOO := Lib.hid (show (x.ord = []) = False from eq_false hoo)
            have ho0 : (0 : Int) < (x.ord.length : Int) := by have := List.length_pos_iff.2 hoo; omega
            clear hoo
            have hrow3 := fun n => row_s (strs_drewN HS3.out n) (by have := HSM.out.r; omega) HSM.out.xr
            have hbr3 := HR3.out
            obtain ⟨R3, hR3⟩ : ∃ R, rowT x.ord = R := ⟨_, rfl⟩
            rw [hR3] at hrow3 hbr3
            have HRR3 := Lib.hid hR3
            have hzR3 := mk_size R3
            have bR3 : R3.length ≤ 4010 := by have := HSM.out.r; omega
            clear hR3 hbr3
            obtain ⟨A36, hA36⟩ : ∃ A, ([32, 124, 124] : Bs) ++ R3 = A := ⟨_, rfl⟩
            have eA36 : (⟨#[32, 124, 124]⟩ : ByteArray) ++ mk R3 = mk A36 := (mk_append [32, 124, 124] R3).trans (congrArg mk hA36)
            have zA36 := mk_size A36
            have bA36 : A36.length ≤ 4020 := by
              have : A36.length = 3 + R3.length := by rw [← hA36, List.length_append] <;> rfl
              omega
            have nA36 : ¬ 9223372036854775807 < 3 + R3.length := by omega
            have mA36 : ¬ 9223372036854775807 < R3.length + 3 := by omega
            have HA36 := Lib.hid hA36
            clear hA36
            obtain ⟨A37, hA37⟩ : ∃ A, (A34 : Bs) ++ A36 = A := ⟨_, rfl⟩
            have eA37 : mk A34 ++ mk A36 = mk A37 := (mk_append A34 A36).trans (congrArg mk hA37)
            have zA37 := mk_size A37
            have bA37 : A37.length ≤ 560500 := by
              have : A37.length = A34.length + A36.length := by rw [← hA37, List.length_append] <;> rfl
              omega
            have nA37 : ¬ 9223372036854775807 < A34.length + A36.length := by omega
            have mA37 : ¬ 9223372036854775807 < A36.length + A34.length := by omega
            have HA37 := Lib.hid hA37
            clear hA37
            have hcall := row_c HS3.out (by have := HSM.out.r; omega) HSM.out.xr
            rw [HRR3.out] at hcall
            go_upto_region 13 with fail
            go_wp2_with fail
            refine hcall.mono ?_
            rintro e w9 ⟨rfl, rfl⟩
            clear hcall
            obtain ⟨A38, hA38⟩ : ∃ A, (A37 : Bs) ++ [10] = A := ⟨_, rfl⟩
            have eA38 : mk A37 ++ (⟨#[10]⟩ : ByteArray) = mk A38 := (mk_append A37 [10]).trans (congrArg mk hA38)
            have zA38 := mk_size A38
            have bA38 : A38.length ≤ 561000 := by
              have : A38.length = A37.length + 1 := by rw [← hA38, List.length_append] <;> rfl
              omega
            have nA38 : ¬ 9223372036854775807 < A37.length + 1 := by omega
            have mA38 : ¬ 9223372036854775807 < 1 + A37.length := by omega
            have HA38 := Lib.hid hA38
            clear hA38
            have HFIN : Hid (A38 = edgesT 0 (L.take (j + 1))) := Lib.hid (by
              rw [HET.out, HED.out, HHD.out, HDP.out, HRU.out, HT.out, HDJ.out, HECE.out, HEDE.out]
              simp only [← HA38.out, ← HA37.out, ← HA36.out, ← HA34.out, ← HA33.out, ← HA28.out, ← HA27.out, ← HA26.out, ← HA25.out, ← HA24.out, ← HA23.out, ← HA22.out, ← HA21.out, ← HA5.out, ← HA4.out, ← HA3.out, ← HA2.out, ← HA1.out, barT, HRR0.out, HRR1.out, HRR2.out, HRR3.out, HDD.out, HII.out, HOO.out, if_true, if_false, List.append_assoc, List.cons_append, List.nil_append, List.append_nil])
            go_wp2_with fail
            go_roundw
            case rel => exact ⟨j + 1, by omega, by go_num, by rw [HFIN.out], HBE⟩
            case measure => simp [intOf] <;> omega
    · obtain rfl : j = L.length := by omega
      rw [List.take_length] at hTl ⊢
      have hPT : printT L D = edgesT 0 L ++ defT D := rfl
      have HPT := Lib.hid hPT
      obtain ⟨T, hT⟩ : ∃ T, edgesT 0 L = T := ⟨_, rfl⟩
      rw [hT] at hTl ⊢
      have HT := Lib.hid hT
      have hzT := mk_size T
      clear hT hPT
      by_cases hdd : D = []
      · have hn0 : ¬ (0 : Int) < (D.length : Int) := by rw [hdd]; decide
        have HF : Hid (T = printT L D) := Lib.hid (by rw [HPT.out, HT.out]; unfold defT; rw [if_pos hdd, List.append_nil])
        clear hdd
        go_wp2_with fail
        go_ret
        exact ⟨by rw [HF.out]; rfl, HA.out.trans (HB.out.mono HA.out.size)⟩
      · have hn0 : (0 : Int) < (D.length : Int) := by have := List.length_pos_iff.2 hdd; omega
        have HDT : Hid (defT D = [100, 101, 102, 97, 117, 108, 116] ++ rowT D ++ [10]) := Lib.hid (by unfold defT; rw [if_neg hdd])
        have hrl := rowT_len HY.out
        have hcall := row_c ((HD.out.below HA.out).below HB.out) (by omega) HY.out
        obtain ⟨R, hR⟩ : ∃ R, rowT D = R := ⟨_, rfl⟩
        rw [hR] at hcall hrl
        have HRR := Lib.hid hR
        have hzR := mk_size R
        have bT : T.length ≤ 540000 := by omega
        have bR : R.length ≤ 8020 := by omega
        clear hdd hR
        obtain ⟨A39, hA39⟩ : ∃ A, ([100, 101, 102, 97, 117, 108, 116] : Bs) ++ R = A := ⟨_, rfl⟩
        have eA39 : (⟨#[100, 101, 102, 97, 117, 108, 116]⟩ : ByteArray) ++ mk R = mk A39 := (mk_append [100, 101, 102, 97, 117, 108, 116] R).trans (congrArg mk hA39)
        have zA39 := mk_size A39
        have bA39 : A39.length ≤ 8030 := by
          have : A39.length = 7 + R.length := by rw [← hA39, List.length_append] <;> rfl
          omega
        have nA39 : ¬ 9223372036854775807 < 7 + R.length := by omega
        have mA39 : ¬ 9223372036854775807 < R.length + 7 := by omega
        have HA39 := Lib.hid hA39
        clear hA39
        obtain ⟨A40, hA40⟩ : ∃ A, (A39 : Bs) ++ [10] = A := ⟨_, rfl⟩
        have eA40 : mk A39 ++ (⟨#[10]⟩ : ByteArray) = mk A40 := (mk_append A39 [10]).trans (congrArg mk hA40)
        have zA40 := mk_size A40
        have bA40 : A40.length ≤ 8040 := by
          have : A40.length = A39.length + 1 := by rw [← hA40, List.length_append] <;> rfl
          omega
        have nA40 : ¬ 9223372036854775807 < A39.length + 1 := by omega
        have mA40 : ¬ 9223372036854775807 < 1 + A39.length := by omega
        have HA40 := Lib.hid hA40
        clear hA40
        obtain ⟨A41, hA41⟩ : ∃ A, (T : Bs) ++ A40 = A := ⟨_, rfl⟩
        have eA41 : mk T ++ mk A40 = mk A41 := (mk_append T A40).trans (congrArg mk hA41)
        have zA41 := mk_size A41
        have bA41 : A41.length ≤ 549000 := by
          have : A41.length = T.length + A40.length := by rw [← hA41, List.length_append] <;> rfl
          omega
        have nA41 : ¬ 9223372036854775807 < T.length + A40.length := by omega
        have mA41 : ¬ 9223372036854775807 < A40.length + T.length := by omega
        have HA41 := Lib.hid hA41
        clear hA41
        have HF : Hid (A41 = printT L D) := Lib.hid (by rw [HPT.out, HDT.out, HT.out, HRR.out]; simp only [← HA41.out, ← HA40.out, ← HA39.out, List.append_assoc])
        go_wp2_with fail
        refine hcall.mono ?_
        rintro e w9 ⟨rfl, rfl⟩
        go_wp2_with fail
        go_ret
        exact ⟨by rw [HF.out]; rfl, HA.out.trans (HB.out.mono HA.out.size)⟩
end Go.Proofs.YtlhhpggjdbbcmaaDoor.Pr
