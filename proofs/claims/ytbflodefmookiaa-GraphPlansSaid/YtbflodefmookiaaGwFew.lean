/-
  ARE A MANIFEST'S PARTS FEW, AND SHORT: few.
-/
import Derived.Test.YtbflodefmookiaaGwOf
namespace Go.Proofs.Ytbflodefmookiaa.Pr
open Go.RowKit Go.Proofs.Ytbflodefmookiaa Go.Proofs.Ytbflodefmookiaa.Df

/-- names behind names of the call's own -/
theorem run_appK {W : World} {base : Nat} {a u : Option Addr} {c k : Nat} {K M : List Bs} (h : W.ownsRow base 9 1 (.slice a K.length c) K.length (strV K)) (hbase : base ≤ W.heap.size) (hm : Strs W (.slice u M.length k) M) (hl : K.length + M.length ≤ 1000000) :
    ∃ a' c' W', (Builtin.append_ #[23, 23] 23 #[.slice a K.length c, .slice u M.length k]).run Try.prog W = .ok (.slice a' (K ++ M).length c') W' ∧ W'.ownsRow base 9 1 (.slice a' (K ++ M).length c') (K ++ M).length (strV (K ++ M)) ∧ W.grownBy W' (Value.slice a K.length c).ownBlock := by
  obtain ⟨i0, hi, hz0, hz1, hz2⟩ := info_parts info9
  obtain ⟨u', k', e, hk, hrow⟩ := hm
  injection e with e1 _ e3
  subst e1
  subst e3
  cases u with
  | none =>
    have h0 : M = [] := by
      rcases hrow with h | ⟨g, off, e, _⟩
      · exact h
      · cases e
    subst h0
    rw [List.append_nil]
    exact ⟨a, c, W, run_append_none_any hi h, h, ⟨rfl, rfl, rfl, Nat.le_refl _, fun _ _ _ => rfl⟩⟩
  | some ad =>
    have hcells : ∀ j x, (strV M)[j]? = some x → W.cell? (ad.add j) = some x := fun j x hj => by
      rcases hrow with h | ⟨g, off, e, hb, hc⟩
      · rw [h] at hj; simp [strV] at hj
      · cases e
        rw [Go.WideShapes.add_plain]
        have hj2 : M[j]?.map (fun x => Value.string (mk x)) = some x := by rw [← hj]; simp [strV]
        obtain ⟨p, hp, rfl⟩ := Option.map_eq_some_iff.1 hj2
        exact hc j p hp
    have hlen : (strV M).length = M.length := by simp [strV]
    obtain ⟨v', W', hr, h2, h3, _, _⟩ := run_append_own_at (P := Try.prog) W base 23 23 9 i0 (.string ⟨#[]⟩) 1 16 Try.underlying23 hi hz0 hz1 hz2 rfl (by decide) _ K.length (strV K) h ad M.length k (strV M) (by rw [hlen]; omega) hcells (fun u hu => by
      obtain ⟨y, _, rfl⟩ := List.mem_map.1 hu
      rfl) (by unfold maxLen; omega) (by omega) hbase
    have e : K.length + M.length = (K ++ M).length := by simp
    rw [← strV_app, e] at h2
    obtain ⟨a', c', rfl⟩ := owns_len h2
    exact ⟨a', c', W', hr, h2, h3⟩

/-- all names so far, in a row of the call's own, beside a box and an edge -/
structure Fw (w W : World) (q0 : Nat) (u0 u1 v : Value) (K : List Bs) : Prop where
  own : W.ownsRow w.heap.size 9 1 v K.length (strV K)
  b0 : W.heap[q0]? = some (.cells #[u0, u1] 25 (0, 0))
  bel : Below w.heap.size w W
section
variable {w W W' : World} {q0 : Nat} {u0 u1 v : Value} {K : List Bs}
theorem Fw.below (h : Fw w W q0 u0 u1 v K) (hb : Below W.heap.size W W') : Fw w W' q0 u0 u1 v K := ⟨owns_below h.own hb, (hb.block _ (lt_some h.b0)).trans h.b0, h.bel.trans (hb.mono h.bel.size)⟩
theorem Fw.app {a u : Option Addr} {c k : Nat} {M : List Bs} (h : Fw w W q0 u0 u1 (.slice a K.length c) K) (hm : Strs w (.slice u M.length k) M) (hl : K.length + M.length ≤ 1000000) :
    ∃ a' c' W', (Builtin.append_ #[23, 23] 23 #[.slice a K.length c, .slice u M.length k]).run Try.prog W = .ok (.slice a' (K ++ M).length c') W' ∧ Fw w W' q0 u0 u1 (.slice a' (K ++ M).length c') (K ++ M) ∧
      (∀ (g : Nat) C t fr, t ≠ 9 → W.heap[g]? = some (.cells C t fr) → W'.heap[g]? = some (.cells C t fr)) := by
  obtain ⟨a', c', W', hr, h2, h3⟩ := run_appK h.own h.bel.size (hm.below h.bel) hl
  have hkeep : ∀ (g : Nat) C t fr, t ≠ 9 → W.heap[g]? = some (.cells C t fr) → W'.heap[g]? = some (.cells C t fr) := fun g C t fr ht hb => by
    rw [h3.block g (lt_some hb) fun e => ?_]
    · exact hb
    · obtain ⟨_, C2, h2⟩ := owns_block h.own e.symm
      rw [hb] at h2
      cases h2
      exact ht rfl
  refine ⟨a', c', W', hr, ⟨h2, hkeep _ _ _ _ (by decide) h.b0, h.bel.trans ⟨h3.os, h3.tape, h3.output, h3.size, fun q hq => h3.block q (by have := h.bel.size; omega) fun e => ?_⟩⟩, hkeep⟩
  have := (owns_block h.own e.symm).1
  omega
end

set_option maxRecDepth 100000 in
set_option maxHeartbeats 32000000 in
theorem few_c {w : World} {u0 u1 : Value} {L : List Ed} {D : List Bs} (hL : Eds w u0 L) (hD : Strs w u1 D) :
    Calls Try.prog 10 #[.agg #[u0, u1]] w fun x w' => x = .returned (.bool (fewM L D)) ∧ Below w.heap.size w w' := by
  have hA0 := below_alloc w (.cells #[u0, u1] 25)
  have hb0 := heap_alloc_new w (.cells #[u0, u1] 25)
  obtain ⟨wB, hwB⟩ : ∃ wB, w.alloc (.cells #[u0, u1] 25) = wB := ⟨_, rfl⟩
  rw [hwB] at hA0 hb0
  obtain ⟨a0, k0, rfl, -, -⟩ := id hL
  obtain ⟨a1, k1, rfl, -, -⟩ := id hD
  have c0 : wB.cell? ⟨w.heap.size, 0, none⟩ = some (.slice a0 L.length k0) := by rw [Lib.cell_of_heap hb0]; rfl
  have c1 : wB.cell? ⟨w.heap.size, 1, none⟩ = some (.slice a1 D.length k1) := by rw [Lib.cell_of_heap hb0]; rfl
  have HL := Lib.hid hL
  have HA0 := Lib.hid hA0
  have HWB := Lib.hid hwB
  have HM : Hid (fewM L D = (decide (L.length ≤ 30) && decide (D.length ≤ 20) && L.all fewE && (allN L D).all shortN)) := Lib.hid rfl
  by_cases h30 : 30 < L.length
  · have d0 : (30 : Int) < (L.length : Int) := by omega
    have d1 : decide ((30 : Int) < (L.length : Int)) = true := decide_eq_true d0
    have HF : Hid (fewM L D = false) := Lib.hid (by rw [HM.out, decide_eq_false (show ¬ L.length ≤ 30 by omega)]; simp)
    clear hA0 hb0 hwB hL hD h30
    go_enter Try.func10, Try.ntmps10
    go_upto_region 1 with fail
    rw [HWB.out]
    go_wp2_with fail
    go_ret
    exact ⟨by rw [HF.out]; rfl, HA0.out⟩
  have d0 : ¬ (30 : Int) < (L.length : Int) := by omega
  have d1 : decide ((30 : Int) < (L.length : Int)) = false := decide_eq_false d0
  by_cases h20 : 20 < D.length
  · have d2 : (20 : Int) < (D.length : Int) := by omega
    have d3 : decide ((20 : Int) < (D.length : Int)) = true := decide_eq_true d2
    have HF : Hid (fewM L D = false) := Lib.hid (by rw [HM.out, decide_eq_false (show ¬ D.length ≤ 20 by omega)]; simp)
    clear hA0 hb0 hwB hL hD h30 h20
    go_enter Try.func10, Try.ntmps10
    go_upto_region 1 with fail
    rw [HWB.out]
    go_wp2_with fail
    go_ret
    exact ⟨by rw [HF.out]; rfl, HA0.out⟩
  have d2 : ¬ (20 : Int) < (D.length : Int) := by omega
  have d3 : decide ((20 : Int) < (D.length : Int)) = false := decide_eq_false d2
  have HM2 : Hid (fewM L D = (L.all fewE && (allN L D).all shortN)) := Lib.hid (by rw [HM.out, decide_eq_true (show L.length ≤ 30 by omega), decide_eq_true (show D.length ≤ 20 by omega)]; simp)
  -- the first row
  have hA1 := below_alloc wB (.cells #[] 9)
  have hO1 : (wB.alloc (.cells #[] 9)).ownsRow w.heap.size 9 1 (.slice (some ⟨wB.heap.size, 0, none⟩) ([] : List Bs).length 0) ([] : List Bs).length (strV []) := ⟨rfl, .inr ⟨wB.heap.size, 0, #[], rfl, hA0.size, heap_alloc_new wB _, Nat.le_refl _, by unfold maxLen; omega, rfl, rfl⟩⟩
  have hF1 : Fw w (wB.alloc (.cells #[] 9)) w.heap.size (.slice a0 L.length k0) (.slice a1 D.length k1) (.slice (some ⟨wB.heap.size, 0, none⟩) ([] : List Bs).length 0) [] := ⟨hO1, (hA1.block _ (lt_some hb0)).trans hb0, hA0.trans (hA1.mono hA0.size)⟩
  obtain ⟨aD, cD, W1, hrunD, hFD, -⟩ := hF1.app hD (by simp; omega)
  rw [List.nil_append] at hrunD hFD
  have hrunD' : (Builtin.append_ #[23, 23] 23 #[.slice (some ⟨wB.heap.size, 0, none⟩) 0 0, .slice a1 D.length k1]).run Try.prog (wB.alloc (.cells #[] 9)) = .ok (.slice aD D.length cD) W1 := hrunD
  have c1' : (wB.alloc (.cells #[] 9)).cell? ⟨w.heap.size, 1, none⟩ = some (.slice a1 D.length k1) := (cell_of_block (hA1.block _ (lt_some hb0))).trans c1
  have HRD := Lib.hid hrunD'
  have HFD := Lib.hid hFD
  clear hA0 hb0 hwB hL hD h30 h20 hA1 hO1 hF1 hrunD hrunD' hFD HM
  go_enter Try.func10, Try.ntmps10
  go_upto_region 1 with fail
  rw [HWB.out]
  go_upto_region 4 with (at_builtin; refine wpList_run rfl (.tmp 17) (.tmp 19) rfl rfl rfl HRD.out ?_)
  clear c0 c1 c1'
  obtain ⟨q0, hq0⟩ : ∃ q0, w.heap.size = q0 := ⟨_, rfl⟩
  rw [hq0] at HFD ⊢
  have HQ0 := Lib.hid hq0
  clear hq0
  go_wp2_with fail
  go_loopw [3, 4, 5] (fun l i _ wr => ∃ (j : Nat) (K : List Bs) (va : Option Addr) (vc : Nat), j ≤ L.length ∧ i = .int .i64 j ∧ l = .slice va K.length vc ∧ Hid (K = allN (L.take j) D) ∧ Hid (K.length ≤ 20 + 40 * j) ∧ Hid ((L.take j).all fewE = true) ∧ Hid (Fw w wr q0 (.slice a0 L.length k0) (.slice a1 D.length k1) (.slice va K.length vc) K)) (fun _ i _ _ => L.length - (intOf i).toNat)
  case atStart => exact ⟨0, D, aD, cD, Nat.zero_le _, rfl, rfl, Lib.hid (by simp [allN]), Lib.hid (by omega), Lib.hid (by simp), HFD⟩
  case round =>
    clear HFD
    obtain ⟨j, K, va, vc, hj, rfl, rfl, HK, HLN, HALLE, HS⟩ := hrel
    have c0 : wr.cell? ⟨q0, 0, none⟩ = some (.slice a0 L.length k0) := by rw [Lib.cell_of_heap HS.out.b0]; rfl
    by_cases hlt : j < L.length
    · have hxj := List.getElem?_eq_getElem hlt
      have hmem := List.getElem_mem hlt
      have hak := allN_take (D := D) hxj
      have htk : (L.take (j + 1)).all fewE = ((L.take j).all fewE && fewE L[j]) := by
        rw [List.take_add_one, hxj, List.all_append]
        generalize L[j] = y
        simp
      generalize L[j] = x at *
      obtain ⟨g, off, c2, v0, v1, v2, v3, e, hg, hE, r0, r1, r2, r3, r4, r5⟩ := (HL.out.below HS.out.bel).at hxj
      cases e
      obtain ⟨g', off', cc, x0, x1, x2, x3, e', hg', hE', e0, e1, e2, e3, -, -⟩ := HL.out.at hxj
      cases e'
      have hbk := HS.out.bel.block g hg'
      obtain rfl : x0 = v0 := Option.some.inj (e0.symm.trans ((cell_of_block hbk).symm.trans r0))
      obtain rfl : x1 = v1 := Option.some.inj (e1.symm.trans ((cell_of_block hbk).symm.trans r1))
      obtain rfl : x2 = v2 := Option.some.inj (e2.symm.trans ((cell_of_block hbk).symm.trans r2))
      obtain rfl : x3 = v3 := Option.some.inj (e3.symm.trans ((cell_of_block hbk).symm.trans r3))
      have HE := Lib.hid hE'
      obtain ⟨y0, z0, y1, z1, y2, z2, y3, z3, rfl, rfl, rfl, rfl⟩ := hE'.sl
      have hi0 : (0 : Int) ≤ (j : Int) := by omega
      have hi1 : (j : Int) < (L.length : Int) := by omega
      have hAE := below_alloc wr (.cells #[.slice y0 x.outs.length z0, .slice y1 x.ins.length z1, .slice y2 x.imp.length z2, .slice y3 x.ord.length z3, .string (mk x.cmd), .string (mk x.dep)] 60)
      have hQE := heap_alloc_new wr (.cells #[.slice y0 x.outs.length z0, .slice y1 x.ins.length z1, .slice y2 x.imp.length z2, .slice y3 x.ord.length z3, .string (mk x.cmd), .string (mk x.dep)] 60)
      obtain ⟨wE, hwE⟩ : ∃ wE, wr.alloc (.cells #[.slice y0 x.outs.length z0, .slice y1 x.ins.length z1, .slice y2 x.imp.length z2, .slice y3 x.ord.length z3, .string (mk x.cmd), .string (mk x.dep)] 60) = wE := ⟨_, rfl⟩
      rw [hwE] at hAE hQE
      have HWE := Lib.hid hwE
      have HQE := Lib.hid hQE
      have HFW := Lib.hid (HS.out.below hAE)
      have hno : fewE x = false → fewM L D = false := fun h => by
        rw [HM2.out, List.all_eq_false.2 ⟨x, hmem, by rw [h]; simp⟩]
        rfl
      have HNO := Lib.hid hno
      have HTK := Lib.hid htk
      have HAK := Lib.hid hak
      have hz4 := mk_size x.cmd
      have hz5 := mk_size x.dep
      have hfe : fewE x = (decide (x.outs.length ≤ 10) && decide (x.ins.length ≤ 10) && decide (x.imp.length ≤ 10) && decide (x.ord.length ≤ 10) && decide (x.cmd.length ≤ 300) && decide (x.dep.length ≤ 200)) := rfl
      obtain ⟨f0, f1, f2, f3, f4, f5⟩ : wE.cell? ⟨wr.heap.size, 0, none⟩ = some (.slice y0 x.outs.length z0) ∧ wE.cell? ⟨wr.heap.size, 1, none⟩ = some (.slice y1 x.ins.length z1) ∧ wE.cell? ⟨wr.heap.size, 2, none⟩ = some (.slice y2 x.imp.length z2) ∧ wE.cell? ⟨wr.heap.size, 3, none⟩ = some (.slice y3 x.ord.length z3) ∧ wE.cell? ⟨wr.heap.size, 4, none⟩ = some (.string (mk x.cmd)) ∧ wE.cell? ⟨wr.heap.size, 5, none⟩ = some (.string (mk x.dep)) := by
        refine ⟨?_, ?_, ?_, ?_, ?_, ?_⟩ <;> (rw [Lib.cell_of_heap hQE]; rfl)
      have HOL : Hid (nm x = x.outs ++ x.ins ++ x.imp ++ x.ord) := Lib.hid rfl
      obtain ⟨n0, hn0⟩ : ∃ n0, x.outs.length = n0 := ⟨_, rfl⟩
      obtain ⟨n1, hn1⟩ : ∃ n1, x.ins.length = n1 := ⟨_, rfl⟩
      obtain ⟨n2, hn2⟩ : ∃ n2, x.imp.length = n2 := ⟨_, rfl⟩
      obtain ⟨n3, hn3⟩ : ∃ n3, x.ord.length = n3 := ⟨_, rfl⟩
      obtain ⟨n4, hn4⟩ : ∃ n4, x.cmd.length = n4 := ⟨_, rfl⟩
      obtain ⟨n5, hn5⟩ : ∃ n5, x.dep.length = n5 := ⟨_, rfl⟩
      rw [hn0, hn1, hn2, hn3, hn4, hn5] at hfe
      rw [hn0] at f0 r0
      rw [hn1] at f1 r1
      rw [hn2] at f2 r2
      rw [hn3] at f3 r3
      rw [hn4] at hz4
      rw [hn5] at hz5
      have HFE := Lib.hid hfe
      have HN0 := Lib.hid hn0
      have HN1 := Lib.hid hn1
      have HN2 := Lib.hid hn2
      have HN3 := Lib.hid hn3
      rw [hn0, hn1, hn2, hn3] at HWE
      clear hfe hAE hwE hQE hE hE' hxj hmem hg hg' hak htk hno hbk e0 e1 e2 e3 hn0 hn1 hn2 hn3 hn4 hn5
      go_upto_region 8 with fail
      rw [HWE.out]
      clear r0 r1 r2 r3 r4 r5 c0
      by_cases g0 : 10 < n0
      · have HF : Hid (fewE x = false) := Lib.hid (by rw [HFE.out]; simp; omega)
        have HFM : Hid (fewM L D = false) := Lib.hid (HNO.out HF.out)
        have pp0 : (10 : Int) < (n0 : Int) := by omega
        have qq0 : decide ((10 : Int) < (n0 : Int)) = true := decide_eq_true pp0
        clear g0
        go_wp2_with fail
        go_ret
        exact ⟨by rw [HFM.out]; rfl, HFW.out.bel⟩
      have pp0 : ¬ (10 : Int) < (n0 : Int) := by omega
      have qq0 : decide ((10 : Int) < (n0 : Int)) = false := decide_eq_false pp0
      by_cases g1 : 10 < n1
      · have HF : Hid (fewE x = false) := Lib.hid (by rw [HFE.out]; simp; omega)
        have HFM : Hid (fewM L D = false) := Lib.hid (HNO.out HF.out)
        have pp1 : (10 : Int) < (n1 : Int) := by omega
        have qq1 : decide ((10 : Int) < (n1 : Int)) = true := decide_eq_true pp1
        clear g1
        go_wp2_with fail
        go_ret
        exact ⟨by rw [HFM.out]; rfl, HFW.out.bel⟩
      have pp1 : ¬ (10 : Int) < (n1 : Int) := by omega
      have qq1 : decide ((10 : Int) < (n1 : Int)) = false := decide_eq_false pp1
      by_cases g2 : 10 < n2
      · have HF : Hid (fewE x = false) := Lib.hid (by rw [HFE.out]; simp; omega)
        have HFM : Hid (fewM L D = false) := Lib.hid (HNO.out HF.out)
        have pp2 : (10 : Int) < (n2 : Int) := by omega
        have qq2 : decide ((10 : Int) < (n2 : Int)) = true := decide_eq_true pp2
        clear g2
        go_wp2_with fail
        go_ret
        exact ⟨by rw [HFM.out]; rfl, HFW.out.bel⟩
      have pp2 : ¬ (10 : Int) < (n2 : Int) := by omega
      have qq2 : decide ((10 : Int) < (n2 : Int)) = false := decide_eq_false pp2
      by_cases g3 : 10 < n3
      · have HF : Hid (fewE x = false) := Lib.hid (by rw [HFE.out]; simp; omega)
        have HFM : Hid (fewM L D = false) := Lib.hid (HNO.out HF.out)
        have pp3 : (10 : Int) < (n3 : Int) := by omega
        have qq3 : decide ((10 : Int) < (n3 : Int)) = true := decide_eq_true pp3
        clear g3
        go_wp2_with fail
        go_ret
        exact ⟨by rw [HFM.out]; rfl, HFW.out.bel⟩
      have pp3 : ¬ (10 : Int) < (n3 : Int) := by omega
      have qq3 : decide ((10 : Int) < (n3 : Int)) = false := decide_eq_false pp3
      by_cases g4 : 300 < n4
      · have HF : Hid (fewE x = false) := Lib.hid (by rw [HFE.out]; simp; omega)
        have HFM : Hid (fewM L D = false) := Lib.hid (HNO.out HF.out)
        have pp4 : (300 : Int) < (n4 : Int) := by omega
        have qq4 : decide ((300 : Int) < (n4 : Int)) = true := decide_eq_true pp4
        clear g4
        go_wp2_with fail
        go_ret
        exact ⟨by rw [HFM.out]; rfl, HFW.out.bel⟩
      have pp4 : ¬ (300 : Int) < (n4 : Int) := by omega
      have qq4 : decide ((300 : Int) < (n4 : Int)) = false := decide_eq_false pp4
      by_cases g5 : 200 < n5
      · have HF : Hid (fewE x = false) := Lib.hid (by rw [HFE.out]; simp; omega)
        have HFM : Hid (fewM L D = false) := Lib.hid (HNO.out HF.out)
        have pp5 : (200 : Int) < (n5 : Int) := by omega
        have qq5 : decide ((200 : Int) < (n5 : Int)) = true := decide_eq_true pp5
        clear g5
        go_wp2_with fail
        go_ret
        exact ⟨by rw [HFM.out]; rfl, HFW.out.bel⟩
      have pp5 : ¬ (200 : Int) < (n5 : Int) := by omega
      have qq5 : decide ((200 : Int) < (n5 : Int)) = false := decide_eq_false pp5
      have HFT : Hid (fewE x = true) := Lib.hid (by rw [HFE.out]; simp; omega)
      go_upto_region 10 with fail
      clear f0 f1 f2 f3 f4 f5
      obtain ⟨wD, hwD⟩ : ∃ wD, wE.drew = wD := ⟨_, rfl⟩
      have hQD : wD.heap[wr.heap.size]? = some (.cells #[.slice y0 x.outs.length z0, .slice y1 x.ins.length z1, .slice y2 x.imp.length z2, .slice y3 x.ord.length z3, .string (mk x.cmd), .string (mk x.dep)] 60 (0, 0)) := by rw [← hwD]; exact HQE.out
      have hFD := HFW.out.below (below_drew wE.heap.size wE)
      rw [hwD] at hFD
      have HWD := Lib.hid hwD
      clear hwD
      have hkl := HLN.out
      have m0 := HN0.out
      have m1 := HN1.out
      have m2 := HN2.out
      have m3 := HN3.out
      obtain ⟨b1, d1', W2, hr1, hF1, hk1⟩ := hFD.app HE.out.o (by omega)
      obtain ⟨K1, hK1⟩ : ∃ K1, K ++ x.outs = K1 := ⟨_, rfl⟩
      have hl1 : K1.length = K.length + n0 := by rw [← hK1, List.length_append, m0]
      rw [hK1] at hr1 hF1
      obtain ⟨b2, d2', W3, hr2, hF2, hk2⟩ := hF1.app HE.out.i (by omega)
      obtain ⟨K2, hK2⟩ : ∃ K2, K1 ++ x.ins = K2 := ⟨_, rfl⟩
      have hl2 : K2.length = K1.length + n1 := by rw [← hK2, List.length_append, m1]
      rw [hK2] at hr2 hF2
      obtain ⟨b3, d3', W4, hr3, hF3, hk3⟩ := hF2.app HE.out.m (by omega)
      obtain ⟨K3, hK3⟩ : ∃ K3, K2 ++ x.imp = K3 := ⟨_, rfl⟩
      have hl3 : K3.length = K2.length + n2 := by rw [← hK3, List.length_append, m2]
      rw [hK3] at hr3 hF3
      obtain ⟨a4, c4, W5, hr4, hF4, hk4⟩ := hF3.app HE.out.r (by omega)
      obtain ⟨K4, hK4⟩ : ∃ K4, K3 ++ x.ord = K4 := ⟨_, rfl⟩
      have hl4 : K4.length = K3.length + n3 := by rw [← hK4, List.length_append, m3]
      rw [hK4] at hr4 hF4
      have HK4 : Hid (K4 = allN (L.take (j + 1)) D) := Lib.hid (by rw [HAK.out, HOL.out, ← HK.out, ← hK4, ← hK3, ← hK2, ← hK1]; simp only [List.append_assoc])
      have HLEN : Hid (K4.length ≤ 20 + 40 * (j + 1)) := Lib.hid (by omega)
      have HALL : Hid ((L.take (j + 1)).all fewE = true) := Lib.hid (by rw [HTK.out, HALLE.out, HFT.out]; rfl)
      have HFN := Lib.hid hF4
      rw [m0] at hr1
      rw [m1] at hr2
      rw [m2] at hr3
      rw [m3] at hr4
      have HR1 := Lib.hid hr1
      have HR2 := Lib.hid hr2
      have HR3 := Lib.hid hr3
      have HR4 := Lib.hid hr4
      have hQ2 := hk1 _ _ _ _ (by decide) hQD
      have hQ3 := hk2 _ _ _ _ (by decide) hQ2
      have hQ4 := hk3 _ _ _ _ (by decide) hQ3
      have hQ5 := hk4 _ _ _ _ (by decide) hQ4
      have hcs : ∀ W : World, W.heap[wr.heap.size]? = some (.cells #[.slice y0 x.outs.length z0, .slice y1 x.ins.length z1, .slice y2 x.imp.length z2, .slice y3 x.ord.length z3, .string (mk x.cmd), .string (mk x.dep)] 60 (0, 0)) → (fun w' => w'.cell? ⟨wr.heap.size, 0, none⟩ = some (.slice y0 n0 z0) ∧ w'.cell? ⟨wr.heap.size, 1, none⟩ = some (.slice y1 n1 z1) ∧ w'.cell? ⟨wr.heap.size, 2, none⟩ = some (.slice y2 n2 z2) ∧ w'.cell? ⟨wr.heap.size, 3, none⟩ = some (.slice y3 n3 z3)) W := fun W h => by
        refine ⟨?_, ?_, ?_, ?_⟩
        · rw [Lib.cell_of_heap h, ← m0]; rfl
        · rw [Lib.cell_of_heap h, ← m1]; rfl
        · rw [Lib.cell_of_heap h, ← m2]; rfl
        · rw [Lib.cell_of_heap h, ← m3]; rfl
      have S0 := hcs wD hQD
      have S1 := hcs W2 hQ2
      have S2 := hcs W3 hQ3
      have S3 := hcs W4 hQ4
      have S4 := hcs W5 hQ5
      clear hcs hQ2 hQ3 hQ4 hQ5 hQD hk1 hk2 hk3 hk4 hF1 hF2 hF3 hF4 hr1 hr2 hr3 hr4 hFD hK1 hK2 hK3 hK4 hl1 hl2 hl3 hl4 hkl m0 m1 m2 m3
      refine Nt.wp_region_N 13 (fun w' => w'.cell? ⟨wr.heap.size, 0, none⟩ = some (.slice y0 n0 z0) ∧ w'.cell? ⟨wr.heap.size, 1, none⟩ = some (.slice y1 n1 z1) ∧ w'.cell? ⟨wr.heap.size, 2, none⟩ = some (.slice y2 n2 z2) ∧ w'.cell? ⟨wr.heap.size, 3, none⟩ = some (.slice y3 n3 z3)) (by kernel_rfl) ?_
      rw [HWD.out]
      refine Nt.takeT (i := 0) (oi := { dst := some 67, op := Op.move (Operand.tmp 3), type := 23, pos := _, after := #[], guard := Option.none }) (v := ?_) rfl (by kernel_rfl) (by kernel_rfl) (by kernel_rfl) (by kernel_rfl) (fun _ _ _ h => h) (Or.inl ⟨by rfl, ?_⟩) (fun _ => S0) ?_
      rotate_left 1
      · intro w hSw
        try dsimp only at hSw
        go_simp
        first | done | with_reducible rfl
      try simp only [Act.put, List.setIfInBounds_toArray, List.set_cons_zero, List.set_cons_succ]
      refine Nt.takeT (i := 1) (oi := { dst := some 68, op := Op.fieldAddr 60 (Operand.tmp 5) 0, type := 0, pos := _, after := #[], guard := Option.none }) (v := ?_) rfl (by kernel_rfl) (by kernel_rfl) (by kernel_rfl) (by kernel_rfl) (fun _ _ _ h => h) (Or.inl ⟨by rfl, ?_⟩) (fun _ => S0) ?_
      rotate_left 1
      · intro w hSw
        try dsimp only at hSw
        go_simp
        first | done | with_reducible rfl
      try simp only [Act.put, List.setIfInBounds_toArray, List.set_cons_zero, List.set_cons_succ]
      refine Nt.takeS (i := 2) (oi := { dst := some 69, op := Op.load 23 (Operand.tmp 68), type := 23, pos := _, after := #[{ on := 1, ground := Ground.data }], guard := Option.none }) (v := ?_) rfl (by kernel_rfl) (by kernel_rfl) (by kernel_rfl) (by kernel_rfl) (by kernel_rfl) (by kernel_rfl) (fun _ _ _ h => h) (Or.inl ⟨by rfl, ?_⟩) S0 ?_
      rotate_left 1
      · intro w hSw
        try dsimp only at hSw
        go_simp
        first | done | with_reducible rfl
      try simp only [Act.put, List.setIfInBounds_toArray, List.set_cons_zero, List.set_cons_succ]
      refine Nt.takeT (i := 4) (oi := { dst := some 71, op := Op.fieldAddr 60 (Operand.tmp 5) 1, type := 0, pos := _, after := #[], guard := Option.none }) (v := ?_) rfl (by kernel_rfl) (by kernel_rfl) (by kernel_rfl) (by kernel_rfl) (fun _ _ _ h => h) (Or.inl ⟨by rfl, ?_⟩) (fun _ => S0) ?_
      rotate_left 1
      · intro w hSw
        try dsimp only at hSw
        go_simp
        first | done | with_reducible rfl
      try simp only [Act.put, List.setIfInBounds_toArray, List.set_cons_zero, List.set_cons_succ]
      refine Nt.takeS (i := 5) (oi := { dst := some 72, op := Op.load 23 (Operand.tmp 71), type := 23, pos := _, after := #[{ on := 4, ground := Ground.data }], guard := Option.none }) (v := ?_) rfl (by kernel_rfl) (by kernel_rfl) (by kernel_rfl) (by kernel_rfl) (by kernel_rfl) (by kernel_rfl) (fun _ _ _ h => h) (Or.inl ⟨by rfl, ?_⟩) S0 ?_
      rotate_left 1
      · intro w hSw
        try dsimp only at hSw
        go_simp
        first | done | with_reducible rfl
      try simp only [Act.put, List.setIfInBounds_toArray, List.set_cons_zero, List.set_cons_succ]
      refine Nt.takeT (i := 7) (oi := { dst := some 74, op := Op.fieldAddr 60 (Operand.tmp 5) 2, type := 0, pos := _, after := #[], guard := Option.none }) (v := ?_) rfl (by kernel_rfl) (by kernel_rfl) (by kernel_rfl) (by kernel_rfl) (fun _ _ _ h => h) (Or.inl ⟨by rfl, ?_⟩) (fun _ => S0) ?_
      rotate_left 1
      · intro w hSw
        try dsimp only at hSw
        go_simp
        first | done | with_reducible rfl
      try simp only [Act.put, List.setIfInBounds_toArray, List.set_cons_zero, List.set_cons_succ]
      refine Nt.takeS (i := 8) (oi := { dst := some 75, op := Op.load 23 (Operand.tmp 74), type := 23, pos := _, after := #[{ on := 7, ground := Ground.data }], guard := Option.none }) (v := ?_) rfl (by kernel_rfl) (by kernel_rfl) (by kernel_rfl) (by kernel_rfl) (by kernel_rfl) (by kernel_rfl) (fun _ _ _ h => h) (Or.inl ⟨by rfl, ?_⟩) S0 ?_
      rotate_left 1
      · intro w hSw
        try dsimp only at hSw
        go_simp
        first | done | with_reducible rfl
      try simp only [Act.put, List.setIfInBounds_toArray, List.set_cons_zero, List.set_cons_succ]
      refine Nt.takeT (i := 10) (oi := { dst := some 77, op := Op.fieldAddr 60 (Operand.tmp 5) 3, type := 0, pos := _, after := #[], guard := Option.none }) (v := ?_) rfl (by kernel_rfl) (by kernel_rfl) (by kernel_rfl) (by kernel_rfl) (fun _ _ _ h => h) (Or.inl ⟨by rfl, ?_⟩) (fun _ => S0) ?_
      rotate_left 1
      · intro w hSw
        try dsimp only at hSw
        go_simp
        first | done | with_reducible rfl
      try simp only [Act.put, List.setIfInBounds_toArray, List.set_cons_zero, List.set_cons_succ]
      refine Nt.takeS (i := 11) (oi := { dst := some 78, op := Op.load 23 (Operand.tmp 77), type := 23, pos := _, after := #[{ on := 10, ground := Ground.data }], guard := Option.none }) (v := ?_) rfl (by kernel_rfl) (by kernel_rfl) (by kernel_rfl) (by kernel_rfl) (by kernel_rfl) (by kernel_rfl) (fun _ _ _ h => h) (Or.inl ⟨by rfl, ?_⟩) S0 ?_
      rotate_left 1
      · intro w hSw
        try dsimp only at hSw
        go_simp
        first | done | with_reducible rfl
      try simp only [Act.put, List.setIfInBounds_toArray, List.set_cons_zero, List.set_cons_succ]
      refine Nt.nextN (i := 3) (by kernel_rfl) rfl (fun K hK => ?_)
      refine step_run2 rfl (.tmp 67) (.tmp 69) rfl (by simp [Act.eval]) (by simp [Act.eval]) HR1.out ?_
      refine hK.out _ _ (fun _ => S1) ?_
      clear hK K
      try simp only [Act.put, List.setIfInBounds_toArray, List.set_cons_zero, List.set_cons_succ]
      refine Nt.nextN (i := 6) (by kernel_rfl) rfl (fun K hK => ?_)
      refine step_run2 rfl (.tmp 70) (.tmp 72) rfl (by simp [Act.eval]) (by simp [Act.eval]) HR2.out ?_
      refine hK.out _ _ (fun _ => S2) ?_
      clear hK K
      try simp only [Act.put, List.setIfInBounds_toArray, List.set_cons_zero, List.set_cons_succ]
      refine Nt.nextN (i := 9) (by kernel_rfl) rfl (fun K hK => ?_)
      refine step_run2 rfl (.tmp 73) (.tmp 75) rfl (by simp [Act.eval]) (by simp [Act.eval]) HR3.out ?_
      refine hK.out _ _ (fun _ => S3) ?_
      clear hK K
      try simp only [Act.put, List.setIfInBounds_toArray, List.set_cons_zero, List.set_cons_succ]
      refine Nt.nextN (i := 12) (by kernel_rfl) rfl (fun K hK => ?_)
      refine step_run2 rfl (.tmp 76) (.tmp 78) rfl (by simp [Act.eval]) (by simp [Act.eval]) HR4.out ?_
      refine hK.out _ _ (fun _ => S4) ?_
      clear hK K
      try simp only [Act.put, List.setIfInBounds_toArray, List.set_cons_zero, List.set_cons_succ]
      refine Nt.nextN (i := 13) (by kernel_rfl) rfl (fun K hK => ?_)
      go_simp
      refine hK.out _ _ (fun h => by simp at h) ?_
      clear hK K
      try simp only [Act.put, List.setIfInBounds_toArray, List.set_cons_zero, List.set_cons_succ]
      refine Nt.doneN (by kernel_rfl) ?_ _
      clear S0 S1 S2 S3 S4
      go_wp2_with fail
      go_roundw
      case rel => exact ⟨j + 1, K4, a4, c4, by omega, by go_num, rfl, HK4, HLEN, HALL, HFN⟩
      case measure => simp [intOf] <;> omega
    · obtain rfl : j = L.length := by omega
      rw [List.take_length] at HK HALLE
      have HR := Lib.hid (show fewM L D = K.all shortN by rw [HM2.out, HALLE.out, HK.out]; rfl)
      have hKl := HLN.out
      go_wp2_with fail
      clear c0
      go_loopw [6] (fun i W' => ∃ m : Nat, m ≤ K.length ∧ i = .int .i64 m ∧ Hid ((K.take m).all shortN = true) ∧ wr = W') (fun i _ => K.length - (intOf i).toNat)
      case atStart => exact ⟨0, Nat.zero_le _, rfl, Lib.hid (by simp), rfl⟩
      case round =>
        obtain ⟨m, hm, rfl, HM, rfl⟩ := hrel
        by_cases hlm : m < K.length
        · have hxm := List.getElem?_eq_getElem hlm
          have hmem := List.getElem_mem hlm
          have htk : (K.take (m + 1)).all shortN = ((K.take m).all shortN && shortN K[m]) := by
            rw [List.take_add_one, hxm, List.all_append]
            generalize K[m] = y
            simp
          obtain ⟨g, off, cc, hv, hcell⟩ : ∃ g off cc, (.slice va K.length vc : Value) = .slice (some ⟨g, off, none⟩) K.length cc ∧ wr.cell? ⟨g, off + m, none⟩ = some (.string (mk K[m])) := by
            obtain ⟨a, c, e, -, hrow⟩ := owns_strs HS.out.own
            rcases hrow with h0 | ⟨g, off, rfl, hg, hc⟩
            · rw [h0] at hlm; simp at hlm
            · exact ⟨g, off, c, e, hc m _ hxm⟩
          cases hv
          generalize K[m] = s at *
          have hz := mk_size s
          have HTM := Lib.hid htk
          have hsn : shortN s = decide (s.length ≤ 200) := rfl
          have HSN := Lib.hid hsn
          have hm0 : (0 : Int) ≤ (m : Int) := by omega
          have hm1 : (m : Int) < (K.length : Int) := by omega
          by_cases h2 : 200 < s.length
          · have p1 : (200 : Int) < ((mk s).size : Int) := by rw [hz]; omega
            have p2 : (200 : Int) < (s.length : Int) := by omega
            have HFR : Hid (fewM L D = false) := Lib.hid (by rw [HR.out, List.all_eq_false]; exact ⟨s, hmem, by rw [hsn, decide_eq_false (show ¬ s.length ≤ 200 by omega)]; simp⟩)
            clear hxm hmem htk hsn
            go_wp2_with fail
            go_ret
            exact ⟨by rw [HFR.out]; rfl, HS.out.bel⟩
          · have p1 : ¬ (200 : Int) < ((mk s).size : Int) := by rw [hz]; omega
            have p2 : ¬ (200 : Int) < (s.length : Int) := by omega
            have HFT : Hid (shortN s = true) := Lib.hid (by rw [hsn, decide_eq_true (show s.length ≤ 200 by omega)])
            clear hxm hmem htk hsn
            go_wp2_with fail
            go_roundw
            case rel => exact ⟨m + 1, by omega, by go_num, Lib.hid (by rw [HTM.out, HM.out, HFT.out]; rfl), trivial⟩
            case measure => simp [intOf] <;> omega
        · obtain rfl : m = K.length := by omega
          rw [List.take_length] at HM
          go_wp2_with fail
          go_ret
          exact ⟨by rw [HR.out, HM.out]; rfl, HS.out.bel⟩
end Go.Proofs.Ytbflodefmookiaa.Pr
