/-
  ARE TWO RUNS THE SAME? (the program's Same, by slices.Equal)
-/
import Derived.Test.YtdijpoemimebmaaRnSame
namespace Go.Proofs.Ytdijpoemimebmaa.Rn
open Go.RowKit
open Go.Proofs.Ytdijpoemimebmaa.Cr

noncomputable def eqB {α : Type} (a b : α) : Bool := @decide (a = b) (Classical.propDecidable _)
theorem eqB_yes {α : Type} {a b : α} (h : a = b) : eqB a b = true := @decide_eq_true _ (Classical.propDecidable _) h
theorem eqB_no {α : Type} {a b : α} (h : a ≠ b) : eqB a b = false := @decide_eq_false _ (Classical.propDecidable _) h

set_option maxRecDepth 100000 in
set_option maxHeartbeats 4000000 in
theorem eqI_c {w : World} {L M : List In} {vi vj : Value} (hL : L.length ≤ 1000000) (hi : InRow w vi L) (hj : InRow w vj M) :
    Calls Try.prog 55 #[vi, vj] w fun e w' => e = .returned (.bool (eqB L M)) ∧ Below w.heap.size w w' := by
  obtain ⟨ai, ci, rfl, _, hci, hrowI⟩ := hi
  obtain ⟨aj, cj, rfl, _, hcj, hrowJ⟩ := hj
  have RI := Lib.hid hrowI
  have RJ := Lib.hid hrowJ
  have HB := Lib.hid (Below.refl w.heap.size w)
  clear hrowI hrowJ
  by_cases h4 : L.length = M.length
  · have t4 : ((L.length : Int) != (M.length : Int)) = false := by rw [h4]; simp
    have l4 : L.length ≤ M.length := by omega
    have H4 := Lib.hid h4
    clear h4
    go_enter Try.func55, Try.ntmps55
    go_wp2_with fail
    clear t4
    go_loopw [13] (fun i wr => ∃ j : Nat, j ≤ L.length ∧ i = .int .i64 j ∧ Hid (L.take j = M.take j) ∧ Hid (∃ n, wr = w.drewN n)) (fun i _ => L.length - (intOf i).toNat)
    case atStart => exact ⟨0, Nat.zero_le _, rfl, Lib.hid (by simp), Lib.hid ⟨0, rfl⟩⟩
    case round =>
      obtain ⟨j, hj, rfl, hT, hW⟩ := hrel
      obtain ⟨n, rfl⟩ := hW.out
      by_cases hlt : j < L.length
      · have hlq : j < M.length := by omega
        have hx := List.getElem?_eq_getElem hlt
        have hy := List.getElem?_eq_getElem hlq
        rcases RI.out with h | ⟨b, off, rfl, hb, hcell⟩
        · rw [h] at hlt; simp at hlt
        rcases RJ.out with h | ⟨b2, off2, rfl, hb2, hcell2⟩
        · rw [h] at hlq; simp at hlq
        obtain ⟨x0, x1⟩ := hcell j _ hx
        obtain ⟨y0, y1⟩ := hcell2 j _ hy
        generalize L[j] = x at *
        generalize M[j] = y at *
        have HX := Lib.hid hx
        have HY := Lib.hid hy
        have hi0 : (0 : Int) ≤ (j : Int) := by omega
        have hi1 : (j : Int) < (L.length : Int) := by omega
        have hi2 : (j : Int) < (M.length : Int) := by omega
        clear hx hy hcell hcell2
        by_cases e1 : x.name = y.name
        · by_cases e2 : x.time = y.time
          · obtain rfl : x = y := by cases x; cases y; simp_all
            clear e1 e2
            go_wp2_with fail
            go_quiet (fail)
            go_wp2_with fail
            go_roundw
            case rel => exact ⟨j + 1, by omega, by go_num, Lib.hid (take_next hT.out HX.out HY.out), Lib.hid ⟨_, rfl⟩⟩
            case measure => simp [intOf]; omega
          · have u1 : x.name.toList = y.name.toList := by rw [e1]
            have HE := Lib.hid e2
            clear e1
            go_wp2_with fail
            go_quiet (fail)
            go_wp2_with fail
            go_ret
            exact ⟨ret_bool (eqB_no (ne_at HX.out HY.out (fun e => HE.out (by rw [e])))).symm, by (first | exact below_drawn HB.out _ | exact below_drawn (below_drawn HB.out _) _)⟩
        · have u1 : ¬ x.name.toList = y.name.toList := fun e => e1 (Pk.toList_inj e)
          have HE := Lib.hid e1
          clear e1
          go_wp2_with fail
          go_quiet (fail)
          go_wp2_with fail
          go_ret
          exact ⟨ret_bool (eqB_no (ne_at HX.out HY.out (fun e => HE.out (by rw [e])))).symm, by (first | exact below_drawn HB.out _ | exact below_drawn (below_drawn HB.out _) _)⟩
      · obtain rfl : j = L.length := by omega
        have hE : L = M := by
          have := hT.out
          rw [List.take_length, H4.out, List.take_length] at this
          exact this
        have HE := Lib.hid hE
        clear hE hT hlt
        go_wp2_with fail
        go_ret
        exact ⟨ret_bool (eqB_yes HE.out).symm, below_drawn HB.out _⟩
  · have t4 : ((L.length : Int) != (M.length : Int)) = true := by simpa using fun e : (L.length : Int) = M.length => h4 (by omega)
    have H4 := Lib.hid h4
    clear h4
    go_enter Try.func55, Try.ntmps55
    go_wp2_with fail
    go_ret
    exact ⟨ret_bool (eqB_no fun e => H4.out (by rw [e])).symm, HB.out⟩

set_option maxRecDepth 100000 in
set_option maxHeartbeats 4000000 in
theorem eqF_c {w : World} {L M : List Int} {vi vj : Value} (hL : L.length ≤ 1000000) (hi : FdRow w vi L) (hj : FdRow w vj M) :
    Calls Try.prog 56 #[vi, vj] w fun e w' => e = .returned (.bool (eqB L M)) ∧ Below w.heap.size w w' := by
  obtain ⟨ai, ci, rfl, _, hci, hrowI⟩ := hi
  obtain ⟨aj, cj, rfl, _, hcj, hrowJ⟩ := hj
  have RI := Lib.hid hrowI
  have RJ := Lib.hid hrowJ
  have HB := Lib.hid (Below.refl w.heap.size w)
  clear hrowI hrowJ
  by_cases h4 : L.length = M.length
  · have t4 : ((L.length : Int) != (M.length : Int)) = false := by rw [h4]; simp
    have l4 : L.length ≤ M.length := by omega
    have H4 := Lib.hid h4
    clear h4
    go_enter Try.func56, Try.ntmps56
    go_wp2_with fail
    clear t4
    go_loopw [13] (fun i wr => ∃ j : Nat, j ≤ L.length ∧ i = .int .i64 j ∧ Hid (L.take j = M.take j) ∧ Hid (∃ n, wr = w.drewN n)) (fun i _ => L.length - (intOf i).toNat)
    case atStart => exact ⟨0, Nat.zero_le _, rfl, Lib.hid (by simp), Lib.hid ⟨0, rfl⟩⟩
    case round =>
      obtain ⟨j, hj, rfl, hT, hW⟩ := hrel
      obtain ⟨n, rfl⟩ := hW.out
      by_cases hlt : j < L.length
      · have hlq : j < M.length := by omega
        have hx := List.getElem?_eq_getElem hlt
        have hy := List.getElem?_eq_getElem hlq
        rcases RI.out with h | ⟨b, off, rfl, hb, hcell⟩
        · rw [h] at hlt; simp at hlt
        rcases RJ.out with h | ⟨b2, off2, rfl, hb2, hcell2⟩
        · rw [h] at hlq; simp at hlq
        have x0 := hcell j _ hx
        have y0 := hcell2 j _ hy
        generalize L[j] = x at *
        generalize M[j] = y at *
        have HX := Lib.hid hx
        have HY := Lib.hid hy
        have hi0 : (0 : Int) ≤ (j : Int) := by omega
        have hi1 : (j : Int) < (L.length : Int) := by omega
        have hi2 : (j : Int) < (M.length : Int) := by omega
        clear hx hy hcell hcell2
        by_cases e1 : x = y
        · subst e1
          go_wp2_with fail
          go_quiet (fail)
          go_wp2_with fail
          go_roundw
          case rel => exact ⟨j + 1, by omega, by go_num, Lib.hid (take_next hT.out HX.out HY.out), Lib.hid ⟨_, rfl⟩⟩
          case measure => simp [intOf]; omega
        · have e2 : (x != y) = true := by simpa using e1
          have HE2 := Lib.hid e1
          clear e1
          go_wp2_with fail
          go_quiet (fail)
          go_wp2_with fail
          go_ret
          exact ⟨ret_bool (eqB_no (ne_at HX.out HY.out HE2.out)).symm, by (first | exact below_drawn HB.out _ | exact below_drawn (below_drawn HB.out _) _)⟩
      · obtain rfl : j = L.length := by omega
        have hE : L = M := by
          have := hT.out
          rw [List.take_length, H4.out, List.take_length] at this
          exact this
        have HE := Lib.hid hE
        clear hE hT hlt
        go_wp2_with fail
        go_ret
        exact ⟨ret_bool (eqB_yes HE.out).symm, below_drawn HB.out _⟩
  · have t4 : ((L.length : Int) != (M.length : Int)) = true := by simpa using fun e : (L.length : Int) = M.length => h4 (by omega)
    have H4 := Lib.hid h4
    clear h4
    go_enter Try.func56, Try.ntmps56
    go_wp2_with fail
    go_ret
    exact ⟨ret_bool (eqB_no fun e => H4.out (by rw [e])).symm, HB.out⟩

set_option maxRecDepth 100000 in
set_option maxHeartbeats 8000000 in
/-- the program's Same -/
theorem psame_c {w : World} {r q : Run} {vi vf vj vg : Value} (hni : r.ins.length ≤ 1000000) (hnf : r.found.length ≤ 1000000) (hi : InRow w vi r.ins) (hf : FdRow w vf r.found) (hj : InRow w vj q.ins) (hg : FdRow w vg q.found) :
    Calls Try.prog 23 #[.agg (runC r vi vf), .agg (runC q vj vg)] w fun e w' => e = .returned (.bool (sameB r q)) ∧ Below w.heap.size w w' := by
  obtain ⟨W0, hW0⟩ : ∃ W, (w.alloc (.cells (runC r vi vf) 33)).alloc (.cells (runC q vj vg) 33) = W := ⟨_, rfl⟩
  have hB : Below w.heap.size w W0 := by rw [← hW0]; exact ((Below.refl _ _).alloc (Nat.le_refl _) _).alloc (by simp) _
  have z1 : (w.alloc (.cells (runC r vi vf) 33)).heap.size = w.heap.size + 1 := Array.size_push _
  have hp : W0.heap[w.heap.size]? = some (.cells (runC r vi vf) 33 (0, 0)) := by rw [← hW0, Below.heap_alloc _ _ _ (by rw [z1]; omega)]; exact heap_alloc_new _ _
  have hq : W0.heap[w.heap.size + 1]? = some (.cells (runC q vj vg) 33 (0, 0)) := by rw [← hW0, ← z1]; exact heap_alloc_new _ _
  obtain ⟨c0, c1, c2, c3, c4, c5, hI, hF⟩ := box_any hp hi hf hB
  obtain ⟨d0, d1, d2, d3, d4, d5, hJ, hG⟩ := box_any hq hj hg hB
  have hQ := Lib.hid hq
  have hP := Lib.hid hp
  have hZ : w.heap.size + 1 < W0.heap.size := lt_some hq
  have HB := Lib.hid hB
  have cI := eqI_c hni hI hJ
  have HF := Lib.hid hF
  have HG := Lib.hid hG
  have shI : ∃ a n c, vi = .slice a n c := by obtain ⟨a, c, e, _⟩ := hI; exact ⟨a, _, c, e⟩
  have shJ : ∃ a n c, vj = .slice a n c := by obtain ⟨a, c, e, _⟩ := hJ; exact ⟨a, _, c, e⟩
  have shF : ∃ a n c, vf = .slice a n c := by obtain ⟨a, c, e, _⟩ := hF; exact ⟨a, _, c, e⟩
  have shG : ∃ a n c, vg = .slice a n c := by obtain ⟨a, c, e, _⟩ := hG; exact ⟨a, _, c, e⟩
  obtain ⟨a1, n1, k1, rfl⟩ := shI
  obtain ⟨a2, n2, k2, rfl⟩ := shJ
  obtain ⟨a3, n3, k3, rfl⟩ := shF
  obtain ⟨a4, n4, k4, rfl⟩ := shG
  clear hi hf hj hg hp hq hB z1 hI hF hJ hG
  unfold runC at hW0 ⊢
  by_cases h0 : r.out = q.out
  · have t0 : (r.out.toList == q.out.toList) = true := by rw [h0]; simp
    have H0 := Lib.hid h0
    clear h0
    by_cases h1 : r.cmd = q.cmd
    · have t1 : (r.cmd.toList == q.cmd.toList) = true := by rw [h1]; simp
      have H1 := Lib.hid h1
      clear h1
      by_cases h2 : r.time = q.time
      · have t2 : (r.time == q.time) = true := by rw [h2]; simp
        have H2 := Lib.hid h2
        clear h2
        by_cases h3 : r.mark = q.mark
        · have t3 : (r.mark == q.mark) = true := by rw [h3]; simp
          have H3 := Lib.hid h3
          clear h3
          by_cases h4 : r.ins = q.ins
          · have H4 := Lib.hid h4
            have eI : eqB r.ins q.ins = true := eqB_yes h4
            rw [eI] at cI
            clear h4 eI
            go_enter Try.func23, Try.ntmps23
            go_wp2_with fail
            refine cI.mono ?_
            rintro e w1 ⟨rfl, hb1⟩
            have cF := eqF_c hnf (HF.out.below hb1) (HG.out.below hb1)
            have HB1 := Lib.hid (HB.out.trans (hb1.mono HB.out.size))
            clear c0 c1 c2 c3 c4 c5 d0 d1 d2 d3 d4 d5 cI
            obtain ⟨⟨c0, c1, c2, c3, c4, c5⟩, -⟩ := six_cells ((hb1.block _ (by omega)).trans hP.out)
            obtain ⟨⟨d0, d1, d2, d3, d4, d5⟩, -⟩ := six_cells ((hb1.block _ hZ).trans hQ.out)
            clear hb1
            go_wp2_with fail
            refine cF.mono ?_
            rintro e w2 ⟨rfl, hb2⟩
            have HB2 := Lib.hid (HB1.out.trans (hb2.mono HB1.out.size))
            have eS : sameB r q = eqB r.found q.found := by
              by_cases h : r.found = q.found
              · rw [eqB_yes h]; exact sameB_yes (run_eq H0.out H1.out H2.out H3.out H4.out h)
              · rw [eqB_no h]; exact sameB_no fun e => h (by rw [e])
            have ES := Lib.hid eS
            clear eS hb2 cF
            generalize eqB r.found q.found = z at *
            go_wp2_with fail
            go_ret
            exact ⟨ret_bool ES.out.symm, HB2.out⟩
          · have H4 := Lib.hid h4
            have eI : eqB r.ins q.ins = false := eqB_no h4
            rw [eI] at cI
            clear h4 eI
            go_enter Try.func23, Try.ntmps23
            go_wp2_with fail
            refine cI.mono ?_
            rintro e w1 ⟨rfl, hb1⟩
            have HB1 := Lib.hid (HB.out.trans (hb1.mono HB.out.size))
            clear cI hb1
            go_wp2_with fail
            go_ret
            exact ⟨ret_bool (sameB_no fun e => H4.out (by rw [e])).symm, HB1.out⟩
        · have t3 : (r.mark == q.mark) = false := by simpa using h3
          have H3 := Lib.hid h3
          clear h3 cI
          go_enter Try.func23, Try.ntmps23
          go_wp2_with fail
          go_ret
          exact ⟨ret_bool (sameB_no fun e => H3.out (by rw [e])).symm, HB.out⟩
      · have t2 : (r.time == q.time) = false := by simpa using h2
        have H2 := Lib.hid h2
        clear h2 cI
        go_enter Try.func23, Try.ntmps23
        go_wp2_with fail
        go_ret
        exact ⟨ret_bool (sameB_no fun e => H2.out (by rw [e])).symm, HB.out⟩
    · have t1 : (r.cmd.toList == q.cmd.toList) = false := Pk.toList_ne h1
      have H1 := Lib.hid h1
      clear h1 cI
      go_enter Try.func23, Try.ntmps23
      go_wp2_with fail
      go_ret
      exact ⟨ret_bool (sameB_no fun e => H1.out (by rw [e])).symm, HB.out⟩
  · have t0 : (r.out.toList == q.out.toList) = false := Pk.toList_ne h0
    have H0 := Lib.hid h0
    clear h0 cI
    go_enter Try.func23, Try.ntmps23
    go_wp2_with fail
    go_ret
    exact ⟨ret_bool (sameB_no fun e => H0.out (by rw [e])).symm, HB.out⟩
end Go.Proofs.Ytdijpoemimebmaa.Rn
