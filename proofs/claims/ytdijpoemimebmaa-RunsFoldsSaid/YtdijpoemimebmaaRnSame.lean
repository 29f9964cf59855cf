/-
  ARE TWO RUNS THE SAME? (the document's Same)
-/
import Derived.Test.YtdijpoemimebmaaRnOfA
namespace Go.Proofs.Ytdijpoemimebmaa.Rn
open Go.RowKit
open Go.Proofs.Ytdijpoemimebmaa.Cr

noncomputable def sameB (r q : Run) : Bool := @decide (r = q) (Classical.propDecidable _)

theorem sameB_yes {r q : Run} (h : r = q) : sameB r q = true := @decide_eq_true _ (Classical.propDecidable _) h
theorem sameB_no {r q : Run} (h : r ≠ q) : sameB r q = false := @decide_eq_false _ (Classical.propDecidable _) h
theorem sameB_iff {r q : Run} : sameB r q = true ↔ r = q := ⟨@of_decide_eq_true _ (Classical.propDecidable _), sameB_yes⟩

theorem take_next {α : Type} {L K : List α} {j : Nat} {x : α} (h : L.take j = K.take j) (hx : L[j]? = some x) (hy : K[j]? = some x) : L.take (j + 1) = K.take (j + 1) := by
  rw [List.take_add_one, List.take_add_one, h, hx, hy]

theorem ne_at {α : Type} {L K : List α} {j : Nat} {x y : α} (hx : L[j]? = some x) (hy : K[j]? = some y) (hne : x ≠ y) : L ≠ K := fun e => by
  rw [e, hy] at hx
  exact hne (Option.some.inj hx).symm

theorem run_eq {r q : Run} (h0 : r.out = q.out) (h1 : r.cmd = q.cmd) (h2 : r.time = q.time) (h3 : r.mark = q.mark) (h4 : r.ins = q.ins) (h5 : r.found = q.found) : r = q := by
  cases r; cases q; simp_all

theorem below_drawn {w W : World} {B : Nat} (h : Below B w W) (n : Nat) : Below B w (W.drewN n) := ⟨h.os, h.tape, h.output, h.size, h.block⟩

set_option maxRecDepth 100000 in
set_option maxHeartbeats 8000000 in
theorem same_c {w : World} {r q : Run} {vi vf vj vg : Value} (hni : r.ins.length ≤ 1000000) (hnf : r.found.length ≤ 1000000) (hi : InRow w vi r.ins) (hf : FdRow w vf r.found) (hj : InRow w vj q.ins) (hg : FdRow w vg q.found) :
    Calls Try.prog 17 #[.agg (runC r vi vf), .agg (runC q vj vg)] w fun e w' => e = .returned (.bool (sameB r q)) ∧ Below w.heap.size w w' := by
  obtain ⟨W0, hW0⟩ : ∃ W, (w.alloc (.cells (runC r vi vf) 25)).alloc (.cells (runC q vj vg) 25) = W := ⟨_, rfl⟩
  have hB : Below w.heap.size w W0 := by rw [← hW0]; exact ((Below.refl _ _).alloc (Nat.le_refl _) _).alloc (by simp) _
  have z1 : (w.alloc (.cells (runC r vi vf) 25)).heap.size = w.heap.size + 1 := Array.size_push _
  have hp : W0.heap[w.heap.size]? = some (.cells (runC r vi vf) 25 (0, 0)) := by rw [← hW0, Below.heap_alloc _ _ _ (by rw [z1]; omega)]; exact heap_alloc_new _ _
  have hq : W0.heap[w.heap.size + 1]? = some (.cells (runC q vj vg) 25 (0, 0)) := by rw [← hW0, ← z1]; exact heap_alloc_new _ _
  obtain ⟨c0, c1, c2, c3, c4, c5, hI, hF⟩ := box_any hp hi hf hB
  obtain ⟨d0, d1, d2, d3, d4, d5, hJ, hG⟩ := box_any hq hj hg hB
  have HB := Lib.hid hB
  obtain ⟨ai, ci, rfl, _, hci, hrowI⟩ := hI
  obtain ⟨af, cf, rfl, _, hcf, hrowF⟩ := hF
  obtain ⟨aj, cj, rfl, _, hcj, hrowJ⟩ := hJ
  obtain ⟨ag, cg, rfl, _, hcg, hrowG⟩ := hG
  have RI := Lib.hid hrowI
  have RF := Lib.hid hrowF
  have RJ := Lib.hid hrowJ
  have RG := Lib.hid hrowG
  clear hrowI hrowF hrowJ hrowG hi hf hj hg hp hq hB z1
  unfold runC at hW0 ⊢
  by_cases h0 : r.out = q.out
  · have t0 : (r.out.toList == q.out.toList) = true := by rw [h0]; simp
    have H0 := Lib.hid h0
    clear h0
    by_cases h1 : r.cmd = q.cmd
    · have t1 : (r.cmd.toList == q.cmd.toList) = true := by rw [h1]; simp
      have H1 := Lib.hid h1
      clear h1
      by_cases h2 : r.time = q.time
      · have t2 : (r.time != q.time) = false := by rw [h2]; simp
        have H2 := Lib.hid h2
        clear h2
        by_cases h3 : r.mark = q.mark
        · have t3 : (r.mark != q.mark) = false := by rw [h3]; simp
          have H3 := Lib.hid h3
          clear h3
          by_cases h4 : r.ins.length = q.ins.length
          · have t4 : ((r.ins.length : Int) != (q.ins.length : Int)) = false := by rw [h4]; simp
            have l4 : r.ins.length ≤ q.ins.length := by omega
            have H4 := Lib.hid h4
            clear h4
            by_cases h5 : r.found.length = q.found.length
            · have t5 : ((r.found.length : Int) != (q.found.length : Int)) = false := by rw [h5]; simp
              have l5 : r.found.length ≤ q.found.length := by omega
              have H5 := Lib.hid h5
              clear h5
              go_enter Try.func17, Try.ntmps17
              go_wp2_with fail
              clear t0 t1 t2 t3 t4 t5
              go_loopw [5] (fun i wr => ∃ j : Nat, j ≤ r.ins.length ∧ i = .int .i64 j ∧ Hid (r.ins.take j = q.ins.take j) ∧ Hid (∃ n, wr = W0.drewN n)) (fun i _ => r.ins.length - (intOf i).toNat)
              case atStart => exact ⟨0, Nat.zero_le _, rfl, Lib.hid (by simp), Lib.hid ⟨0, rfl⟩⟩
              case round =>
                obtain ⟨j, hj, rfl, hT, hW⟩ := hrel
                obtain ⟨n, rfl⟩ := hW.out
                by_cases hlt : j < r.ins.length
                · have hlq : j < q.ins.length := by omega
                  have hx := List.getElem?_eq_getElem hlt
                  have hy := List.getElem?_eq_getElem hlq
                  rcases RI.out with h | ⟨b, off, rfl, hb, hcell⟩
                  · rw [h] at hlt; simp at hlt
                  rcases RJ.out with h | ⟨b2, off2, rfl, hb2, hcell2⟩
                  · rw [h] at hlq; simp at hlq
                  obtain ⟨x0, x1⟩ := hcell j _ hx
                  obtain ⟨y0, y1⟩ := hcell2 j _ hy
                  generalize r.ins[j] = x at *
                  generalize q.ins[j] = y at *
                  have HX := Lib.hid hx
                  have HY := Lib.hid hy
                  have hi0 : (0 : Int) ≤ (j : Int) := by omega
                  have hi1 : (j : Int) < (r.ins.length : Int) := by omega
                  have hi2 : (j : Int) < (q.ins.length : Int) := by omega
                  clear hx hy hcell hcell2
                  by_cases e1 : x.name = y.name
                  · by_cases e2 : x.time = y.time
                    · obtain rfl : x = y := by cases x; cases y; simp_all
                      clear e1 e2
                      go_wp2_with fail
                      go_quiet (fail)
                      go_wp2_with fail
                      go_roundw
                      case rel => exact ⟨j + 1, by omega, by go_num, Lib.hid (take_next hT.out HX.out HY.out), Lib.hid ⟨_, rfl⟩⟩
                      case measure => simp [intOf]; omega
                    · have u1 : x.name.toList = y.name.toList := by rw [e1]
                      have HE := Lib.hid e2
                      clear e1
                      go_wp2_with fail
                      go_quiet (fail)
                      go_wp2_with fail
                      go_ret
                      exact ⟨ret_bool (sameB_no fun e => ne_at HX.out HY.out (fun e => HE.out (by rw [e])) (by rw [e])).symm, by (first | exact below_drawn HB.out _ | exact below_drawn (below_drawn HB.out _) _)⟩
                  · have u1 : ¬ x.name.toList = y.name.toList := fun e => e1 (Pk.toList_inj e)
                    have HE := Lib.hid e1
                    clear e1
                    go_wp2_with fail
                    go_quiet (fail)
                    go_wp2_with fail
                    go_ret
                    exact ⟨ret_bool (sameB_no fun e => ne_at HX.out HY.out (fun e => HE.out (by rw [e])) (by rw [e])).symm, by (first | exact below_drawn HB.out _ | exact below_drawn (below_drawn HB.out _) _)⟩
                · obtain rfl : j = r.ins.length := by omega
                  have hE : r.ins = q.ins := by
                    have := hT.out
                    rw [List.take_length, H4.out, List.take_length] at this
                    exact this
                  have HE := Lib.hid hE
                  clear hE hT hlt
                  go_wp2_with fail
                  go_loopw [6] (fun i wr => ∃ j : Nat, j ≤ r.found.length ∧ i = .int .i64 j ∧ Hid (r.found.take j = q.found.take j) ∧ Hid (∃ n, wr = W0.drewN n)) (fun i _ => r.found.length - (intOf i).toNat)
                  case atStart => exact ⟨0, Nat.zero_le _, rfl, Lib.hid (by simp), Lib.hid ⟨_, rfl⟩⟩
                  case round =>
                    obtain ⟨j, hj, rfl, hT, hW⟩ := hrel
                    obtain ⟨n2, rfl⟩ := hW.out
                    by_cases hlt : j < r.found.length
                    · have hlq : j < q.found.length := by omega
                      have hx := List.getElem?_eq_getElem hlt
                      have hy := List.getElem?_eq_getElem hlq
                      rcases RF.out with h | ⟨b, off, rfl, hb, hcell⟩
                      · rw [h] at hlt; simp at hlt
                      rcases RG.out with h | ⟨b2, off2, rfl, hb2, hcell2⟩
                      · rw [h] at hlq; simp at hlq
                      have x0 := hcell j _ hx
                      have y0 := hcell2 j _ hy
                      generalize r.found[j] = x at *
                      generalize q.found[j] = y at *
                      have HX := Lib.hid hx
                      have HY := Lib.hid hy
                      have hi0 : (0 : Int) ≤ (j : Int) := by omega
                      have hi1 : (j : Int) < (r.found.length : Int) := by omega
                      have hi2 : (j : Int) < (q.found.length : Int) := by omega
                      clear hx hy hcell hcell2
                      by_cases e1 : x = y
                      · subst e1
                        go_wp2_with fail
                        go_quiet (fail)
                        go_wp2_with fail
                        go_roundw
                        case rel => exact ⟨j + 1, by omega, by go_num, Lib.hid (take_next hT.out HX.out HY.out), Lib.hid ⟨_, rfl⟩⟩
                        case measure => simp [intOf]; omega
                      · have e2 : (x != y) = true := by simpa using e1
                        have HE2 := Lib.hid e1
                        clear e1
                        go_wp2_with fail
                        go_quiet (fail)
                        go_wp2_with fail
                        go_ret
                        exact ⟨ret_bool (sameB_no fun e => ne_at HX.out HY.out HE2.out (by rw [e])).symm, by (first | exact below_drawn HB.out _ | exact below_drawn (below_drawn HB.out _) _)⟩
                    · obtain rfl : j = r.found.length := by omega
                      have hE : r.found = q.found := by
                        have := hT.out
                        rw [List.take_length, H5.out, List.take_length] at this
                        exact this
                      have HF := Lib.hid hE
                      clear hE hT hlt
                      go_wp2_with fail
                      go_ret
                      exact ⟨ret_bool (sameB_yes (run_eq H0.out H1.out H2.out H3.out HE.out HF.out)).symm, by (first | exact below_drawn HB.out _ | exact below_drawn (below_drawn HB.out _) _)⟩

            · have t5 : ((r.found.length : Int) != (q.found.length : Int)) = true := by simpa using fun e : (r.found.length : Int) = q.found.length => h5 (by omega)
              have H5 := Lib.hid h5
              clear h5
              go_enter Try.func17, Try.ntmps17
              go_wp2_with fail
              go_ret
              exact ⟨ret_bool (sameB_no fun e => H5.out (by rw [e])).symm, HB.out⟩
          · have t4 : ((r.ins.length : Int) != (q.ins.length : Int)) = true := by simpa using fun e : (r.ins.length : Int) = q.ins.length => h4 (by omega)
            have H4 := Lib.hid h4
            clear h4
            go_enter Try.func17, Try.ntmps17
            go_wp2_with fail
            go_ret
            exact ⟨ret_bool (sameB_no fun e => H4.out (by rw [e])).symm, HB.out⟩
        · have t3 : (r.mark != q.mark) = true := by simpa using h3
          have H3 := Lib.hid h3
          clear h3
          go_enter Try.func17, Try.ntmps17
          go_wp2_with fail
          go_ret
          exact ⟨ret_bool (sameB_no fun e => H3.out (by rw [e])).symm, HB.out⟩
      · have t2 : (r.time != q.time) = true := by simpa using h2
        have H2 := Lib.hid h2
        clear h2
        go_enter Try.func17, Try.ntmps17
        go_wp2_with fail
        go_ret
        exact ⟨ret_bool (sameB_no fun e => H2.out (by rw [e])).symm, HB.out⟩
    · have t1 : (r.cmd.toList == q.cmd.toList) = false := Pk.toList_ne h1
      have H1 := Lib.hid h1
      clear h1
      go_enter Try.func17, Try.ntmps17
      go_wp2_with fail
      go_ret
      exact ⟨ret_bool (sameB_no fun e => H1.out (by rw [e])).symm, HB.out⟩
  · have t0 : (r.out.toList == q.out.toList) = false := Pk.toList_ne h0
    have H0 := Lib.hid h0
    clear h0
    go_enter Try.func17, Try.ntmps17
    go_wp2_with fail
    go_ret
    exact ⟨ret_bool (sameB_no fun e => H0.out (by rw [e])).symm, HB.out⟩
end Go.Proofs.Ytdijpoemimebmaa.Rn
