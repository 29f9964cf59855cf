/-
  IS IT IN THE ROW; a string laid behind a row: walked.
-/
import Derived.Test.YthgahbjelcmelaaDoorDfParsM
namespace Go.Proofs.YthgahbjelcmelaaDoor.Df
open Go.RowKit Go.Proofs.YthgahbjelcmelaaDoor

theorem push_c {w W : World} {base : Nat} {a : Option Addr} {c : Nat} {K : List Bs} (p : Bs) (h : W.ownsRow base 9 1 (.slice a K.length c) K.length (strV K)) (hw : base = w.heap.size) (hB : Below w.heap.size w W) (hK : K.length ≤ 1000000) :
    ∃ a' c' w', (Builtin.append_ #[22, 22] 22 #[.slice a K.length c, .slice (some ⟨W.heap.size, 0, none⟩) 1 1]).run Tryd.prog (W.alloc (.cells #[.string (mk p)] 9)) = .ok (.slice a' (K ++ [p]).length c') w' ∧
      w'.ownsRow base 9 1 (.slice a' (K ++ [p]).length c') (K ++ [p]).length (strV (K ++ [p])) ∧ Below w.heap.size w w' := by
  subst hw
  obtain ⟨a', c', w', h1, h2, h3⟩ := str_run (p := p) h hB.size hK
  have hA := below_alloc W (.cells #[.string (mk p)] 9)
  exact ⟨a', c', w', h1, h2, (hB.trans (hA.mono hB.size)).trans ⟨h3.os, h3.tape, h3.output, h3.size, fun q hq => h3.block q (by have := hB.size; have := hA.size; omega) (fun e => by
    have := (owns_block h e.symm).1
    omega)⟩⟩

set_option maxRecDepth 100000 in
set_option maxHeartbeats 4000000 in
theorem in_c {w : World} {va : Value} {K : List Bs} (s : Bs) (hK : Strs w va K) (hk : K.length ≤ 1000000) :
    Calls Tryd.prog 18 #[va, .string (mk s)] w fun e w' => e = .returned (.bool (K.contains s)) ∧ Below w.heap.size w w' := by
  obtain ⟨a, c, rfl, hc, hra⟩ := hK
  have HA := Lib.hid hra
  clear hra
  go_enter Tryd.func18, Tryd.ntmps18
  go_wp2_with fail
  go_loopw [5] (fun i wr => ∃ j : Nat, j ≤ K.length ∧ i = .int .i64 j ∧ Hid ((K.take j).contains s = false) ∧ Hid (Below w.heap.size w wr)) (fun i _ => K.length - (intOf i).toNat)
  case atStart => exact ⟨0, Nat.zero_le _, rfl, Lib.hid rfl, Lib.hid (Below.refl _ _)⟩
  case round =>
    obtain ⟨j, hj, rfl, hT, hBw⟩ := hrel
    by_cases hlt : j < K.length
    · have hx := List.getElem?_eq_getElem hlt
      have hmem := List.getElem_mem hlt
      rcases HA.out with h0 | ⟨ga, oa, rfl, hga, hca⟩
      · rw [h0] at hlt; simp at hlt
      have c1 : wr.cell? ⟨ga, oa + j, none⟩ = some (.string (mk K[j])) := (cell_of_block (hBw.out.block ga hga)).trans (hca j _ hx)
      have ht1 : K.take (j + 1) = K.take j ++ [K[j]] := by rw [List.take_add_one, hx]; rfl
      generalize K[j] = x at *
      have hi0 : (0 : Int) ≤ (j : Int) := by omega
      have hi1 : (j : Int) < (K.length : Int) := by omega
      have hcmp := cmpS x s
      by_cases hxy : x = s
      · rw [decide_eq_true hxy] at hcmp
        have HE : Hid (K.contains s = true) := Lib.hid (by rw [List.contains_iff_mem, ← hxy]; exact hmem)
        clear hx hca ht1 hxy hmem
        go_wp2_with fail
        go_ret
        exact ⟨by rw [HE.out]; rfl, hBw.out⟩
      · rw [decide_eq_false hxy] at hcmp
        have HTN : Hid ((K.take (j + 1)).contains s = false) := Lib.hid (by
          have h1 := hT.out
          rw [ht1]
          simp at h1 ⊢
          exact ⟨h1, fun e => hxy e.symm⟩)
        clear hx hca ht1 hxy hmem
        go_wp2_with fail
        go_roundw
        case rel => exact ⟨j + 1, by omega, by go_num, HTN, hBw⟩
        case measure => simp [intOf]; omega
    · obtain rfl : j = K.length := by omega
      have HE : Hid (K.contains s = false) := Lib.hid (by
        have h1 := hT.out
        rw [List.take_length] at h1
        exact h1)
      go_wp2_with fail
      go_ret
      exact ⟨by rw [HE.out]; rfl, hBw.out⟩
end Go.Proofs.YthgahbjelcmelaaDoor.Df
