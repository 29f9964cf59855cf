/-
  ROWS OF NUMBERS, AND OF YtbflodefmookiaaS, COMPARED; rows of names that are typed.
-/
import Derived.Test.YtbflodefmookiaaGrPlanW
namespace Go.Proofs.Ytbflodefmookiaa.Gr
open Go.RowKit Go.Maps Go.Proofs.Ytbflodefmookiaa Go.Proofs.Ytbflodefmookiaa.Pr

theorem bel_drawn {w W : World} {B : Nat} (h : Below B w W) (n : Nat) : Below B w (W.drewN n) := ⟨h.os, h.tape, h.output, h.size, h.block⟩
theorem cmpS (a b : Bs) : ((mk a).toList == (mk b).toList) = decide (a = b) := by
  rw [mk_toList, mk_toList]
  exact Bool.eq_iff_iff.2 (by simp)
set_option maxRecDepth 100000 in
set_option maxHeartbeats 4000000 in
theorem rows_c {w : World} {va vb : Value} {K M : List Bs} (hK : Strs w va K) (hM : Strs w vb M) (hk : K.length ≤ 1000000) :
    Calls Try.prog 20 #[va, vb] w fun e w' => e = .returned (.bool (decide (K = M))) ∧ Below w.heap.size w w' := by
  obtain ⟨a, c, rfl, hc, hra⟩ := hK
  obtain ⟨b, d, rfl, hd, hrb⟩ := hM
  by_cases hl : K.length = M.length
  rotate_left 1
  · have t1 : (((K.length : Nat) : Int) != ((M.length : Nat) : Int)) = true := by rw [bne_iff_ne]; omega
    have t2 : ¬ ((K.length : Int) = (M.length : Int)) := by omega
    have HE : Hid (decide (K = M) = false) := Lib.hid (decide_eq_false fun e => hl (by rw [e]))
    generalize K.length = kl at *
    generalize M.length = ml at *
    clear hl
    go_enter Try.func20, Try.ntmps20
    go_wp2_with fail
    go_ret
    exact ⟨by rw [HE.out]; rfl, Below.refl _ _⟩
  have HL := Lib.hid hl
  have HA := Lib.hid hra
  have HB := Lib.hid hrb
  have t1 : (((K.length : Nat) : Int) != ((K.length : Nat) : Int)) = false := by simp
  rw [← hl] at hd ⊢
  clear hl hra hrb
  go_enter Try.func20, Try.ntmps20
  go_wp2_with fail
  go_loopw [5] (fun i wr => ∃ j : Nat, j ≤ K.length ∧ i = .int .i64 j ∧ Hid (K.take j = M.take j) ∧ Hid (Below w.heap.size w wr)) (fun i _ => K.length - (intOf i).toNat)
  case atStart => exact ⟨0, Nat.zero_le _, rfl, Lib.hid rfl, Lib.hid (Below.refl _ _)⟩
  case round =>
    obtain ⟨j, hj, rfl, hT, hBw⟩ := hrel
    by_cases hlt : j < K.length
    · have hx := List.getElem?_eq_getElem hlt
      have hltM : j < M.length := by have := HL.out; omega
      have hy := List.getElem?_eq_getElem hltM
      rcases HA.out with h0 | ⟨ga, oa, rfl, hga, hca⟩
      · rw [h0] at hlt; simp at hlt
      rcases HB.out with h0 | ⟨gb, ob, rfl, hgb, hcb⟩
      · rw [h0] at hltM; simp at hltM
      have c1 : wr.cell? ⟨ga, oa + j, none⟩ = some (.string (mk K[j])) := (cell_of_block (hBw.out.block ga hga)).trans (hca j _ hx)
      have c2 : wr.cell? ⟨gb, ob + j, none⟩ = some (.string (mk M[j])) := (cell_of_block (hBw.out.block gb hgb)).trans (hcb j _ hy)
      have ht1 : K.take (j + 1) = K.take j ++ [K[j]] := by rw [List.take_add_one, hx]; rfl
      have ht2 : M.take (j + 1) = M.take j ++ [M[j]] := by rw [List.take_add_one, hy]; rfl
      generalize K[j] = x at *
      generalize M[j] = y at *
      have HT1 := Lib.hid ht1
      have HT2 := Lib.hid ht2
      have hi0 : (0 : Int) ≤ (j : Int) := by omega
      have hi1 : (j : Int) < (K.length : Int) := by omega
      have hcmp := cmpS x y
      by_cases hxy : x = y
      · rw [decide_eq_true hxy] at hcmp
        have HTN : Hid (K.take (j + 1) = M.take (j + 1)) := Lib.hid (by rw [HT1.out, HT2.out, hT.out, hxy])
        clear hx hy hca hcb ht1 ht2 hxy
        go_wp2_with fail
        go_quiet (fail)
        go_wp2_with fail
        go_roundw
        case rel => exact ⟨j + 1, by omega, by go_num, HTN, Lib.hid (bel_drawn hBw.out _)⟩
        case measure => simp [intOf]; omega
      · rw [decide_eq_false hxy] at hcmp
        have HE : Hid (decide (K = M) = false) := Lib.hid (decide_eq_false fun e => hxy (by
          have h1 := HT1.out
          have h2 := HT2.out
          rw [e] at h1
          rw [h1] at h2
          have := List.append_inj_right' h2 rfl
          simpa using this))
        clear hx hy hca hcb ht1 ht2 hxy
        go_wp2_with fail
        go_quiet (fail)
        go_wp2_with fail
        go_ret
        exact ⟨by rw [HE.out]; rfl, bel_drawn hBw.out _⟩
    · obtain rfl : j = K.length := by omega
      have HE : Hid (decide (K = M) = true) := Lib.hid (decide_eq_true (by
        have h1 := hT.out
        rw [List.take_length, HL.out, List.take_length] at h1
        exact h1))
      go_wp2_with fail
      go_ret
      exact ⟨by rw [HE.out]; rfl, hBw.out⟩

set_option maxRecDepth 100000 in
set_option maxHeartbeats 4000000 in
theorem numbers_c {w : World} {va vb : Value} {K M : List Nat} (hK : IntR w va K) (hM : IntR w vb M) (hk : K.length ≤ 1000000) :
    Calls Try.prog 19 #[va, vb] w fun e w' => e = .returned (.bool (decide (K = M))) ∧ Below w.heap.size w w' := by
  obtain ⟨a, c, rfl, hra⟩ := hK
  obtain ⟨b, d, rfl, hrb⟩ := hM
  by_cases hl : K.length = M.length
  rotate_left 1
  · have t1 : (((K.length : Nat) : Int) != ((M.length : Nat) : Int)) = true := by rw [bne_iff_ne]; omega
    have t2 : ¬ ((K.length : Int) = (M.length : Int)) := by omega
    have HE : Hid (decide (K = M) = false) := Lib.hid (decide_eq_false fun e => hl (by rw [e]))
    generalize K.length = kl at *
    generalize M.length = ml at *
    clear hl
    go_enter Try.func19, Try.ntmps19
    go_wp2_with fail
    go_ret
    exact ⟨by rw [HE.out]; rfl, Below.refl _ _⟩
  have HL := Lib.hid hl
  have HA := Lib.hid hra
  have HB := Lib.hid hrb
  have t1 : (((K.length : Nat) : Int) != ((K.length : Nat) : Int)) = false := by simp
  rw [← hl]
  clear hl hra hrb
  go_enter Try.func19, Try.ntmps19
  go_wp2_with fail
  go_loopw [5] (fun i wr => ∃ j : Nat, j ≤ K.length ∧ i = .int .i64 j ∧ Hid (K.take j = M.take j) ∧ Hid (Below w.heap.size w wr)) (fun i _ => K.length - (intOf i).toNat)
  case atStart => exact ⟨0, Nat.zero_le _, rfl, Lib.hid rfl, Lib.hid (Below.refl _ _)⟩
  case round =>
    obtain ⟨j, hj, rfl, hT, hBw⟩ := hrel
    by_cases hlt : j < K.length
    · have hx := List.getElem?_eq_getElem hlt
      have hltM : j < M.length := by have := HL.out; omega
      have hy := List.getElem?_eq_getElem hltM
      rcases HA.out with h0 | ⟨ga, oa, rfl, hga, hca⟩
      · rw [h0] at hlt; simp at hlt
      rcases HB.out with h0 | ⟨gb, ob, rfl, hgb, hcb⟩
      · rw [h0] at hltM; simp at hltM
      have c1 : wr.cell? ⟨ga, oa + j, none⟩ = some (.int .i64 (K[j] : Nat)) := (cell_of_block (hBw.out.block ga hga)).trans (hca j _ hx)
      have c2 : wr.cell? ⟨gb, ob + j, none⟩ = some (.int .i64 (M[j] : Nat)) := (cell_of_block (hBw.out.block gb hgb)).trans (hcb j _ hy)
      have ht1 : K.take (j + 1) = K.take j ++ [K[j]] := by rw [List.take_add_one, hx]; rfl
      have ht2 : M.take (j + 1) = M.take j ++ [M[j]] := by rw [List.take_add_one, hy]; rfl
      generalize K[j] = x at *
      generalize M[j] = y at *
      have HT1 := Lib.hid ht1
      have HT2 := Lib.hid ht2
      have hi0 : (0 : Int) ≤ (j : Int) := by omega
      have hi1 : (j : Int) < (K.length : Int) := by omega
      have hcmp : ((x : Int) != (y : Int)) = !decide (x = y) := by by_cases h : x = y <;> simp [h]; omega
      by_cases hxy : x = y
      · rw [decide_eq_true hxy] at hcmp
        have HTN : Hid (K.take (j + 1) = M.take (j + 1)) := Lib.hid (by rw [HT1.out, HT2.out, hT.out, hxy])
        clear hx hy hca hcb ht1 ht2 hxy
        go_wp2_with fail
        go_quiet (fail)
        go_wp2_with fail
        go_roundw
        case rel => exact ⟨j + 1, by omega, by go_num, HTN, Lib.hid (bel_drawn hBw.out _)⟩
        case measure => simp [intOf]; omega
      · rw [decide_eq_false hxy] at hcmp
        have HE : Hid (decide (K = M) = false) := Lib.hid (decide_eq_false fun e => hxy (by
          have h1 := HT1.out
          have h2 := HT2.out
          rw [e] at h1
          rw [h1] at h2
          have := List.append_inj_right' h2 rfl
          simpa using this))
        clear hx hy hca hcb ht1 ht2 hxy
        go_wp2_with fail
        go_quiet (fail)
        go_wp2_with fail
        go_ret
        exact ⟨by rw [HE.out]; rfl, bel_drawn hBw.out _⟩
    · obtain rfl : j = K.length := by omega
      have HE : Hid (decide (K = M) = true) := Lib.hid (decide_eq_true (by
        have h1 := hT.out
        rw [List.take_length, HL.out, List.take_length] at h1
        exact h1))
      go_wp2_with fail
      go_ret
      exact ⟨by rw [HE.out]; rfl, hBw.out⟩

theorem lit_strs (w : World) (K : List Bs) (C : Array Value) (hC : C = (K.map fun s => Value.string (mk s)).toArray) : Strs (w.alloc (.cells C 9)) (.slice (some ⟨w.heap.size, 0, none⟩) K.length K.length) K := by
  refine ⟨_, _, rfl, Nat.le_refl _, .inr ⟨w.heap.size, 0, rfl, by rw [World.size_alloc]; omega, fun j p hp => ?_⟩⟩
  rw [Nat.zero_add]
  have h1 : (w.alloc (.cells C 9)).heap[w.heap.size]? = some (.cells C 9 (0, 0)) := heap_alloc_new _ _
  have h2 : C[j]? = some (.string (mk p)) := by rw [hC]; simp [hp]
  simp only [World.cell?, h1]
  exact h2
end Go.Proofs.Ytbflodefmookiaa.Gr
