/-
  ROWS OF NUMBERS, AND OF YtbflodefmookiaaS, COMPARED; rows of names that are typed.
  BLOCKS LAID ONE BEHIND THE OTHER; rows of names, numbers and edges that are typed in the text.
-/
import Derived.Test.YtbflodefmookiaaGrPlanW
namespace Go.Proofs.Ytbflodefmookiaa.Gr
open Go.RowKit Go.Maps Go.Proofs.Ytbflodefmookiaa Go.Proofs.Ytbflodefmookiaa.Pr

theorem bel_drawn {w W : World} {B : Nat} (h : Below B w W) (n : Nat) : Below B w (W.drewN n) := ⟨h.os, h.tape, h.output, h.size, h.block⟩
theorem cmpS (a b : Bs) : ((mk a).toList == (mk b).toList) = decide (a = b) := by
  rw [mk_toList, mk_toList]
  exact Bool.eq_iff_iff.2 (by simp)
set_option maxRecDepth 100000 in
set_option maxHeartbeats 4000000 in
theorem rows_c {w : World} {va vb : Value} {K M : List Bs} (hK : Strs w va K) (hM : Strs w vb M) (hk : K.length ≤ 1000000) :
    Calls Try.prog 20 #[va, vb] w fun e w' => e = .returned (.bool (decide (K = M))) ∧ Below w.heap.size w w' := by
  obtain ⟨a, c, rfl, hc, hra⟩ := hK
  obtain ⟨b, d, rfl, hd, hrb⟩ := hM
  by_cases hl : K.length = M.length
  rotate_left 1
  · have t1 : (((K.length : Nat) : Int) != ((M.length : Nat) : Int)) = true := by rw [bne_iff_ne]; omega
    have t2 : ¬ ((K.length : Int) = (M.length : Int)) := by omega
    have HE : Hid (decide (K = M) = false) := Lib.hid (decide_eq_false fun e => hl (by rw [e]))
    generalize K.length = kl at *
    generalize M.length = ml at *
    clear hl
    go_enter Try.func20, Try.ntmps20
    go_wp2_with fail
    go_ret
    exact ⟨by rw [HE.out]; rfl, Below.refl _ _⟩
  have HL := Lib.hid hl
  have HA := Lib.hid hra
  have HB := Lib.hid hrb
  have t1 : (((K.length : Nat) : Int) != ((K.length : Nat) : Int)) = false := by simp
  rw [← hl] at hd ⊢
  clear hl hra hrb
  go_enter Try.func20, Try.ntmps20
  go_wp2_with fail
  go_loopw [5] (fun i wr => ∃ j : Nat, j ≤ K.length ∧ i = .int .i64 j ∧ Hid (K.take j = M.take j) ∧ Hid (Below w.heap.size w wr)) (fun i _ => K.length - (intOf i).toNat)
  case atStart => exact ⟨0, Nat.zero_le _, rfl, Lib.hid rfl, Lib.hid (Below.refl _ _)⟩
  case round =>
    obtain ⟨j, hj, rfl, hT, hBw⟩ := hrel
    by_cases hlt : j < K.length
    · have hx := List.getElem?_eq_getElem hlt
      have hltM : j < M.length := by have := HL.out; omega
      have hy := List.getElem?_eq_getElem hltM
      rcases HA.out with h0 | ⟨ga, oa, rfl, hga, hca⟩
      · rw [h0] at hlt; simp at hlt
      rcases HB.out with h0 | ⟨gb, ob, rfl, hgb, hcb⟩
      · rw [h0] at hltM; simp at hltM
      have c1 : wr.cell? ⟨ga, oa + j, none⟩ = some (.string (mk K[j])) := (cell_of_block (hBw.out.block ga hga)).trans (hca j _ hx)
      have c2 : wr.cell? ⟨gb, ob + j, none⟩ = some (.string (mk M[j])) := (cell_of_block (hBw.out.block gb hgb)).trans (hcb j _ hy)
      have ht1 : K.take (j + 1) = K.take j ++ [K[j]] := by rw [List.take_add_one, hx]; rfl
      have ht2 : M.take (j + 1) = M.take j ++ [M[j]] := by rw [List.take_add_one, hy]; rfl
      generalize K[j] = x at *
      generalize M[j] = y at *
      have HT1 := Lib.hid ht1
      have HT2 := Lib.hid ht2
      have hi0 : (0 : Int) ≤ (j : Int) := by omega
      have hi1 : (j : Int) < (K.length : Int) := by omega
      have hcmp := cmpS x y
      by_cases hxy : x = y
      · rw [decide_eq_true hxy] at hcmp
        have HTN : Hid (K.take (j + 1) = M.take (j + 1)) := Lib.hid (by rw [HT1.out, HT2.out, hT.out, hxy])
        clear hx hy hca hcb ht1 ht2 hxy
        go_wp2_with fail
        go_quiet (fail)
        go_wp2_with fail
        go_roundw
        case rel => exact ⟨j + 1, by omega, by go_num, HTN, Lib.hid (bel_drawn hBw.out _)⟩
        case measure => simp [intOf]; omega
      · rw [decide_eq_false hxy] at hcmp
        have HE : Hid (decide (K = M) = false) := Lib.hid (decide_eq_false fun e => hxy (by
          have h1 := HT1.out
          have h2 := HT2.out
          rw [e] at h1
          rw [h1] at h2
          have := List.append_inj_right' h2 rfl
          simpa using this))
        clear hx hy hca hcb ht1 ht2 hxy
        go_wp2_with fail
        go_quiet (fail)
        go_wp2_with fail
        go_ret
        exact ⟨by rw [HE.out]; rfl, bel_drawn hBw.out _⟩
    · obtain rfl : j = K.length := by omega
      have HE : Hid (decide (K = M) = true) := Lib.hid (decide_eq_true (by
        have h1 := hT.out
        rw [List.take_length, HL.out, List.take_length] at h1
        exact h1))
      go_wp2_with fail
      go_ret
      exact ⟨by rw [HE.out]; rfl, hBw.out⟩

set_option maxRecDepth 100000 in
set_option maxHeartbeats 4000000 in
theorem numbers_c {w : World} {va vb : Value} {K M : List Nat} (hK : IntR w va K) (hM : IntR w vb M) (hk : K.length ≤ 1000000) :
    Calls Try.prog 19 #[va, vb] w fun e w' => e = .returned (.bool (decide (K = M))) ∧ Below w.heap.size w w' := by
  obtain ⟨a, c, rfl, hra⟩ := hK
  obtain ⟨b, d, rfl, hrb⟩ := hM
  by_cases hl : K.length = M.length
  rotate_left 1
  · have t1 : (((K.length : Nat) : Int) != ((M.length : Nat) : Int)) = true := by rw [bne_iff_ne]; omega
    have t2 : ¬ ((K.length : Int) = (M.length : Int)) := by omega
    have HE : Hid (decide (K = M) = false) := Lib.hid (decide_eq_false fun e => hl (by rw [e]))
    generalize K.length = kl at *
    generalize M.length = ml at *
    clear hl
    go_enter Try.func19, Try.ntmps19
    go_wp2_with fail
    go_ret
    exact ⟨by rw [HE.out]; rfl, Below.refl _ _⟩
  have HL := Lib.hid hl
  have HA := Lib.hid hra
  have HB := Lib.hid hrb
  have t1 : (((K.length : Nat) : Int) != ((K.length : Nat) : Int)) = false := by simp
  rw [← hl]
  clear hl hra hrb
  go_enter Try.func19, Try.ntmps19
  go_wp2_with fail
  go_loopw [5] (fun i wr => ∃ j : Nat, j ≤ K.length ∧ i = .int .i64 j ∧ Hid (K.take j = M.take j) ∧ Hid (Below w.heap.size w wr)) (fun i _ => K.length - (intOf i).toNat)
  case atStart => exact ⟨0, Nat.zero_le _, rfl, Lib.hid rfl, Lib.hid (Below.refl _ _)⟩
  case round =>
    obtain ⟨j, hj, rfl, hT, hBw⟩ := hrel
    by_cases hlt : j < K.length
    · have hx := List.getElem?_eq_getElem hlt
      have hltM : j < M.length := by have := HL.out; omega
      have hy := List.getElem?_eq_getElem hltM
      rcases HA.out with h0 | ⟨ga, oa, rfl, hga, hca⟩
      · rw [h0] at hlt; simp at hlt
      rcases HB.out with h0 | ⟨gb, ob, rfl, hgb, hcb⟩
      · rw [h0] at hltM; simp at hltM
      have c1 : wr.cell? ⟨ga, oa + j, none⟩ = some (.int .i64 (K[j] : Nat)) := (cell_of_block (hBw.out.block ga hga)).trans (hca j _ hx)
      have c2 : wr.cell? ⟨gb, ob + j, none⟩ = some (.int .i64 (M[j] : Nat)) := (cell_of_block (hBw.out.block gb hgb)).trans (hcb j _ hy)
      have ht1 : K.take (j + 1) = K.take j ++ [K[j]] := by rw [List.take_add_one, hx]; rfl
      have ht2 : M.take (j + 1) = M.take j ++ [M[j]] := by rw [List.take_add_one, hy]; rfl
      generalize K[j] = x at *
      generalize M[j] = y at *
      have HT1 := Lib.hid ht1
      have HT2 := Lib.hid ht2
      have hi0 : (0 : Int) ≤ (j : Int) := by omega
      have hi1 : (j : Int) < (K.length : Int) := by omega
      have hcmp : ((x : Int) != (y : Int)) = !decide (x = y) := by by_cases h : x = y <;> simp [h]; omega
      by_cases hxy : x = y
      · rw [decide_eq_true hxy] at hcmp
        have HTN : Hid (K.take (j + 1) = M.take (j + 1)) := Lib.hid (by rw [HT1.out, HT2.out, hT.out, hxy])
        clear hx hy hca hcb ht1 ht2 hxy
        go_wp2_with fail
        go_quiet (fail)
        go_wp2_with fail
        go_roundw
        case rel => exact ⟨j + 1, by omega, by go_num, HTN, Lib.hid (bel_drawn hBw.out _)⟩
        case measure => simp [intOf]; omega
      · rw [decide_eq_false hxy] at hcmp
        have HE : Hid (decide (K = M) = false) := Lib.hid (decide_eq_false fun e => hxy (by
          have h1 := HT1.out
          have h2 := HT2.out
          rw [e] at h1
          rw [h1] at h2
          have := List.append_inj_right' h2 rfl
          simpa using this))
        clear hx hy hca hcb ht1 ht2 hxy
        go_wp2_with fail
        go_quiet (fail)
        go_wp2_with fail
        go_ret
        exact ⟨by rw [HE.out]; rfl, bel_drawn hBw.out _⟩
    · obtain rfl : j = K.length := by omega
      have HE : Hid (decide (K = M) = true) := Lib.hid (decide_eq_true (by
        have h1 := hT.out
        rw [List.take_length, HL.out, List.take_length] at h1
        exact h1))
      go_wp2_with fail
      go_ret
      exact ⟨by rw [HE.out]; rfl, hBw.out⟩

theorem lit_strs (w : World) (K : List Bs) (C : Array Value) (hC : C = (K.map fun s => Value.string (mk s)).toArray) : Strs (w.alloc (.cells C 9)) (.slice (some ⟨w.heap.size, 0, none⟩) K.length K.length) K := by
  refine ⟨_, _, rfl, Nat.le_refl _, .inr ⟨w.heap.size, 0, rfl, by rw [World.size_alloc]; omega, fun j p hp => ?_⟩⟩
  rw [Nat.zero_add]
  have h1 : (w.alloc (.cells C 9)).heap[w.heap.size]? = some (.cells C 9 (0, 0)) := heap_alloc_new _ _
  have h2 : C[j]? = some (.string (mk p)) := by rw [hC]; simp [hp]
  simp only [World.cell?, h1]
  exact h2
end Go.Proofs.Ytbflodefmookiaa.Gr
namespace Go.Proofs.Ytbflodefmookiaa.Gr
open Go.RowKit Go.Maps Go.Proofs.Ytbflodefmookiaa Go.Proofs.Ytbflodefmookiaa.Pr

def allocs (w : World) (os : List Obj) : World := os.foldl (fun W o => W.alloc o) w
theorem allocs_below (os : List Obj) : ∀ w : World, Below w.heap.size w (allocs w os) := by
  induction os with
  | nil => exact fun w => Below.refl _ w
  | cons o os ih => exact fun w => (below_alloc w o).trans ((ih (w.alloc o)).mono (below_alloc w o).size)
theorem allocs_size (os : List Obj) : ∀ w : World, (allocs w os).heap.size = w.heap.size + os.length := by
  induction os with
  | nil => exact fun w => rfl
  | cons o os ih =>
    intro w
    show (allocs (w.alloc o) os).heap.size = _
    rw [ih, World.size_alloc, List.length_cons]
    omega
theorem allocs_get (os : List Obj) : ∀ (w : World) (i : Nat) (o : Obj), os[i]? = some o → (allocs w os).heap[w.heap.size + i]? = some o := by
  induction os with
  | nil => exact fun w i o h => by cases h
  | cons p os ih =>
    intro w i o h
    show (allocs (w.alloc p) os).heap[_]? = _
    cases i with
    | zero =>
      cases h
      rw [(allocs_below os (w.alloc p)).block _ (by rw [World.size_alloc]; omega)]
      exact heap_alloc_new w p
    | succ i =>
      have := ih (w.alloc p) i o h
      rw [World.size_alloc] at this
      rw [show w.heap.size + (i + 1) = w.heap.size + 1 + i by omega]
      exact this
theorem strs_blk {W : World} {b : Nat} {K : List Bs} {C : Array Value} (h : W.heap[b]? = some (.cells C 9 (0, 0))) (hC : C = (K.map fun s => Value.string (mk s)).toArray) : Strs W (.slice (some ⟨b, 0, none⟩) K.length K.length) K := by
  refine ⟨_, _, rfl, Nat.le_refl _, .inr ⟨b, 0, rfl, lt_some h, fun j p hp => ?_⟩⟩
  rw [Nat.zero_add]
  have h2 : C[j]? = some (.string (mk p)) := by rw [hC]; simp [hp]
  simp only [World.cell?, h]
  exact h2
theorem strs_none (W : World) : Strs W (.slice none 0 0) [] := ⟨_, _, rfl, Nat.le_refl _, .inl rfl⟩
theorem ints_blk {W : World} {b : Nat} {M : List Nat} {C : Array Value} (h : W.heap[b]? = some (.cells C 3 (0, 0))) (hC : C = (intV M).toArray) : IntR W (.slice (some ⟨b, 0, none⟩) M.length M.length) M := by
  refine ⟨_, _, rfl, .inr ⟨b, 0, rfl, lt_some h, fun j p hp => ?_⟩⟩
  rw [Nat.zero_add]
  have h2 : C[j]? = some (.int .i64 (p : Int)) := by rw [hC]; simp [intV, hp]
  simp only [World.cell?, h]
  exact h2
section
variable {W : World} {b : Nat} {x y z : Ed} {a0 a1 a2 a3 b0 b1 b2 b3 c0 c1 c2 c3 : Value}
theorem eds_one (h : W.heap[b]? = some (.cells #[a0, a1, a2, a3, .string (mk x.cmd), .string (mk x.dep)] 52 (0, 0))) (hx : EdV W x a0 a1 a2 a3) : Eds W (.slice (some ⟨b, 0, none⟩) 1 1) [x] := by
  refine ⟨_, _, rfl, Nat.le_refl _, .inr ⟨b, 0, rfl, lt_some h, fun j e he => ?_⟩⟩
  rcases j with _ | j
  · cases he
    exact ⟨_, _, _, _, hx, by rw [Lib.cell_of_heap h]; rfl, by rw [Lib.cell_of_heap h]; rfl, by rw [Lib.cell_of_heap h]; rfl, by rw [Lib.cell_of_heap h]; rfl, by rw [Lib.cell_of_heap h]; rfl, by rw [Lib.cell_of_heap h]; rfl⟩
  · cases he
theorem eds_two (h : W.heap[b]? = some (.cells #[a0, a1, a2, a3, .string (mk x.cmd), .string (mk x.dep), b0, b1, b2, b3, .string (mk y.cmd), .string (mk y.dep)] 52 (0, 0))) (hx : EdV W x a0 a1 a2 a3) (hy : EdV W y b0 b1 b2 b3) :
    Eds W (.slice (some ⟨b, 0, none⟩) 2 2) [x, y] := by
  refine ⟨_, _, rfl, Nat.le_refl _, .inr ⟨b, 0, rfl, lt_some h, fun j e he => ?_⟩⟩
  rcases j with _ | _ | j
  · cases he
    exact ⟨_, _, _, _, hx, by rw [Lib.cell_of_heap h]; rfl, by rw [Lib.cell_of_heap h]; rfl, by rw [Lib.cell_of_heap h]; rfl, by rw [Lib.cell_of_heap h]; rfl, by rw [Lib.cell_of_heap h]; rfl, by rw [Lib.cell_of_heap h]; rfl⟩
  · cases he
    exact ⟨_, _, _, _, hy, by rw [Lib.cell_of_heap h]; rfl, by rw [Lib.cell_of_heap h]; rfl, by rw [Lib.cell_of_heap h]; rfl, by rw [Lib.cell_of_heap h]; rfl, by rw [Lib.cell_of_heap h]; rfl, by rw [Lib.cell_of_heap h]; rfl⟩
  · cases he
theorem eds_three (h : W.heap[b]? = some (.cells #[a0, a1, a2, a3, .string (mk x.cmd), .string (mk x.dep), b0, b1, b2, b3, .string (mk y.cmd), .string (mk y.dep), c0, c1, c2, c3, .string (mk z.cmd), .string (mk z.dep)] 52 (0, 0))) (hx : EdV W x a0 a1 a2 a3) (hy : EdV W y b0 b1 b2 b3) (hz : EdV W z c0 c1 c2 c3) :
    Eds W (.slice (some ⟨b, 0, none⟩) 3 3) [x, y, z] := by
  refine ⟨_, _, rfl, Nat.le_refl _, .inr ⟨b, 0, rfl, lt_some h, fun j e he => ?_⟩⟩
  rcases j with _ | _ | _ | j
  · cases he
    exact ⟨_, _, _, _, hx, by rw [Lib.cell_of_heap h]; rfl, by rw [Lib.cell_of_heap h]; rfl, by rw [Lib.cell_of_heap h]; rfl, by rw [Lib.cell_of_heap h]; rfl, by rw [Lib.cell_of_heap h]; rfl, by rw [Lib.cell_of_heap h]; rfl⟩
  · cases he
    exact ⟨_, _, _, _, hy, by rw [Lib.cell_of_heap h]; rfl, by rw [Lib.cell_of_heap h]; rfl, by rw [Lib.cell_of_heap h]; rfl, by rw [Lib.cell_of_heap h]; rfl, by rw [Lib.cell_of_heap h]; rfl, by rw [Lib.cell_of_heap h]; rfl⟩
  · cases he
    exact ⟨_, _, _, _, hz, by rw [Lib.cell_of_heap h]; rfl, by rw [Lib.cell_of_heap h]; rfl, by rw [Lib.cell_of_heap h]; rfl, by rw [Lib.cell_of_heap h]; rfl, by rw [Lib.cell_of_heap h]; rfl, by rw [Lib.cell_of_heap h]; rfl⟩
  · cases he
end
theorem rising_eq {A B : List Nat} (hA : A.Pairwise (· < ·)) (hB : B.Pairwise (· < ·)) (h : ∀ x, x ∈ A ↔ x ∈ B) : A = B := by
  have nA : A.Nodup := hA.imp fun h => Nat.ne_of_lt h
  have nB : B.Nodup := hB.imp fun h => Nat.ne_of_lt h
  refine List.Perm.eq_of_pairwise (le := (· < ·)) (fun a b _ _ h1 h2 => by omega) hA hB ((List.perm_ext_iff_of_nodup nA nB).2 h)
theorem lt_cellW {w : World} {b i : Nat} {v : Value} (h : w.cell? ⟨b, i, none⟩ = some v) : b < w.heap.size := by
  obtain ⟨C, t, x, hb⟩ := block_of_cell h
  exact lt_some hb
theorem strs_take {w : World} {a : Option Addr} {c k : Nat} {K : List Bs} (h : Strs w (.slice a K.length c) K) (hk : k ≤ K.length) : Strs w (.slice a k c) (K.take k) := by
  obtain ⟨_, _, e, hc, h⟩ := h
  cases e
  have hl : (K.take k).length = k := by rw [List.length_take]; omega
  refine ⟨a, c, by rw [hl], by omega, ?_⟩
  rcases h with h | ⟨g, off, e, hg, hcell⟩
  · exact .inl (by rw [h]; simp)
  · refine .inr ⟨g, off, e, hg, fun j p hp => hcell j p ?_⟩
    have hj : j < k := by
      have := (List.getElem?_eq_some_iff.1 hp).1
      omega
    rwa [List.getElem?_take_of_lt hj] at hp

end Go.Proofs.Ytbflodefmookiaa.Gr
