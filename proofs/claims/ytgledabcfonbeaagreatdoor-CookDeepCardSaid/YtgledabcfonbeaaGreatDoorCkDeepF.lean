/-
  CookDeep's first loop: one file more.
-/
import Derived.Test.YtgledabcfonbeaaGreatDoorCkDeepM
namespace Go.Proofs.YtgledabcfonbeaaGreatDoor.Df
open Go.RowKit Go.Maps Go.Proofs.YtgledabcfonbeaaGreatDoor

theorem deepL_at {n j : Nat} {b : Bool} (h : j ≤ n) : (deepL n b)[j]? = some ([102, ch j], fileB n b j) := by
  unfold deepL
  rw [List.getElem?_map, List.getElem?_range (by omega)]
  rfl
theorem deepL_length (n : Nat) (b : Bool) : (deepL n b).length = n + 1 := by simp [deepL]
theorem fileB_len (n : Nat) (b : Bool) (j : Nat) : (fileB n b j).length ≤ 20 := by
  unfold fileB inF
  split
  · simp
  · split <;> simp
theorem two_cells {j : Nat} (h : j < 50) : (bytesV [ch j, 10]).toArray = #[.int .u8 (97 + (j : Int)), .int .u8 10] := by
  unfold bytesV
  simp only [List.map_cons, List.map_nil]
  rw [ch_nat (by omega)]
  rfl
theorem one_cells {j : Nat} (h : j < 50) : (bytesV [ch j]).toArray = #[.int .u8 (97 + (j : Int))] := by
  unfold bytesV
  simp only [List.map_cons, List.map_nil]
  rw [ch_nat (by omega)]
theorem letter {w : World} {j : Nat} (h : j < 50) : (convert 24 9 (.slice (some ⟨w.heap.size, 0, none⟩) 1 1)).run Tryz.prog (w.alloc (.cells #[.int .u8 (97 + (j : Int))] 5)) = .ok (.string (mk [ch j])) (w.alloc (.cells #[.int .u8 (97 + (j : Int))] 5)) :=
  conv_byt (byt_block (r := [ch j]) (heap_alloc_new _ _) (by rw [← one_cells h]) rfl (Nat.le_refl _))
theorem letter10 {w : World} {j : Nat} (h : j < 50) : (convert 24 9 (.slice (some ⟨w.heap.size, 0, none⟩) 2 2)).run Tryz.prog (w.alloc (.cells #[.int .u8 (97 + (j : Int)), .int .u8 10] 5)) = .ok (.string (mk [ch j, 10])) (w.alloc (.cells #[.int .u8 (97 + (j : Int)), .int .u8 10] 5)) :=
  conv_byt (byt_block (r := [ch j, 10]) (heap_alloc_new _ _) (by rw [← two_cells h]) rfl (Nat.le_refl _))
theorem made2 {w : World} {j : Nat} (h : j < 50) : (w.alloc (.cells #[.int .u8 (97 + (j : Int)), .int .u8 10] 5)).ownsRow w.heap.size 5 1 (.slice (some ⟨w.heap.size, 0, none⟩) ([ch j, 10] : Bs).length 2) ([ch j, 10] : Bs).length (bytesV [ch j, 10]) := by
  rw [← two_cells h]
  exact made_row w [ch j, 10] (by simp)
/-- a text that two were joined to -/
theorem cat_small (a b : Bs) : mk a ++ mk b = mk (a ++ b) := mk_append a b

theorem deepL_small {n : Nat} {b : Bool} {x : Fl} (h : x ∈ deepL n b) : x.1.length ≤ 20 ∧ x.2.length ≤ 20 := by
  unfold deepL at h
  obtain ⟨i, -, rfl⟩ := List.mem_map.1 h
  exact ⟨by simp, fileB_len _ _ _⟩
theorem wantA_succ (j : Nat) : wantA (j + 1) = wantA j ++ [ch j, 10] := by
  unfold wantA
  rw [List.range_succ, List.flatMap_append]
  rfl
theorem wantA_len : ∀ j : Nat, (wantA j).length ≤ 2 * j
  | 0 => Nat.le_refl _
  | j + 1 => by
    rw [wantA_succ, List.length_append]
    have := wantA_len j
    simp only [List.length_cons, List.length_nil]
    omega
theorem depsA_succ {j : Nat} (h : 0 < j) : depsA (j + 1) = depsA j ++ [32, 102, ch j] := by
  obtain ⟨k, rfl⟩ : ∃ k, j = k + 1 := ⟨j - 1, by omega⟩
  unfold depsA
  rw [show k + 1 + 1 - 1 = k + 1 from rfl, show k + 1 - 1 = k from rfl, List.range_succ, List.flatMap_append, ← List.append_assoc]
  rfl
theorem depsA_len : ∀ j : Nat, (depsA j).length ≤ 2 + 3 * j
  | 0 => by decide
  | 1 => by decide
  | j + 2 => by
    have h1 := depsA_succ (j := j + 1) (Nat.succ_pos j)
    have h2 : j + 1 + 1 = j + 2 := rfl
    rw [h2] at h1
    have := depsA_len (j + 1)
    rw [h1, List.length_append]
    simp only [List.length_cons, List.length_nil]
    omega

/-- one file more -/
theorem deep_step {w wr W2 : World} {n j : Nat} {b : Bool} {LL : List (Bs × Value)} {oa : Option Addr} {oc : Nat} {ba : Option Addr} {bc : Nat} (hn : n < 14) (hj : j ≤ n) (hLL : LL.length = j) (HO : wr.ownsRow w.heap.size 52 2 (.slice oa LL.length oc) LL.length (fcells LL))
    (HAT : ∀ (k : Nat) x, k < j → (deepL n b)[k]? = some x → ∃ u, LL[k]? = some (x.1, u) ∧ wr.ownsRow w.heap.size 5 1 u x.2.length (bytesV x.2)) (HB : Below w.heap.size w wr) (h2 : Below wr.heap.size wr W2)
    (ho : W2.ownsRow wr.heap.size 5 1 (.slice ba (fileB n b j).length bc) (fileB n b j).length (bytesV (fileB n b j))) :
    ∃ a9 c9 W3 W4 W5 L1, W2.alloc (.cells #[.int .u8 (97 + (j : Int))] 5) = W3 ∧ (convert 24 9 (.slice (some ⟨W2.heap.size, 0, none⟩) 1 1)).run Tryz.prog W3 = .ok (.string (mk [ch j])) W3 ∧ W3.alloc (.cells #[.string (mk [102, ch j]), .slice ba (fileB n b j).length bc] 52) = W4 ∧
      (Builtin.append_ #[27, 27] 27 #[.slice oa LL.length oc, .slice (some ⟨W3.heap.size, 0, none⟩) 1 1]).run Tryz.prog W4 = .ok (.slice a9 L1.length c9) W5 ∧ L1.length = j + 1 ∧
      W5.ownsRow w.heap.size 52 2 (.slice a9 L1.length c9) L1.length (fcells L1) ∧ (∀ (k : Nat) x, k < j + 1 → (deepL n b)[k]? = some x → ∃ u, L1[k]? = some (x.1, u) ∧ W5.ownsRow w.heap.size 5 1 u x.2.length (bytesV x.2)) ∧ Below w.heap.size w W5 := by
  obtain ⟨W3, hW3⟩ : ∃ W, W2.alloc (.cells #[.int .u8 (97 + (j : Int))] 5) = W := ⟨_, rfl⟩
  have b3 : Below W2.heap.size W2 W3 := by rw [← hW3]; exact below_alloc _ _
  have hb1 := h2.trans (b3.mono h2.size)
  have hF1 := owns_below HO hb1
  obtain ⟨a9, c9, W5, hrun2, hF2, hg2⟩ := run_appF hF1 (Nat.le_trans HB.size hb1.size) (by omega) [102, ch j] (ba := ba) (bn := (fileB n b j).length) (bc := bc)
  have hA2 := below_alloc W3 (.cells #[.string (mk [102, ch j]), .slice ba (fileB n b j).length bc] 52)
  have hown : ∀ g, (Value.slice oa LL.length oc).ownBlock = some g → w.heap.size ≤ g ∧ ∃ cur, (W3.alloc (.cells #[.string (mk [102, ch j]), .slice ba (fileB n b j).length bc] 52)).heap[g]? = some (Obj.cells cur 52 (0, 0)) := fun g hg => owns_block (owns_below hF1 hA2) hg
  have hK2 : Kp [52] W3 W5 := (Kp.of_below hA2).trans (Kp.of_grown hg2 (fun g hg => by
    obtain ⟨_, cur, hc⟩ := hown g hg
    exact ⟨cur, _, hc⟩) (by decide))
  have hB2 : Below w.heap.size w W5 := by
    have h1 := (HB.trans (hb1.mono HB.size)).trans (hA2.mono (Nat.le_trans HB.size hb1.size))
    exact h1.trans ⟨hg2.os, hg2.tape, hg2.output, hg2.size, fun q hq => hg2.block q (Nat.lt_of_lt_of_le hq h1.size) (fun e => by
      have := (hown q e.symm).1
      omega)⟩
  refine ⟨a9, c9, W3, _, W5, _, hW3, ?_, rfl, hrun2, by simp [hLL], hF2, fun k y hk hy => ?_, hB2⟩
  · rw [← hW3]; exact letter (by omega)
  · by_cases hkj : k < j
    · obtain ⟨u, hu, ho2⟩ := HAT k y hkj hy
      refine ⟨u, by rw [List.getElem?_append_left (by omega)]; exact hu, ?_⟩
      exact owns_kept (owns_below ho2 hb1) fun g hg => by
        obtain ⟨_, cur, hc⟩ := owns_block (owns_below ho2 hb1) hg
        exact (hK2.keep _ _ hc (fun C t f e => by cases e; decide)).trans hc.symm
    · obtain rfl : k = j := by omega
      rw [deepL_at hj] at hy
      cases hy
      refine ⟨_, by rw [List.getElem?_append_right (by omega), hLL, Nat.sub_self]; rfl, ?_⟩
      have ho2 := owns_lower (owns_below ho b3) (show w.heap.size ≤ wr.heap.size from HB.size)
      exact owns_kept ho2 fun g hg => by
        obtain ⟨_, cur, hc⟩ := owns_block ho2 hg
        exact (hK2.keep _ _ hc (fun C t f e => by cases e; decide)).trans hc.symm

/-- the bytes of a file that includes the next -/
theorem deep_next {wr : World} {n j : Nat} {b : Bool} (hn : n < 14) (hj : j < n) : ∃ a' c' W0 W1 W2 q s1,
    wr.alloc (.cells #[.int .u8 (97 + (j : Int)), .int .u8 10] 5) = W0 ∧ W0.alloc (.cells #[.int .u8 (97 + (j : Int) + 1)] 5) = W1 ∧
    (convert 24 9 (.slice (some ⟨W0.heap.size, 0, none⟩) 1 1)).run Tryz.prog W1 = .ok (.string (mk q)) W1 ∧ (⟨#[35, 105, 110, 99, 108, 117, 100, 101, 32, 102]⟩ : ByteArray) ++ mk q = mk (inF ++ q) ∧ mk (inF ++ q) ++ ⟨#[10, 46]⟩ = mk s1 ∧ q.length = 1 ∧ s1.length = 13 ∧
    (Builtin.append_ #[24, 9] 24 #[.slice (some ⟨wr.heap.size, 0, none⟩) 2 2, .string (mk s1)]).run Tryz.prog W1 = .ok (.slice a' (fileB n b j).length c') W2 ∧ W2.ownsRow wr.heap.size 5 1 (.slice a' (fileB n b j).length c') (fileB n b j).length (bytesV (fileB n b j)) ∧ Below wr.heap.size wr W2 := by
  have h1 : wr.heap.size ≤ (wr.alloc (.cells #[.int .u8 (97 + (j : Int)), .int .u8 10] 5)).heap.size := (below_alloc _ _).size
  have hA := below_alloc (wr.alloc (.cells #[.int .u8 (97 + (j : Int)), .int .u8 10] 5)) (.cells #[.int .u8 (97 + (j : Int) + 1)] 5)
  have hx : 97 + (j : Int) + 1 = 97 + ((j + 1 : Nat) : Int) := by omega
  have ho := owns_below (made2 (w := wr) (j := j) (by omega)) hA
  obtain ⟨a', c', W2, hr, ho2, hg2⟩ := run_appS ho (Nat.le_trans h1 hA.size) (inF ++ [ch (j + 1)] ++ [10, 46]) (by simp [inF])
  have e : [ch j, 10] ++ (inF ++ [ch (j + 1)] ++ [10, 46]) = fileB n b j := by unfold fileB; rw [if_pos hj]
  rw [e] at hr ho2
  refine ⟨a', c', _, _, W2, [ch (j + 1)], inF ++ [ch (j + 1)] ++ [10, 46], rfl, rfl, by rw [hx]; exact letter (by omega), mk_append inF _, mk_append _ [10, 46], rfl, by simp [inF], hr, ho2, ?_⟩
  have h0 := (below_alloc wr (.cells #[.int .u8 (97 + (j : Int)), .int .u8 10] 5)).trans (hA.mono h1)
  exact h0.trans ⟨hg2.os, hg2.tape, hg2.output, hg2.size, fun q hq => hg2.block q (Nat.lt_of_lt_of_le hq h0.size) (fun e => by
    have e2 : q = wr.heap.size := Option.some.inj e
    omega)⟩
/-- the bytes of the last, that includes the first -/
theorem deep_last {wr : World} {n : Nat} (hn : n < 14) : ∃ a' c' W0 W2,
    wr.alloc (.cells #[.int .u8 (97 + (n : Int)), .int .u8 10] 5) = W0 ∧
    (Builtin.append_ #[24, 9] 24 #[.slice (some ⟨wr.heap.size, 0, none⟩) 2 2, .string ⟨#[35, 105, 110, 99, 108, 117, 100, 101, 32, 102, 97]⟩]).run Tryz.prog W0 = .ok (.slice a' (fileB n true n).length c') W2 ∧ W2.ownsRow wr.heap.size 5 1 (.slice a' (fileB n true n).length c') (fileB n true n).length (bytesV (fileB n true n)) ∧ Below wr.heap.size wr W2 := by
  have h0 := below_alloc wr (.cells #[.int .u8 (97 + (n : Int)), .int .u8 10] 5)
  have ho := made2 (w := wr) (j := n) (by omega)
  obtain ⟨a', c', W2, hr, ho2, hg2⟩ := run_appS ho h0.size (inF ++ [97]) (by simp [inF])
  have e : [ch n, 10] ++ (inF ++ [97]) = fileB n true n := by unfold fileB; rw [if_neg (Nat.lt_irrefl _), if_pos rfl]
  rw [e] at hr ho2
  refine ⟨a', c', _, W2, rfl, hr, ho2, ?_⟩
  exact h0.trans ⟨hg2.os, hg2.tape, hg2.output, hg2.size, fun q hq => hg2.block q (Nat.lt_of_lt_of_le hq h0.size) (fun e => by
    have e2 : q = wr.heap.size := Option.some.inj e
    omega)⟩
/-- the bytes of the last, that includes none -/
theorem deep_plain {wr : World} {n : Nat} (hn : n < 14) : ∃ W0, wr.alloc (.cells #[.int .u8 (97 + (n : Int)), .int .u8 10] 5) = W0 ∧ W0.ownsRow wr.heap.size 5 1 (.slice (some ⟨wr.heap.size, 0, none⟩) (fileB n false n).length 2) (fileB n false n).length (bytesV (fileB n false n)) ∧ Below wr.heap.size wr W0 ∧ (fileB n false n).length = 2 := by
  have e : fileB n false n = [ch n, 10] := by
    unfold fileB
    rw [if_neg (Nat.lt_irrefl _)]
    rfl
  rw [e]
  exact ⟨_, rfl, made2 (by omega), below_alloc _ _, rfl⟩
end Go.Proofs.YtgledabcfonbeaaGreatDoor.Df
