/-
  THE ROWS OF A TEXT: strings.Split at the ends of lines.
-/
import Derived.Test.YtbohnjiachnadaaDoorLdLines
namespace Go.Proofs.YtbohnjiachnadaaDoor.Lx
open Go.RowKit

def cutK : Nat → Bs → List Bs
  | 0, s => [s]
  | k + 1, s => if (10 : UInt8) ∈ s then s.takeWhile (· != 10) :: cutK k ((s.dropWhile (· != 10)).drop 1) else [s]
def rowsOf (s : Bs) : List Bs := cutK (s.count 10) s

theorem idx_hit : ∀ s : Bs, (10 : UInt8) ∈ s → Lib.indexByte s 10 = ((s.takeWhile (· != 10)).length : Int)
  | [], h => by cases h
  | c :: r, h => by
    unfold Lib.indexByte
    by_cases hc : c = 10
    · subst hc; simp
    · have hr : (10 : UInt8) ∈ r := by
        rcases List.mem_cons.1 h with e | e
        · exact absurd e.symm hc
        · exact e
      have ih := idx_hit r hr
      have e1 : (c == (10 : UInt8)) = false := by simpa using hc
      have e2 : (c != (10 : UInt8)) = true := by simpa using hc
      rw [e1, if_neg (by decide), ih, List.takeWhile_cons, if_pos e2]
      have e3 : (((r.takeWhile (· != 10)).length : Int) == -1) = false := by rw [beq_eq_false_iff_ne]; omega
      rw [e3, if_neg (by decide), List.length_cons]
      omega
theorem idx_miss : ∀ s : Bs, (10 : UInt8) ∉ s → Lib.indexByte s 10 = -1
  | [], _ => rfl
  | c :: r, h => by
    unfold Lib.indexByte
    have hc : c ≠ 10 := fun e => h (by rw [e]; exact List.mem_cons_self)
    have e1 : (c == (10 : UInt8)) = false := by simpa using hc
    rw [e1, if_neg (by decide), idx_miss r (fun e => h (List.mem_cons_of_mem _ e))]
    rfl

theorem take_tw (s : Bs) : s.take (s.takeWhile (· != 10)).length = s.takeWhile (· != (10 : UInt8)) := by
  conv => lhs; arg 2; rw [← List.takeWhile_append_dropWhile (p := (· != (10 : UInt8))) (l := s)]
  rw [List.take_left' rfl]
theorem drop_tw (s : Bs) : s.drop ((s.takeWhile (· != 10)).length + 1) = (s.dropWhile (· != (10 : UInt8))).drop 1 := by
  rw [← List.drop_drop]
  congr 1
  conv => lhs; arg 2; rw [← List.takeWhile_append_dropWhile (p := (· != (10 : UInt8))) (l := s)]
  rw [List.drop_left' rfl]

theorem splitB_rows : ∀ (k : Nat) (s : Bs), Lib.splitB nl1 0 k (mk s) = (cutK k s).map mk
  | 0, s => rfl
  | k + 1, s => by
    have hI : Lib.indexB (mk s) nl1 = Lib.indexByte s 10 := by
      show Lib.index (mk s).data.toList [10] = _
      rw [mk_bytes, Lib.index_one]
    by_cases h : (10 : UInt8) ∈ s
    · have h1 := idx_hit s h
      rw [Lib.splitB_hit nl1 0 k (mk s) (s.takeWhile (· != 10)).length (hI.trans h1)]
      have e1 : (mk s).extract 0 ((s.takeWhile (· != 10)).length + 0) = mk (s.takeWhile (· != 10)) := by
        rw [mk_extract, List.drop_zero, Nat.add_zero, Nat.sub_zero, take_tw]
      have e2 : (mk s).extract ((s.takeWhile (· != 10)).length + nl1.size) (mk s).size = mk ((s.dropWhile (· != 10)).drop 1) := by
        rw [mk_extract, mk_size, List.take_of_length_le (by rw [List.length_drop]; exact Nat.le_refl _)]
        exact congrArg mk (drop_tw s)
      rw [e1, e2, splitB_rows k]
      show _ = (if (10 : UInt8) ∈ s then _ else _ : List Bs).map mk
      rw [if_pos h]
      rfl
    · rw [Lib.splitB_miss nl1 0 _ (mk s) (hI.trans (idx_miss s h))]
      show _ = (if (10 : UInt8) ∈ s then _ else _ : List Bs).map mk
      rw [if_neg h]
      rfl

theorem cutK_le : ∀ (k : Nat) (s r : Bs), r ∈ cutK k s → r.length ≤ s.length
  | 0, s, r, h => by rw [List.mem_singleton.1 h]; exact Nat.le_refl _
  | k + 1, s, r, h => by
    unfold cutK at h
    split at h
    · rcases List.mem_cons.1 h with rfl | h
      · exact (List.takeWhile_sublist _).length_le
      · refine Nat.le_trans (cutK_le k _ r h) ?_
        rw [List.length_drop]
        exact Nat.le_trans (Nat.sub_le _ _) (List.dropWhile_sublist _).length_le
    · rw [List.mem_singleton.1 h]; exact Nat.le_refl _
theorem rows_le {s r : Bs} (h : r ∈ rowsOf s) : r.length ≤ s.length := cutK_le _ s r h

theorem cutK_cons (k : Nat) {a r : Bs} (h : (10 : UInt8) ∉ a) : cutK (k + 1) (a ++ 10 :: r) = a :: cutK k r := by
  have hp : ∀ x ∈ a, (x != (10 : UInt8)) = true := fun x hx => by
    have : x ≠ 10 := fun e => h (e ▸ hx)
    simpa using this
  have e1 : (a ++ 10 :: r).takeWhile (· != (10 : UInt8)) = a := by
    rw [List.takeWhile_append_of_pos hp]; simp
  have e2 : (a ++ 10 :: r).dropWhile (· != (10 : UInt8)) = 10 :: r := by
    rw [List.dropWhile_append_of_pos hp]; simp
  conv => lhs; unfold cutK
  rw [if_pos (by simp), e1, e2]
  rfl
theorem rows_cons {a r : Bs} (h : (10 : UInt8) ∉ a) : rowsOf (a ++ 10 :: r) = a :: rowsOf r := by
  unfold rowsOf
  rw [List.count_append, List.count_eq_zero.2 h, Nat.zero_add, List.count_cons_self, cutK_cons _ h]
theorem rows_last {a : Bs} (h : (10 : UInt8) ∉ a) : rowsOf a = [a] := by
  unfold rowsOf
  rw [List.count_eq_zero.2 h]
  rfl
theorem countB_eq (s : Bs) : Lib.countB (mk s) nl1 = s.count 10 := by
  show Lib.count (mk s).data.toList [10] = _
  rw [mk_bytes, Lib.count_one]

theorem rows_length (s : Bs) : (rowsOf s).length = s.count 10 + 1 := by
  have h := Lib.splitB_all nl1 (by decide) 0 (s.count 10) (mk s) (countB_eq s)
  rw [splitB_rows, List.length_map] at h
  exact h

theorem strV_map (K : List Bs) : strV K = (K.map mk).map Value.string := by simp [strV]

set_option maxHeartbeats 2000000 in
theorem split_c (s : Bs) (hs : s.length ≤ 100000) (w : World) : Calls Tryd.prog 10 #[.string (mk s), .string nl1] w fun e w' => e = .returned (.slice (some ⟨w.heap.size, 0, none⟩) (rowsOf s).length (rowsOf s).length) ∧ w' = w.alloc (.cells (strV (rowsOf s)).toArray 9) := by
  have hz := mk_size s
  have hc : s.count 10 ≤ s.length := List.count_le_length
  have hg := Any.strings_genSplit_core shlays221 info9 (mk s) nl1 0 (-1) (s.count 10 + 1) w (by omega) (by decide) (Nat.zero_le _)
    (fun x c hx => (shstringsIndexone x 10 _).mono fun e w' ⟨h1, h2⟩ => ⟨by rw [h1]; show _ = Ending.returned (Value.int .i64 (Lib.index x.data.toList [10])); rw [Lib.index_one], h2⟩)
    ((shstringsCountone (mk s) 10 w).mono fun e w' ⟨h1, h2⟩ => ⟨by rw [h1]; show _ = Ending.returned (Value.int .i64 ((Lib.count (mk s).data.toList [10] : Nat) : Int)); rw [Lib.count_one]; rfl, h2⟩)
    (by decide) (by decide) (by rw [if_pos (by decide), countB_eq]; omega)
  have hle := rows_length s
  rw [Nat.add_sub_cancel, splitB_rows] at hg
  change Calls _ _ _ _ (fun e w' => e = .returned (.slice (some ⟨w.heap.size, 0, none⟩) ((rowsOf s).map mk).length (s.count 10 + 1)) ∧ w' = w.alloc (.cells (Lib.cellsOf ((rowsOf s).map mk) (s.count 10 + 1)) _)) at hg
  have e2 : Lib.cellsOf ((rowsOf s).map mk) (s.count 10 + 1) = (strV (rowsOf s)).toArray := by
    rw [← hle, ← List.length_map (f := mk), Lib.cellsOf_full, ← strV_map]
  rw [List.length_map, e2, ← hle] at hg
  clear hle e2
  generalize strV (rowsOf s) = vs at *
  generalize (rowsOf s).length = n at *
  go_enter Tryd.func10, Tryd.ntmps10
  go_wp2_with fail
  refine hg.mono ?_
  rintro e w1 ⟨rfl, rfl⟩
  go_wp2
  go_ret
  exact ⟨rfl, rfl⟩
end Go.Proofs.YtbohnjiachnadaaDoor.Lx
