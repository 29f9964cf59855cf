/-
  The law CookDeep: files that include one the other.
-/
import Derived.Test.YtgledabcfonbeaaGreatDoorCkFind
import Derived.Lib.AppendStr
namespace Go.Proofs.YtgledabcfonbeaaGreatDoor.Df
open Go.RowKit Go.Maps Go.Proofs.YtgledabcfonbeaaGreatDoor

/-! ### bytes made by a literal; a text laid behind bytes -/
theorem made_row (w : World) (b : Bs) (hl : b.length ≤ 1000000) : (w.alloc (.cells (bytesV b).toArray 5)).ownsRow w.heap.size 5 1 (.slice (some ⟨w.heap.size, 0, none⟩) b.length b.length) b.length (bytesV b) :=
  ⟨by rw [bytesV_length, Nat.mul_one], .inr ⟨w.heap.size, b.length, (bytesV b).toArray, rfl, Nat.le_refl _, heap_alloc_new _ _, Nat.le_refl _, by unfold maxLen; omega, by simp [bytesV_length], by
    have : (bytesV b).length = b.length * 1 := by rw [bytesV_length, Nat.mul_one]
    rw [← this]
    simp⟩⟩
theorem run_appS {W : World} {base : Nat} {a : Option Addr} {c : Nat} {b : Bs} (h : W.ownsRow base 5 1 (.slice a b.length c) b.length (bytesV b)) (hbase : base ≤ W.heap.size) (s : Bs) (hl : b.length + s.length ≤ 1000000) :
    ∃ a' c' W', (Builtin.append_ #[24, 9] 24 #[.slice a b.length c, .string (mk s)]).run Tryz.prog W = .ok (.slice a' (b ++ s).length c') W' ∧ W'.ownsRow base 5 1 (.slice a' (b ++ s).length c') (b ++ s).length (bytesV (b ++ s)) ∧ W.grownBy W' (Value.slice a b.length c).ownBlock := by
  obtain ⟨i0, hi, hz0, hz1, hz2⟩ := info_parts info5
  obtain ⟨v', W', hr, h2, h3, _⟩ := Lib.run_append_own_string (P := Tryz.prog) W base 24 9 24 5 i0 Tryz.underlying24 Tryz.underlying9 hi hz0 hz1 hz2 _ b.length (bytesV b) h (mk s) (by rw [mk_size]; unfold maxLen; omega) (by rw [mk_size]; omega) hbase
  have e1 : Lib.strCells (mk s) = bytesV s := strCells_mk s
  have e2 : b.length + (mk s).size = (b ++ s).length := by rw [mk_size, List.length_append]
  rw [e1, ← bytesV_app, e2] at h2
  obtain ⟨a', c', rfl⟩ := own_slice h2
  exact ⟨a', c', W', hr, h2, h3⟩

/-! ### the files, and what is made of them -/
def ch (j : Nat) : UInt8 := UInt8.ofNat (97 + j)
theorem ch_nat {j : Nat} (h : j < 100) : ((ch j).toNat : Int) = 97 + (j : Int) := by
  unfold ch
  rw [UInt8.toNat_ofNat']
  omega
def inF : Bs := [35, 105, 110, 99, 108, 117, 100, 101, 32, 102]
def fileB (n : Nat) (b : Bool) (i : Nat) : Bs := [ch i, 10] ++ (if i < n then inF ++ [ch (i + 1)] ++ [10, 46] else if b then inF ++ [97] else [])
def deepL (n : Nat) (b : Bool) : List Fl := (List.range (n + 1)).map fun i => ([102, ch i], fileB n b i)
def sDeep : Bs := [105, 110, 99, 32, 102, 97, 32, 62, 32, 111, 32, 58, 32, 111, 46, 100]
def oDeep : Cmd := ⟨false, wInc, [[102, 97]], [[111]], [111, 46, 100]⟩
def wantA (j : Nat) : Bs := (List.range j).flatMap fun i => [ch i, 10]
def wantL (n : Nat) : Bs := wantA (n + 1) ++ List.replicate n 46
def depsA (j : Nat) : Bs := [111, 58] ++ (List.range (j - 1)).flatMap fun i => [32, 102, ch (i + 1)]
def foundL (n : Nat) : List Bs := (List.range n).map fun i => [102, ch (i + 1)]
theorem read_deep : readL (words [] sDeep) = some oDeep := by kernel_rfl
theorem ed_0_true : cookL (fun x => x) (words [] sDeep) [[102, 97]] (deepL 0 true) = none := by kernel_rfl
theorem ed_0_false : cookL (fun x => x) (words [] sDeep) [[102, 97]] (deepL 0 false) = some (oDeep, (wantL 0, foundL 0)) := by kernel_rfl
theorem ep_0 : depsT oDeep (foundL 0) = depsA (0 + 1) ++ [10] := by kernel_rfl
theorem ed_1_true : cookL (fun x => x) (words [] sDeep) [[102, 97]] (deepL 1 true) = none := by kernel_rfl
theorem ed_1_false : cookL (fun x => x) (words [] sDeep) [[102, 97]] (deepL 1 false) = some (oDeep, (wantL 1, foundL 1)) := by kernel_rfl
theorem ep_1 : depsT oDeep (foundL 1) = depsA (1 + 1) ++ [10] := by kernel_rfl
theorem ed_2_true : cookL (fun x => x) (words [] sDeep) [[102, 97]] (deepL 2 true) = none := by kernel_rfl
theorem ed_2_false : cookL (fun x => x) (words [] sDeep) [[102, 97]] (deepL 2 false) = some (oDeep, (wantL 2, foundL 2)) := by kernel_rfl
theorem ep_2 : depsT oDeep (foundL 2) = depsA (2 + 1) ++ [10] := by kernel_rfl
theorem ed_3_true : cookL (fun x => x) (words [] sDeep) [[102, 97]] (deepL 3 true) = none := by kernel_rfl
theorem ed_3_false : cookL (fun x => x) (words [] sDeep) [[102, 97]] (deepL 3 false) = some (oDeep, (wantL 3, foundL 3)) := by kernel_rfl
theorem ep_3 : depsT oDeep (foundL 3) = depsA (3 + 1) ++ [10] := by kernel_rfl
theorem ed_4_true : cookL (fun x => x) (words [] sDeep) [[102, 97]] (deepL 4 true) = none := by kernel_rfl
theorem ed_4_false : cookL (fun x => x) (words [] sDeep) [[102, 97]] (deepL 4 false) = some (oDeep, (wantL 4, foundL 4)) := by kernel_rfl
theorem ep_4 : depsT oDeep (foundL 4) = depsA (4 + 1) ++ [10] := by kernel_rfl
theorem ed_5_true : cookL (fun x => x) (words [] sDeep) [[102, 97]] (deepL 5 true) = none := by kernel_rfl
theorem ed_5_false : cookL (fun x => x) (words [] sDeep) [[102, 97]] (deepL 5 false) = some (oDeep, (wantL 5, foundL 5)) := by kernel_rfl
theorem ep_5 : depsT oDeep (foundL 5) = depsA (5 + 1) ++ [10] := by kernel_rfl
theorem ed_6_true : cookL (fun x => x) (words [] sDeep) [[102, 97]] (deepL 6 true) = none := by kernel_rfl
theorem ed_6_false : cookL (fun x => x) (words [] sDeep) [[102, 97]] (deepL 6 false) = some (oDeep, (wantL 6, foundL 6)) := by kernel_rfl
theorem ep_6 : depsT oDeep (foundL 6) = depsA (6 + 1) ++ [10] := by kernel_rfl
theorem ed_7_true : cookL (fun x => x) (words [] sDeep) [[102, 97]] (deepL 7 true) = none := by kernel_rfl
theorem ed_7_false : cookL (fun x => x) (words [] sDeep) [[102, 97]] (deepL 7 false) = some (oDeep, (wantL 7, foundL 7)) := by kernel_rfl
theorem ep_7 : depsT oDeep (foundL 7) = depsA (7 + 1) ++ [10] := by kernel_rfl
theorem ed_8_true : cookL (fun x => x) (words [] sDeep) [[102, 97]] (deepL 8 true) = none := by kernel_rfl
theorem ed_8_false : cookL (fun x => x) (words [] sDeep) [[102, 97]] (deepL 8 false) = some (oDeep, (wantL 8, foundL 8)) := by kernel_rfl
theorem ep_8 : depsT oDeep (foundL 8) = depsA (8 + 1) ++ [10] := by kernel_rfl
theorem ed_9_true : cookL (fun x => x) (words [] sDeep) [[102, 97]] (deepL 9 true) = none := by kernel_rfl
theorem ed_9_false : cookL (fun x => x) (words [] sDeep) [[102, 97]] (deepL 9 false) = some (oDeep, (wantL 9, foundL 9)) := by kernel_rfl
theorem ep_9 : depsT oDeep (foundL 9) = depsA (9 + 1) ++ [10] := by kernel_rfl
theorem ed_10_true : cookL (fun x => x) (words [] sDeep) [[102, 97]] (deepL 10 true) = none := by kernel_rfl
theorem ed_10_false : cookL (fun x => x) (words [] sDeep) [[102, 97]] (deepL 10 false) = some (oDeep, (wantL 10, foundL 10)) := by kernel_rfl
theorem ep_10 : depsT oDeep (foundL 10) = depsA (10 + 1) ++ [10] := by kernel_rfl
theorem ed_11_true : cookL (fun x => x) (words [] sDeep) [[102, 97]] (deepL 11 true) = none := by kernel_rfl
theorem ed_11_false : cookL (fun x => x) (words [] sDeep) [[102, 97]] (deepL 11 false) = none := by kernel_rfl
theorem ep_11 : depsT oDeep (foundL 11) = depsA (11 + 1) ++ [10] := by kernel_rfl
theorem ed_12_true : cookL (fun x => x) (words [] sDeep) [[102, 97]] (deepL 12 true) = none := by kernel_rfl
theorem ed_12_false : cookL (fun x => x) (words [] sDeep) [[102, 97]] (deepL 12 false) = none := by kernel_rfl
theorem ep_12 : depsT oDeep (foundL 12) = depsA (12 + 1) ++ [10] := by kernel_rfl
theorem ed_13_true : cookL (fun x => x) (words [] sDeep) [[102, 97]] (deepL 13 true) = none := by kernel_rfl
theorem ed_13_false : cookL (fun x => x) (words [] sDeep) [[102, 97]] (deepL 13 false) = none := by kernel_rfl
theorem ep_13 : depsT oDeep (foundL 13) = depsA (13 + 1) ++ [10] := by kernel_rfl
theorem eval_deep {n : Nat} (hn : n < 14) (b : Bool) : cookL (fun x => x) (words [] sDeep) [[102, 97]] (deepL n b) = if (b || decide (10 < n)) = true then none else some (oDeep, (wantL n, foundL n)) := by
  have : n = 0 ∨ n = 1 ∨ n = 2 ∨ n = 3 ∨ n = 4 ∨ n = 5 ∨ n = 6 ∨ n = 7 ∨ n = 8 ∨ n = 9 ∨ n = 10 ∨ n = 11 ∨ n = 12 ∨ n = 13 := by omega
  clear hn
  rcases this with rfl | rfl | rfl | rfl | rfl | rfl | rfl | rfl | rfl | rfl | rfl | rfl | rfl | rfl
  · cases b
    · exact ed_0_false
    · exact ed_0_true
  · cases b
    · exact ed_1_false
    · exact ed_1_true
  · cases b
    · exact ed_2_false
    · exact ed_2_true
  · cases b
    · exact ed_3_false
    · exact ed_3_true
  · cases b
    · exact ed_4_false
    · exact ed_4_true
  · cases b
    · exact ed_5_false
    · exact ed_5_true
  · cases b
    · exact ed_6_false
    · exact ed_6_true
  · cases b
    · exact ed_7_false
    · exact ed_7_true
  · cases b
    · exact ed_8_false
    · exact ed_8_true
  · cases b
    · exact ed_9_false
    · exact ed_9_true
  · cases b
    · exact ed_10_false
    · exact ed_10_true
  · cases b
    · exact ed_11_false
    · exact ed_11_true
  · cases b
    · exact ed_12_false
    · exact ed_12_true
  · cases b
    · exact ed_13_false
    · exact ed_13_true
theorem eval_deps2 {n : Nat} (hn : n < 14) : depsT oDeep (foundL n) = depsA (n + 1) ++ [10] := by
  have : n = 0 ∨ n = 1 ∨ n = 2 ∨ n = 3 ∨ n = 4 ∨ n = 5 ∨ n = 6 ∨ n = 7 ∨ n = 8 ∨ n = 9 ∨ n = 10 ∨ n = 11 ∨ n = 12 ∨ n = 13 := by omega
  clear hn
  rcases this with rfl | rfl | rfl | rfl | rfl | rfl | rfl | rfl | rfl | rfl | rfl | rfl | rfl | rfl
  · exact ep_0
  · exact ep_1
  · exact ep_2
  · exact ep_3
  · exact ep_4
  · exact ep_5
  · exact ep_6
  · exact ep_7
  · exact ep_8
  · exact ep_9
  · exact ep_10
  · exact ep_11
  · exact ep_12
  · exact ep_13
end Go.Proofs.YtgledabcfonbeaaGreatDoor.Df
