/-
  THE DOCUMENT's OWN NUMBERS, WALKED.
-/
import Derived.Test.YtdgfnhgkncfmpaaPkMeth
namespace Go.Proofs.Ytdgfnhgkncfmpaa.Pk
open Go.RowKit

theorem num_drop {t : List Nat} {j : Nat} (h : j < t.length) : num (t.drop j) = t.getD j 0 + 256 * num (t.drop (j + 1)) := by
  rw [List.drop_eq_getElem_cons h]
  simp [num, List.getD, h]

theorem value_some (g off c : Nat) (t : List Nat) (w : World) (ht : ∀ n ∈ t, n < 256) (hlen : t.length ≤ 8) (hcell : ∀ i, i < t.length → w.cell? ⟨g, off + i, none⟩ = some (.int .u8 ((t.getD i 0 : Nat) : Int))) :
    Calls Try.prog 64 #[.slice (some ⟨g, off, none⟩) t.length c] w fun e w' => e = .returned (.int .u64 (num t : Int)) ∧ w = w' := by
  have HC := Lib.hid hcell
  clear hcell
  go_enter Try.func64, Try.ntmps64
  go_wp2_with fail
  go_loop [3, 4] (fun v i => ∃ k : Nat, k ≤ t.length ∧ i = .int .i64 ((k : Int) - 1) ∧ v = .int .u64 ((num (t.drop k) : Nat) : Int)) (fun _ i => (intOf i + 1).toNat)
  case atStart => exact ⟨t.length, Nat.le_refl _, rfl, by simp [num]⟩
  case round =>
    obtain ⟨k, hk, rfl, rfl⟩ := hrel
    cases k with
    | zero =>
      rw [List.drop_zero]
      go_wp2_with fail
      go_ret
      exact ⟨rfl, rfl⟩
    | succ j =>
      rw [show ((j + 1 : Nat) : Int) - 1 = (j : Int) from by omega]
      have hj : j < t.length := by omega
      have hcell := HC.out j hj
      have hx := getD_lt ht j
      have hd := num_drop hj
      have hn := num_lt (t.drop (j + 1)) (drop_lt ht _)
      have hn2 : num (t.drop (j + 1)) < 72057594037927936 := by
        refine Nat.lt_of_lt_of_le hn ?_
        rw [List.length_drop]
        exact Nat.le_trans (Nat.pow_le_pow_right (n := 2) (by omega) (show 8 * (t.length - (j + 1)) ≤ 56 by omega)) (by decide)
      generalize num (t.drop (j + 1)) = n at *
      generalize t.getD j 0 = x at *
      have HD := Lib.hid hd
      clear hd hn
      go_wp2_with fail
      go_round
      case rel => exact ⟨j, by omega, by first | rfl | go_num, val_eq (by rw [HD.out]; omega)⟩
      case measure => simp [intOf]

/-- a slice's value whose cells lie in block g; an empty one wherever -/
def RowE (w : World) (g : Nat) (v : Value) (l : List Nat) : Prop :=
  (∃ a c, v = .slice a 0 c ∧ l = []) ∨
  ∃ off c, v = .slice (some ⟨g, off, none⟩) l.length c ∧ ∀ i, i < l.length → w.cell? ⟨g, off + i, none⟩ = some (.int .u8 ((l.getD i 0 : Nat) : Int))

theorem value_any (g : Nat) (v : Value) (t : List Nat) (w : World) (ht : ∀ n ∈ t, n < 256) (hlen : t.length ≤ 8) (hv : RowE w g v t) :
    Calls Try.prog 64 #[v] w fun e w' => e = .returned (.int .u64 (num t : Int)) ∧ w = w' := by
  rcases hv with ⟨a, c, rfl, rfl⟩ | ⟨off, c, rfl, hcell⟩
  · go_enter Try.func64, Try.ntmps64
    go_wp2_with fail
    refine wp_loop_rounds 1 ?_
    rw [rounds_succ]
    go_wp2_with fail
    go_ret
    exact ⟨rfl, rfl⟩
  · exact value_some g off c t w ht hlen hcell

theorem byte_one (x : Nat) : #[Value.int IntKind.u8 ((x : Int) % 256)] = (([x % 256] : List Nat).map fun (n : Nat) => Value.int .u8 (n : Int)).toArray := by simp

theorem refnum_any (N m : Nat) (w : World) (hN : N < 18446744073709551616) (hm : m ≤ 8) :
    Calls Try.prog 58 #[.int .u64 (N : Int), .int .i64 (m : Int)] w fun e w' => Owned w.heap.size (le N m) w e w' := by
  go_enter Try.func58, Try.ntmps58
  go_wp2_with fail
  go_loopw [0, 5, 6] (fun v s i wr => ∃ k : Nat, k ≤ m ∧ i = .int .i64 k ∧ v = .int .u64 ((N / 2 ^ (8 * k) : Nat) : Int) ∧ ∃ a' n' c', s = .slice a' n' c' ∧ wr.ownsRow w.heap.size 5 1 (.slice a' n' c') n' (bytesV (le N k)) ∧ n' ≤ k ∧ Below w.heap.size w wr) (fun _ _ i _ => m - (intOf i).toNat)
  case atStart => exact ⟨0, by omega, rfl, by simp, none, 0, 0, rfl, World.ownsRow_nil _ _ _ _, by omega, Below.refl _ _⟩
  case round =>
    obtain ⟨k, hk, rfl, rfl, a', n', c', rfl, hown, hle, hnx⟩ := hrel
    have hsz := hnx.size
    by_cases hlt : k < m
    · have hsc := le_succ N k
      have hdv : N / 2 ^ (8 * k) / 256 = N / 2 ^ (8 * (k + 1)) := by rw [Nat.div_div_eq_div_mul, show 8 * (k + 1) = 8 * k + 8 from by omega, Nat.pow_add]
      have hxl : N / 2 ^ (8 * k) < 18446744073709551616 := Nat.lt_of_le_of_lt (Nat.div_le_self _ _) hN
      have HD := Lib.hid hdv
      have HS := Lib.hid hsc
      clear hdv hsc
      generalize N / 2 ^ (8 * k) = x at *
      go_wp2_with (at_builtin; refine wpList_append_bytes rfl (.tmp 12) (.tmp 16) rfl w.heap.size (.slice a' n' c') n' (le N k) rfl (hown.alloc _) (some ⟨wr.heap.size, 0, none⟩) 1 1 [x % 256] rfl rfl (by simp) (row_list _ _ _ _ _ (byte_one x)) (le N k ++ [x % 256]) rfl (by omega) (by simp; omega) ?_; intro a2 n2 c2 w2 hown2 Hn2 hle2 _ _ hb2)
      go_roundw
      case rel => exact ⟨k + 1, by omega, by go_num, by rw [← HD.out]; go_num, a2, n2, c2, rfl, by rw [HS.out]; exact hown2, by omega, (hnx.alloc (by omega) _).trans hb2⟩
      case measure => simp [intOf]; omega
    · obtain rfl : m = k := by omega
      go_wp2_with fail
      go_ret
      exact ⟨a', n', c', rfl, hown, hnx⟩

end Go.Proofs.Ytdgfnhgkncfmpaa.Pk
