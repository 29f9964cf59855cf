/-
  THE DOCUMENT's OWN PACKING, WALKED.
-/
import Derived.Test.YtppboldeocjbhabBackW
namespace Go.Proofs.Ytppboldeocjbhab
open Go.RowKit

theorem byte_one (x : Nat) : #[Value.int IntKind.u8 ((x : Int) % 256)] = (([x % 256] : List Nat).map fun (n : Nat) => Value.int .u8 (n : Int)).toArray := by simp

theorem refnum_any (N m : Nat) (w : World) (hN : N < 18446744073709551616) (hm : m ≤ 8) :
    Calls Try.prog 12 #[.int .u64 (N : Int), .int .i64 (m : Int)] w fun e w' => Owned w.heap.size (le N m) w e w' := by
  go_enter Try.func12, Try.ntmps12
  go_wp2_with fail
  go_loopw [0, 5, 6] (fun v s i wr => ∃ k : Nat, k ≤ m ∧ i = .int .i64 k ∧ v = .int .u64 ((N / 2 ^ (8 * k) : Nat) : Int) ∧ ∃ a' n' c', s = .slice a' n' c' ∧ wr.ownsRow w.heap.size 5 1 (.slice a' n' c') n' (bytesV (le N k)) ∧ n' ≤ k ∧ Below w.heap.size w wr) (fun _ _ i _ => m - (intOf i).toNat)
  case atStart => exact ⟨0, by omega, rfl, by simp, none, 0, 0, rfl, World.ownsRow_nil _ _ _ _, by omega, Below.refl _ _⟩
  case round =>
    obtain ⟨k, hk, rfl, rfl, a', n', c', rfl, hown, hle, hnx⟩ := hrel
    have hsz := hnx.size
    by_cases hlt : k < m
    · have hsc := le_succ N k
      have hdv : N / 2 ^ (8 * k) / 256 = N / 2 ^ (8 * (k + 1)) := by rw [Nat.div_div_eq_div_mul, show 8 * (k + 1) = 8 * k + 8 from by omega, Nat.pow_add]
      have hxl : N / 2 ^ (8 * k) < 18446744073709551616 := Nat.lt_of_le_of_lt (Nat.div_le_self _ _) hN
      have HD := Lib.hid hdv
      have HS := Lib.hid hsc
      clear hdv hsc
      generalize N / 2 ^ (8 * k) = x at *
      go_wp2_with (at_builtin; refine wpList_append_bytes rfl (.tmp 12) (.tmp 16) rfl w.heap.size (.slice a' n' c') n' (le N k) rfl (hown.alloc _) (some ⟨wr.heap.size, 0, none⟩) 1 1 [x % 256] rfl rfl (by simp) (row_list _ _ _ _ _ (byte_one x)) (le N k ++ [x % 256]) rfl (by omega) (by simp; omega) ?_; intro a2 n2 c2 w2 hown2 Hn2 hle2 _ _ hb2)
      go_roundw
      case rel => exact ⟨k + 1, by omega, by go_num, by rw [← HD.out]; go_num, a2, n2, c2, rfl, by rw [HS.out]; exact hown2, by omega, (hnx.alloc (by omega) _).trans hb2⟩
      case measure => simp [intOf]; omega
    · obtain rfl : m = k := by omega
      go_wp2_with fail
      go_ret
      exact ⟨a', n', c', rfl, hown, hnx⟩

theorem reft_any (s : ByteArray) (w : World) (hs : s.size ≤ 65535) :
    Calls Try.prog 11 #[.string s] w fun e w' => ∃ a' n' c', e = .returned (.tuple #[.slice a' n' c', .bool true]) ∧ w'.ownsRow w.heap.size 5 1 (.slice a' n' c') n' (bytesV (le s.size 2 ++ sb s)) ∧ Below w.heap.size w w' := by
  go_enter Try.func11, Try.ntmps11
  go_wp2_with fail
  refine (refnum_any s.size 2 w (by omega) (by omega)).mono ?_
  rintro e w1 ⟨a1, n1, c1, rfl, hown1, hb1⟩
  have hn1 : n1 ≤ 2 := by have := hown1.1; rw [bytesV_length, le_length] at this; omega
  go_wp2_with (at_builtin; refine wpList_append_str rfl (.tmp 10) (.tmp 11) rfl w.heap.size (.slice a1 n1 c1) n1 (le s.size 2) rfl hown1 s rfl (by omega) hb1.size ?_; intro a3 n3 c3 w3 hown3 hle3 hb3)
  go_ret2
  exact ⟨a3, n3, c3, rfl, hown3, hb1.trans hb3⟩

theorem reft_long (s : ByteArray) (w : World) (hs : 65535 < s.size) :
    Calls Try.prog 11 #[.string s] w fun e w' => e = .returned (.tuple #[.slice none 0 0, .bool false]) ∧ w = w' := by
  go_enter Try.func11, Try.ntmps11
  go_wp2_with fail
  go_ret2
  exact ⟨rfl, rfl⟩
end Go.Proofs.Ytppboldeocjbhab
