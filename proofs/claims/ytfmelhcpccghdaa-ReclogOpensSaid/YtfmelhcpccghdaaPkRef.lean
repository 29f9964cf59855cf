/-
  THE DOCUMENT's OWN NUMBERS, WALKED.
-/
import Derived.Test.YtfmelhcpccghdaaPk
namespace Go.Proofs.Ytfmelhcpccghdaa.Pk
open Go.RowKit

theorem num_drop {t : List Nat} {j : Nat} (h : j < t.length) : num (t.drop j) = t.getD j 0 + 256 * num (t.drop (j + 1)) := by
  rw [List.drop_eq_getElem_cons h]
  simp [num, List.getD, h]

theorem value_some (g off c : Nat) (t : List Nat) (w : World) (ht : ∀ n ∈ t, n < 256) (hlen : t.length ≤ 8) (hcell : ∀ i, i < t.length → w.cell? ⟨g, off + i, none⟩ = some (.int .u8 ((t.getD i 0 : Nat) : Int))) :
    Calls Try.prog 27 #[.slice (some ⟨g, off, none⟩) t.length c] w fun e w' => e = .returned (.int .u64 (num t : Int)) ∧ w = w' := by
  have HC := Lib.hid hcell
  clear hcell
  go_enter Try.func27, Try.ntmps27
  go_wp2_with fail
  go_loop [3, 4] (fun v i => ∃ k : Nat, k ≤ t.length ∧ i = .int .i64 ((k : Int) - 1) ∧ v = .int .u64 ((num (t.drop k) : Nat) : Int)) (fun _ i => (intOf i + 1).toNat)
  case atStart => exact ⟨t.length, Nat.le_refl _, rfl, by simp [num]⟩
  case round =>
    obtain ⟨k, hk, rfl, rfl⟩ := hrel
    cases k with
    | zero =>
      rw [List.drop_zero]
      go_wp2_with fail
      go_ret
      exact ⟨rfl, rfl⟩
    | succ j =>
      rw [show ((j + 1 : Nat) : Int) - 1 = (j : Int) from by omega]
      have hj : j < t.length := by omega
      have hcell := HC.out j hj
      have hx := getD_lt ht j
      have hd := num_drop hj
      have hn := num_lt (t.drop (j + 1)) (drop_lt ht _)
      have hn2 : num (t.drop (j + 1)) < 72057594037927936 := by
        refine Nat.lt_of_lt_of_le hn ?_
        rw [List.length_drop]
        exact Nat.le_trans (Nat.pow_le_pow_right (n := 2) (by omega) (show 8 * (t.length - (j + 1)) ≤ 56 by omega)) (by decide)
      generalize num (t.drop (j + 1)) = n at *
      generalize t.getD j 0 = x at *
      have HD := Lib.hid hd
      clear hd hn
      go_wp2_with fail
      go_round
      case rel => exact ⟨j, by omega, by first | rfl | go_num, val_eq (by rw [HD.out]; omega)⟩
      case measure => simp [intOf]

/-- a slice's value whose cells lie in block g; an empty one wherever -/
def RowE (w : World) (g : Nat) (v : Value) (l : List Nat) : Prop :=
  (∃ a c, v = .slice a 0 c ∧ l = []) ∨
  ∃ off c, v = .slice (some ⟨g, off, none⟩) l.length c ∧ ∀ i, i < l.length → w.cell? ⟨g, off + i, none⟩ = some (.int .u8 ((l.getD i 0 : Nat) : Int))

theorem value_any (g : Nat) (v : Value) (t : List Nat) (w : World) (ht : ∀ n ∈ t, n < 256) (hlen : t.length ≤ 8) (hv : RowE w g v t) :
    Calls Try.prog 27 #[v] w fun e w' => e = .returned (.int .u64 (num t : Int)) ∧ w = w' := by
  rcases hv with ⟨a, c, rfl, rfl⟩ | ⟨off, c, rfl, hcell⟩
  · go_enter Try.func27, Try.ntmps27
    go_wp2_with fail
    refine wp_loop_rounds 1 ?_
    rw [rounds_succ]
    go_wp2_with fail
    go_ret
    exact ⟨rfl, rfl⟩
  · exact value_some g off c t w ht hlen hcell

theorem byte_one (x : Nat) : #[Value.int IntKind.u8 ((x : Int) % 256)] = (([x % 256] : List Nat).map fun (n : Nat) => Value.int .u8 (n : Int)).toArray := by simp

end Go.Proofs.Ytfmelhcpccghdaa.Pk
