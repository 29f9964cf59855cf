/-
  ROWS OF YtlhhpggjdbbcmaaDoorS, told by the document.
-/
import Derived.Test.YtlhhpggjdbbcmaaDoorPrRefR
namespace Go.Proofs.YtlhhpggjdbbcmaaDoor.Pr
open Go.RowKit Go.Proofs.YtlhhpggjdbbcmaaDoor Go.Proofs.YtlhhpggjdbbcmaaDoor.Df

set_option maxRecDepth 100000 in
set_option maxHeartbeats 4000000 in
theorem row_c {w : World} {v : Value} {K : List Bs} (h : Strs w v K) (hl : K.length ≤ 1000) (hx : ∀ x ∈ K, x.length ≤ 200) :
    Calls Tryd.prog 24 #[v] w fun e w' => e = .returned (.string (mk (rowT K))) ∧ w = w' := by
  obtain ⟨a, c, rfl, hc, hrow⟩ := h
  have HROW := Lib.hid hrow
  have HX := Lib.hid hx
  have HLT : Hid (∀ j, j ≤ K.length → (rowT (K.take j)).length ≤ 401 * j) := Lib.hid fun j hj => by
    have := rowT_len (K := K.take j) fun x hx2 => hx x (List.mem_of_mem_take hx2)
    rw [List.length_take, Nat.min_eq_left hj] at this
    exact this
  clear hx hrow
  go_enter Tryd.func24, Tryd.ntmps24
  go_wp2_with fail
  go_loopw [3, 4] (fun x i wr => ∃ j : Nat, j ≤ K.length ∧ i = .int .i64 j ∧ x = .string (mk (rowT (K.take j))) ∧ wr = w) (fun _ i _ => K.length - (intOf i).toNat)
  case atStart => exact ⟨0, Nat.zero_le _, rfl, rfl, rfl⟩
  case round =>
    obtain ⟨j, hj, rfl, rfl, rfl⟩ := hrel
    by_cases hlt : j < K.length
    · have hxj := List.getElem?_eq_getElem hlt
      have hrt := rowT_take hxj
      have hlen := HX.out _ (List.getElem_mem hlt)
      rcases HROW.out with h0 | ⟨b, off, rfl, hb, hcell⟩
      · rw [h0] at hlt; simp at hlt
      have hc0 : wr.cell? ⟨b, off + j, none⟩ = some (.string (mk K[j])) := hcell j _ hxj
      generalize K[j] = s at *
      have hes := refEscape_c s (by omega) wr
      have hel := esc_len s
      have hlj := HLT.out j hj
      have hi0 : (0 : Int) ≤ (j : Int) := by omega
      have hi1 : (j : Int) < (K.length : Int) := by omega
      rw [show rowT (K.take j) ++ 32 :: esc s = rowT (K.take j) ++ ([32] ++ esc s) from rfl] at hrt
      generalize rowT (K.take j) = T at *
      generalize esc s = S at *
      have hcat1 : (⟨#[32]⟩ : ByteArray) ++ mk S = mk ([32] ++ S) := mk_append [32] S
      have hcat2 : mk T ++ mk ([32] ++ S) = mk (T ++ ([32] ++ S)) := mk_append _ _
      have hz1 := mk_size T
      have hz2 := mk_size S
      have hz3 : (mk ([32] ++ S)).size = 1 + S.length := by rw [mk_size, List.length_append]; rfl
      have hcat3 : mk T ++ mk (32 :: S) = mk (T ++ ([32] ++ S)) := hcat2
      have n1 : ¬ 9223372036854775807 < 1 + S.length := by omega
      have n2 : ¬ 9223372036854775807 < T.length + (1 + S.length) := by omega
      have n3 : ¬ 9223372036854775807 < T.length + (S.length + 1) := by omega
      have HRT := Lib.hid hrt
      clear hcell hxj hrt
      go_wp2_with fail
      refine hes.mono ?_
      rintro e w1 ⟨rfl, rfl⟩
      go_wp2_with fail
      go_roundw
      case rel => exact ⟨j + 1, by omega, by go_num, by rw [HRT.out]; first | rfl | rw [hcat3], trivial⟩
      case measure => simp [intOf] <;> omega
    · obtain rfl : j = K.length := by omega
      rw [List.take_length]
      go_wp2_with fail
      go_ret
      exact ⟨rfl, rfl⟩
end Go.Proofs.YtlhhpggjdbbcmaaDoor.Pr
