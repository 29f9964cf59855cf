/-
  LINES WHERE THE LAST ROW BEARS A BYTE THAT MAY NOT BE.
-/
import Derived.Test.YtbohnjiachnadaaDoorLdWalk
namespace Go.Proofs.YtbohnjiachnadaaDoor.Lx
open Go.RowKit

set_option maxHeartbeats 2000000 in
theorem firstWrong_tab {w : World} {v : Value} {K : List Bs} {n : Nat} {t : Bs} (h : Strs w v K) (hK : K.length = n + 1) (hn : n ≤ 1000000) (hlast : K[n]? = some (9 :: t)) (hok : ∀ j s, j < n → K[j]? = some s → okB s = true ∧ s.length ≤ 1000000) (ht : t.length ≤ 1000000) :
    Calls Tryd.prog 11 #[v] w fun e w' => e = .returned (.int .i64 ((n : Int) + 1)) ∧ w = w' := by
  obtain ⟨a, c, rfl, hc, hrow⟩ := h
  rw [hK] at hc ⊢
  have hne : K ≠ [] := by rintro rfl; cases hlast
  obtain ⟨b, off, rfl, hbl, hcell⟩ := hrow.resolve_left hne
  have HN := Lib.hid hK
  have HCELL := Lib.hid hcell
  have HOK := Lib.hid hok
  have HLAST := Lib.hid hlast
  have hwn : IntKind.i64.wrap ((n : Int) + 1) = (n : Int) + 1 := IntWalk.i64_in _ (by omega)
  clear hK hrow hok hcell hlast hne
  go_enter Tryd.func11, Tryd.ntmps11
  go_wp2
  go_step3
  go_wp2
  go_step3
  go_wp2
  go_loopw [3, 4, 5, 6, 9] (fun nu _ _ _ i W' => ∃ j : Nat, i = .int .i64 j ∧ j ≤ n ∧ nu = .int .i64 0 ∧ w = W') (fun _ _ _ _ i _ => n - (intOf i).toNat)
  case atStart => exact ⟨0, rfl, Nat.zero_le _, rfl, rfl⟩
  case round =>
    obtain ⟨j, rfl, hj, rfl, rfl⟩ := hrel
    have hji0 : (j : Int) < (n : Int) + 1 := by omega
    by_cases hlt : j < n
    · obtain ⟨s, hx⟩ : ∃ x, K[j]? = some x := ⟨_, List.getElem?_eq_getElem (by rw [HN.out]; omega)⟩
      have c0 := HCELL.out j s hx
      obtain ⟨hok1, hok2⟩ := HOK.out j s hlt hx
      have HOK1 := Lib.hid hok1
      have hz := mk_size s
      clear hx hok1
      go_wp2_with fail
      go_loopw [3, 6, 16] (fun nu _ i W' => ∃ q : Nat, i = .int .i64 q ∧ q ≤ s.length ∧ nu = .int .i64 0 ∧ w = W') (fun _ _ i _ => s.length - (intOf i).toNat)
      case atStart => exact ⟨0, rfl, Nat.zero_le _, rfl, rfl⟩
      case round =>
        obtain ⟨q, rfl, hq, rfl, rfl⟩ := hrel
        by_cases hql : q < s.length
        · have hji : (q : Int) < ((mk s).size : Int) := by rw [hz]; omega
          have hjs : q < (mk s).size := by rw [hz]; exact hql
          have hb := okB_at HOK1.out (get_mk s hjs)
          obtain ⟨c, hc⟩ : ∃ c, (mk s)[q].toNat = c := ⟨_, rfl⟩
          rw [hc] at hb
          obtain ⟨hb1, hb2⟩ := hb
          have e1 : ¬ (c : Int) < 32 := by omega
          have e2 : ¬ (126 : Int) < c := by omega
          go_wp2
          go_roundw
          case rel => exact ⟨q + 1, by go_num, by omega, rfl, trivial⟩
          case measure => simp [intOf]; omega
        · have hji : ¬ (q : Int) < ((mk s).size : Int) := by rw [hz]; omega
          go_wp2
          go_roundw
          case rel => exact ⟨j + 1, by go_num, by omega, rfl, trivial⟩
          case measure => simp [intOf]; omega
    · obtain rfl : j = n := by omega
      have c0 := HCELL.out j _ HLAST.out
      have hz := mk_size (9 :: t)
      have hjs : 0 < (mk (9 :: t)).size := by rw [hz]; simp
      have hji : (0 : Int) < ((mk (9 :: t)).size : Int) := by omega
      have hb : (mk (9 :: t))[0]'hjs = 9 := by
        have h1 := get_mk (9 :: t) hjs
        simpa using h1.symm
      have hc9 : (((mk (9 :: t))[0]'hjs).toNat : Int) = 9 := by rw [hb]; rfl
      clear hb
      go_wp2_with fail
      go_loopw [3, 6, 16] (fun nu _ i W' => i = .int .i64 0 ∧ nu = .int .i64 0 ∧ w = W') (fun _ _ i _ => 1)
      case atStart => exact ⟨rfl, rfl, rfl⟩
      case round =>
        obtain ⟨rfl, rfl, rfl⟩ := hrel
        go_wp2
        simp only [Exit.noGoto]
        go_ret
        exact ⟨rfl, rfl⟩

set_option maxRecDepth 100000 in
set_option maxHeartbeats 4000000 in
theorem lines_tab (s : Bs) (hs : s.length ≤ 16384) {K : List Bs} (hK : rowsOf s = K ++ [[9]]) (hok : ∀ r ∈ K, okB r = true) (w : World) :
    Calls Tryd.prog 6 #[.string (mk s)] w fun e w' => e = .returned (.tuple #[.slice none 0 0, .int .i64 ((K.length : Int) + 1), .int .i64 10]) ∧ Below w.heap.size w w' := by
  have hz := mk_size s
  have hl : ¬ (16384 : Int) < ((mk s).size : Int) := by omega
  have hsp := split_c s (by omega) w
  have hrl := rows_length s
  have hcl : s.count 10 ≤ s.length := List.count_le_length
  have hle : ∀ r ∈ rowsOf s, r.length ≤ 16384 := fun r hr => Nat.le_trans (rows_le hr) hs
  have hst := strs_new w (rowsOf s) (by rw [hK]; simp) (rowsOf s).length (Nat.le_refl _)
  have hB0 := below_alloc w (.cells (strV (rowsOf s)).toArray 9)
  obtain ⟨n, hn⟩ : ∃ n, K.length = n := ⟨_, rfl⟩
  have hlen : (rowsOf s).length = n + 1 := by rw [hK, List.length_append, hn]; rfl
  obtain ⟨w1, hw1⟩ : ∃ w1, w.alloc (.cells (strV (rowsOf s)).toArray 9) = w1 := ⟨_, rfl⟩
  rw [hw1] at hsp hst hB0
  have hfw := firstWrong_tab (n := n) (t := []) hst hlen (by omega) (by rw [hK, ← hn]; simp) (fun j r hj hr => by
    have hm : r ∈ K := by
      rw [hK, List.getElem?_append_left (by omega)] at hr
      exact List.mem_of_getElem? hr
    exact ⟨hok r hm, by have := hle r (by rw [hK]; exact List.mem_append_left _ hm); omega⟩) (by simp)
  rw [hlen] at hsp hfw
  rw [hn]
  have hn2 : n ≤ 16385 := by omega
  obtain ⟨b, hb⟩ : ∃ b, w.heap.size = b := ⟨_, rfl⟩
  rw [hb] at hsp hfw
  have HB0 := Lib.hid hB0
  have h0 : (0 : Int) < (n : Int) + 1 := by omega
  clear hb hw1 hrl hcl hle hst hB0 hz hs hlen hK hok hn
  go_enter Tryd.func6, Tryd.ntmps6
  go_wp2
  go_step3
  go_wp2_with fail
  refine hsp.mono ?_
  rintro e w1 ⟨rfl, rfl⟩
  clear hsp
  go_wp2_with fail
  refine hfw.mono ?_
  rintro e w2 ⟨rfl, rfl⟩
  clear hfw
  go_wp2
  simp only [Exit.noGoto]
  go_ret3
  exact ⟨rfl, HB0.out⟩
end Go.Proofs.YtbohnjiachnadaaDoor.Lx
