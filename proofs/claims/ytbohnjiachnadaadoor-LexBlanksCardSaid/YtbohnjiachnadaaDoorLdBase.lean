/-
  LINES: what is cut, trimmed, counted.
-/
import Derived.Test.YtbohnjiachnadaaDoorLxSame
import Derived.Lib.SplitLaws
import Derived.Lib.IndexBytes
namespace Go.Proofs.YtbohnjiachnadaaDoor.Lx
open Go.RowKit

abbrev blank1 : ByteArray := ⟨#[32]⟩
abbrev nl1 : ByteArray := ⟨#[10]⟩

theorem trimL_c (s : Bs) (w : World) : Calls Tryd.prog 15 #[.string (mk s), .string blank1] w fun e w' => e = .returned (.string (mk (s.dropWhile (· == 32)))) ∧ w = w' := by
  refine (shstringsTrimLeftone (mk s) 32 (by decide) w).mono fun e w' ⟨h1, h2⟩ => ⟨?_, h2.symm⟩
  rw [h1, mk_bytes]
  rfl

theorem count0 {s : Bs} (h : (10 : UInt8) ∉ s) : Lib.countB (mk s) nl1 = 0 := by
  show Lib.count (mk s).data.toList [10] = 0
  rw [mk_bytes, Lib.count_one]
  exact List.count_eq_zero.2 h

set_option maxHeartbeats 2000000 in
theorem split_one (s : Bs) (hs : s.length ≤ 100000) (h : (10 : UInt8) ∉ s) (w : World) : Calls Tryd.prog 10 #[.string (mk s), .string nl1] w fun e w' => e = .returned (.slice (some ⟨w.heap.size, 0, none⟩) 1 1) ∧ w' = w.alloc (.cells #[.string (mk s)] 9) := by
  have hz := mk_size s
  have hg := Any.strings_genSplit_core shlays221 info9 (mk s) nl1 0 (-1) 1 w (by omega) (by decide) (Nat.zero_le _)
    (fun x c hx => (shstringsIndexone x 10 _).mono fun e w' ⟨h1, h2⟩ => ⟨by rw [h1]; show _ = Ending.returned (Value.int .i64 (Lib.index x.data.toList [10])); rw [Lib.index_one], h2⟩)
    ((shstringsCountone (mk s) 10 w).mono fun e w' ⟨h1, h2⟩ => ⟨by rw [h1]; show _ = Ending.returned (Value.int .i64 ((Lib.count (mk s).data.toList [10] : Nat) : Int)); rw [Lib.count_one]; rfl, h2⟩)
    (by decide) (by decide) (by rw [if_pos (by decide), count0 h]; omega)
  have e1 : Lib.splitB nl1 0 (1 - 1) (mk s) = [mk s] := rfl
  have e2 : Lib.cellsOf [mk s] 1 = #[Value.string (mk s)] := by rfl
  rw [e1, e2] at hg
  go_enter Tryd.func10, Tryd.ntmps10
  go_wp2_with fail
  refine hg.mono ?_
  rintro e w1 ⟨rfl, rfl⟩
  go_wp2
  go_ret
  exact ⟨rfl, rfl⟩

/-- may these bytes be? -/
def okB (s : Bs) : Bool := s.all fun c => decide (32 ≤ c.toNat) && decide (c.toNat ≤ 126)

theorem okB_at {s : Bs} (h : okB s = true) {j : Nat} {c : UInt8} (hc : s[j]? = some c) : 32 ≤ c.toNat ∧ c.toNat ≤ 126 := by
  unfold okB at h
  have := List.all_eq_true.1 h c (List.mem_of_getElem? hc)
  rw [Bool.and_eq_true] at this
  exact ⟨of_decide_eq_true this.1, of_decide_eq_true this.2⟩

set_option maxHeartbeats 2000000 in
theorem firstWrong_c {w : World} {v : Value} {K : List Bs} (h : Strs w v K) (hK : K.length ≤ 1000000) (hok : ∀ s ∈ K, okB s = true ∧ s.length ≤ 1000000) :
    Calls Tryd.prog 11 #[v] w fun e w' => e = .returned (.int .i64 0) ∧ w = w' := by
  obtain ⟨a, c, rfl, hc, hrow⟩ := h
  obtain ⟨n, hn⟩ : ∃ n, K.length = n := ⟨_, rfl⟩
  rw [hn] at hc hK ⊢
  have HN := Lib.hid hn
  have HROW := Lib.hid hrow
  have HOK := Lib.hid hok
  clear hn hrow hok
  go_enter Tryd.func11, Tryd.ntmps11
  go_wp2
  go_step3
  go_wp2
  go_step3
  go_wp2
  go_loopw [3, 4, 5, 6, 9] (fun nu _ _ _ i W' => ∃ j : Nat, i = .int .i64 j ∧ j ≤ n ∧ nu = .int .i64 0 ∧ w = W') (fun _ _ _ _ i _ => n - (intOf i).toNat)
  case atStart => exact ⟨0, rfl, Nat.zero_le _, rfl, rfl⟩
  case round =>
    obtain ⟨j, rfl, hj, rfl, rfl⟩ := hrel
    by_cases hlt : j < n
    · obtain ⟨s, hx⟩ : ∃ x, K[j]? = some x := ⟨_, List.getElem?_eq_getElem (by rw [HN.out]; exact hlt)⟩
      have hne : K ≠ [] := by rintro rfl; cases hx
      obtain ⟨b, off, rfl, hbl, hcell⟩ := HROW.out.resolve_left hne
      have c0 := hcell j s hx
      obtain ⟨hok1, hok2⟩ := HOK.out s (List.mem_of_getElem? hx)
      have HOK1 := Lib.hid hok1
      have hz := mk_size s
      clear hcell hne hx hok1
      go_wp2_with fail
      go_loopw [3, 6, 16] (fun nu _ i W' => ∃ q : Nat, i = .int .i64 q ∧ q ≤ s.length ∧ nu = .int .i64 0 ∧ w = W') (fun _ _ i _ => s.length - (intOf i).toNat)
      case atStart => exact ⟨0, rfl, Nat.zero_le _, rfl, rfl⟩
      case round =>
        obtain ⟨q, rfl, hq, rfl, rfl⟩ := hrel
        by_cases hql : q < s.length
        · have hji : (q : Int) < ((mk s).size : Int) := by rw [hz]; omega
          have hjs : q < (mk s).size := by rw [hz]; exact hql
          have hb := okB_at HOK1.out (get_mk s hjs)
          obtain ⟨c, hc⟩ : ∃ c, (mk s)[q].toNat = c := ⟨_, rfl⟩
          rw [hc] at hb
          obtain ⟨hb1, hb2⟩ := hb
          have e1 : ¬ (c : Int) < 32 := by omega
          have e2 : ¬ (126 : Int) < c := by omega
          go_wp2
          go_roundw
          case rel => exact ⟨q + 1, by go_num, by omega, rfl, trivial⟩
          case measure => simp [intOf]; omega
        · have hji : ¬ (q : Int) < ((mk s).size : Int) := by rw [hz]; omega
          go_wp2
          go_roundw
          case rel => exact ⟨j + 1, by go_num, by omega, rfl, trivial⟩
          case measure => simp [intOf]; omega
    · have hji : ¬ (j : Int) < (n : Int) := by omega
      go_wp2
      go_ret
      exact ⟨rfl, rfl⟩

/-- does a line that begins so count? -/
def cntB (s : Bs) : Bool := match s.dropWhile (· == 32) with
  | [] => false
  | c :: _ => c != 35

set_option maxHeartbeats 1000000 in
theorem counts_blank (n : Nat) (w : World) : Calls Tryd.prog 12 #[.string (mk (List.replicate n 32))] w fun e w' => e = .returned (.bool false) ∧ w = w' := by
  have ht := trimL_c (List.replicate n 32) w
  have e0 : (List.replicate n (32 : UInt8)).dropWhile (· == 32) = [] := by simp
  rw [e0] at ht
  have e1 : (mk []).toList.isEmpty = true := by rw [mk_toList]; rfl
  go_enter Tryd.func12, Tryd.ntmps12
  go_wp2_with fail
  refine ht.mono ?_
  rintro e w1 ⟨rfl, rfl⟩
  go_wp2
  go_ret
  exact ⟨rfl, rfl⟩
end Go.Proofs.YtbohnjiachnadaaDoor.Lx
