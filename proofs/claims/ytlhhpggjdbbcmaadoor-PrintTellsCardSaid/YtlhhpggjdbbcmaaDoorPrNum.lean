/-
  NUMBERS BELOW A HUNDRED, in figures: the program's and the document's.
-/
import Derived.Test.YtlhhpggjdbbcmaaDoorPrEsc
namespace Go.Proofs.YtlhhpggjdbbcmaaDoor.Pr
open Go.RowKit Go.Proofs.YtlhhpggjdbbcmaaDoor Go.Proofs.YtlhhpggjdbbcmaaDoor.Df

set_option maxRecDepth 100000 in
set_option maxHeartbeats 4000000 in
theorem small_c (n : Nat) (hn : n < 30) (w : World) : Calls Tryd.prog 43 #[.int .i64 n] w fun e w' => e = .returned (.string (mk (digT n))) ∧ w = w' := by
  have h0 : (0 : Int) ≤ (n : Int) := by omega
  by_cases h : n < 10
  · have h1 : (n : Int) < 10 := by omega
    have h2 : (n : Int) ≤ (n : Int) + 1 := by omega
    have h3 : (n : Int) + 1 ≤ 36 := by omega
    go_enter Tryd.func43, Tryd.ntmps43
    go_wp2
    go_ret
    refine ⟨?_, rfl⟩
    clear h1 h2 h3 h0
    rcases (by omega : n = 0 ∨ n = 1 ∨ n = 2 ∨ n = 3 ∨ n = 4 ∨ n = 5 ∨ n = 6 ∨ n = 7 ∨ n = 8 ∨ n = 9) with rfl | rfl | rfl | rfl | rfl | rfl | rfl | rfl | rfl | rfl <;> rfl
  · have h1 : ¬ (n : Int) < 10 := by omega
    have h2 : (n : Int) * 2 ≤ (n : Int) * 2 + 2 := by omega
    have h3 : (n : Int) * 2 + 2 ≤ 200 := by omega
    have h4 : (0 : Int) ≤ (n : Int) * 2 := by omega
    go_enter Tryd.func43, Tryd.ntmps43
    go_wp2
    go_ret
    refine ⟨?_, rfl⟩
    clear h1 h2 h3 h4 h0
    rcases (by omega : n = 10 ∨ n = 11 ∨ n = 12 ∨ n = 13 ∨ n = 14 ∨ n = 15 ∨ n = 16 ∨ n = 17 ∨ n = 18 ∨ n = 19 ∨ n = 20 ∨ n = 21 ∨ n = 22 ∨ n = 23 ∨ n = 24 ∨ n = 25 ∨ n = 26 ∨ n = 27 ∨ n = 28 ∨ n = 29) with rfl | rfl | rfl | rfl | rfl | rfl | rfl | rfl | rfl | rfl | rfl | rfl | rfl | rfl | rfl | rfl | rfl | rfl | rfl | rfl <;> rfl

set_option maxHeartbeats 4000000 in
theorem itoa_c (n : Nat) (hn : n < 30) (w : World) : Calls Tryd.prog 12 #[.int .i64 n] w fun e w' => e = .returned (.string (mk (digT n))) ∧ w = w' := by
  have hs := small_c n hn w
  have h0 : (0 : Int) ≤ (n : Int) := by omega
  have h1 : (n : Int) < 100 := by omega
  have h2 : decide ((n : Int) < 100) = true := decide_eq_true h1
  generalize digT n = D at *
  have hf : Calls Tryd.prog 37 #[.int .i64 n, .int .i64 10] w fun e w' => e = .returned (.string (mk D)) ∧ w = w' := by
    go_enter Tryd.func37, Tryd.ntmps37
    go_wp2_with fail
    refine hs.mono ?_
    rintro e w1 ⟨rfl, rfl⟩
    go_wp2_with fail
    go_ret
    exact ⟨rfl, rfl⟩
  have hi : Calls Tryd.prog 26 #[.int .i64 n] w fun e w' => e = .returned (.string (mk D)) ∧ w = w' := by
    go_enter Tryd.func26, Tryd.ntmps26
    go_wp2_with fail
    refine hf.mono ?_
    rintro e w1 ⟨rfl, rfl⟩
    go_wp2_with fail
    go_ret
    exact ⟨rfl, rfl⟩
  go_enter Tryd.func12, Tryd.ntmps12
  go_wp2_with fail
  refine hi.mono ?_
  rintro e w1 ⟨rfl, rfl⟩
  go_wp2_with fail
  go_ret
  exact ⟨rfl, rfl⟩

theorem dig1 : ∀ n : Nat, n < 10 → (⟨#[48, 49, 50, 51, 52, 53, 54, 55, 56, 57]⟩ : ByteArray).extract n (n + 1) = mk [UInt8.ofNat (48 + n)] := by
  intro n h
  rcases (by omega : n = 0 ∨ n = 1 ∨ n = 2 ∨ n = 3 ∨ n = 4 ∨ n = 5 ∨ n = 6 ∨ n = 7 ∨ n = 8 ∨ n = 9) with rfl | rfl | rfl | rfl | rfl | rfl | rfl | rfl | rfl | rfl <;> rfl

set_option maxRecDepth 100000 in
set_option maxHeartbeats 4000000 in
theorem digits1_c (n : Nat) (hn : n < 10) (w : World) : Calls Tryd.prog 22 #[.int .i64 n] w fun e w' => e = .returned (.string (mk [UInt8.ofNat (48 + n)])) ∧ ∃ q, w' = w.drewN q := by
  have h1 : (n : Int) < 10 := by omega
  have h0 : (0 : Int) ≤ (n : Int) := by omega
  have h2 : (n : Int) ≤ (n : Int) + 1 := by omega
  have h3 : (n : Int) + 1 ≤ 10 := by omega
  have hd := dig1 n hn
  generalize mk [UInt8.ofNat (48 + n)] = D at *
  go_enter Tryd.func22, Tryd.ntmps22
  go_wp2
  go_ret
  exact ⟨rfl, 0, rfl⟩


set_option maxRecDepth 100000 in
set_option maxHeartbeats 1000000 in
theorem digits_c (n : Nat) (hn : n < 100) (w : World) : Calls Tryd.prog 22 #[.int .i64 n] w fun e w' => e = .returned (.string (mk (digT n))) ∧ ∃ q, w' = w.drewN q := by
  by_cases h : n < 10
  · have hd : digT n = [UInt8.ofNat (48 + n)] := by unfold digT; rw [if_pos h]
    rw [hd]
    exact digits1_c n h w
  · have hq : n / 10 < 10 := by omega
    have hr : n % 10 < 10 := Nat.mod_lt _ (by decide)
    have hd : digT n = [UInt8.ofNat (48 + n / 10)] ++ [UInt8.ofNat (48 + n % 10)] := by unfold digT; rw [if_neg h]; rfl
    have c1 := fun W => digits1_c (n / 10) hq W
    have hdr := dig1 (n % 10) hr
    rw [hd, ← mk_append]
    have hA : (mk [UInt8.ofNat (48 + n / 10)]).size = 1 := mk_size _
    have hB : (mk [UInt8.ofNat (48 + n % 10)]).size = 1 := mk_size _
    have e1 : (n : Int) / 10 = ((n / 10 : Nat) : Int) := by omega
    have e2 : (n : Int) % 10 = ((n % 10 : Nat) : Int) := by omega
    have e3 : Int.tdiv (n : Int) 10 = ((n / 10 : Nat) : Int) := by rw [Int.tdiv_eq_ediv_of_nonneg (by omega)]; exact e1
    have e4 : Int.tmod (n : Int) 10 = ((n % 10 : Nat) : Int) := by rw [Int.tmod_eq_emod_of_nonneg (by omega)]; exact e2
    generalize mk [UInt8.ofNat (48 + n / 10)] = A at *
    generalize mk [UInt8.ofNat (48 + n % 10)] = B at *
    have h1 : ¬ (n : Int) < 10 := by omega
    generalize n / 10 = q at *
    generalize n % 10 = r at *
    have h2 : (r : Int) ≤ (r : Int) + 1 := by omega
    have h3 : (r : Int) + 1 ≤ 10 := by omega
    have h4 : (0 : Int) ≤ (r : Int) := by omega
    have hwq : IntKind.i64.wrap (q : Int) = (q : Int) := by unfold IntKind.wrap; simp [IntKind.signed, IntKind.bits]; omega
    have hwr : IntKind.i64.wrap (r : Int) = (r : Int) := by unfold IntKind.wrap; simp [IntKind.signed, IntKind.bits]; omega
    clear hd e1 e2
    go_enter Tryd.func22, Tryd.ntmps22
    go_wp2_with fail
    go_quiet (exact Calls.quiet_of (c1 _))
    go_wp2
    go_ret
    exact ⟨rfl, _, rfl⟩
end Go.Proofs.YtlhhpggjdbbcmaaDoor.Pr
