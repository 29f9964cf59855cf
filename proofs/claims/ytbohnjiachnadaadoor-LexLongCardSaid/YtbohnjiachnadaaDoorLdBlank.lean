/-
  LINES OF A TEXT OF BLANKS; of a text that is too long.
-/
import Derived.Test.YtbohnjiachnadaaDoorLdBase
namespace Go.Proofs.YtbohnjiachnadaaDoor.Lx
open Go.RowKit

set_option maxHeartbeats 1000000 in
theorem lines_long (s : Bs) (h1 : 16384 < s.length) (h2 : s.length ≤ 1000000) (w : World) : Calls Tryd.prog 6 #[.string (mk s)] w fun e w' => e = .returned (.tuple #[.slice none 0 0, .int .i64 0, .int .i64 3]) ∧ w = w' := by
  have hz := mk_size s
  have hl : (16384 : Int) < ((mk s).size : Int) := by omega
  go_enter Tryd.func6, Tryd.ntmps6
  go_wp2
  go_step3
  go_wp2
  simp only [Exit.noGoto]
  go_ret3
  exact ⟨rfl, rfl⟩

def blanks (m : Nat) : Bs := List.replicate m 32
theorem blanks_len (m : Nat) : (blanks m).length = m := by simp [blanks]
theorem blanks_ok (m : Nat) : okB (blanks m) = true := by simp [okB, blanks]
theorem blanks_no (m : Nat) : (10 : UInt8) ∉ blanks m := by simp [blanks]

set_option maxRecDepth 100000 in
set_option maxHeartbeats 4000000 in
theorem lines_blank (m : Nat) (hm : m ≤ 16384) (w : World) : Calls Tryd.prog 6 #[.string (mk (blanks m))] w fun e w' => e = .returned (.tuple #[.slice none 0 0, .int .i64 0, .int .i64 0]) ∧ Below w.heap.size w w' := by
  have hz := mk_size (blanks m)
  have hzl := blanks_len m
  have hl : ¬ (16384 : Int) < ((mk (blanks m)).size : Int) := by omega
  have hsp := split_one (blanks m) (by omega) (blanks_no m) w
  have hst : Strs (w.alloc (.cells #[.string (mk (blanks m))] 9)) (.slice (some ⟨w.heap.size, 0, none⟩) 1 1) [blanks m] := strs_new w [blanks m] (by simp) 1 (Nat.le_refl _)
  have hfw := firstWrong_c hst (by simp) (fun s hs => by
    rw [List.mem_singleton.1 hs]
    exact ⟨blanks_ok m, by omega⟩)
  have hct : ∀ W, Calls Tryd.prog 12 #[.string (mk (blanks m))] W fun e w' => e = .returned (.bool false) ∧ W = w' := fun W => counts_blank m W
  have HB := Lib.hid (below_alloc w (.cells #[.string (mk (blanks m))] 9))
  have hc0 : (w.alloc (.cells #[.string (mk (blanks m))] 9)).cell? ⟨w.heap.size, 0, none⟩ = some (.string (mk (blanks m))) := by
    rw [World.cell?_alloc_mark]; rfl
  obtain ⟨w1, hw1⟩ : ∃ w1, w.alloc (.cells #[.string (mk (blanks m))] 9) = w1 := ⟨_, rfl⟩
  rw [hw1] at hsp hfw hc0 HB
  obtain ⟨b, hb⟩ : ∃ b, w.heap.size = b := ⟨_, rfl⟩
  rw [hb] at hsp hfw hc0
  have HBB := Lib.hid hb
  clear hst hw1 hb
  go_enter Tryd.func6, Tryd.ntmps6
  go_wp2
  go_step3
  go_wp2_with fail
  refine hsp.mono ?_
  rintro e w1 ⟨rfl, rfl⟩
  clear hsp
  go_wp2_with fail
  refine hfw.mono ?_
  rintro e w2 ⟨rfl, rfl⟩
  clear hfw
  go_wp2
  go_step3
  go_wp2
  go_loopw [7, 8, 9, 10, 11] (fun told nx _ _ _ W' => ∃ j : Nat, nx = .int .i64 j ∧ j ≤ 1 ∧ told = .slice none 0 0 ∧ w1 = W') (fun _ nx _ _ _ _ => 1 - (intOf nx).toNat)
  case atStart => exact ⟨0, rfl, Nat.zero_le _, rfl, rfl⟩
  case round =>
    obtain ⟨j, rfl, hj, rfl, rfl⟩ := hrel
    by_cases hlt : j = 0
    · subst hlt
      go_wp2_with fail
      refine (hct _).mono ?_
      rintro e w3 ⟨rfl, rfl⟩
      go_wp2
      go_roundw
      case rel => exact ⟨1, rfl, Nat.le_refl _, rfl, trivial⟩
      case measure => simp [intOf]
    · obtain rfl : j = 1 := by omega
      go_wp2
      simp only [Exit.noGoto]
      go_ret3
      exact ⟨rfl, HB.out⟩
end Go.Proofs.YtbohnjiachnadaaDoor.Lx
