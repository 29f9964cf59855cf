/-
  THE LAW DiskNone, WALKED.
-/
import Derived.Test.YtkgipabcgbneoaaNil
import Derived.Test.YtkgipabcgbneoaaAwake
namespace Go.Proofs.Ytkgipabcgbneoaa
open Go.RowKit Go.Maps

variable {w : World}

/-- an act, as its six cells -/
def actC (x0 x1 : Int) (s t : List UInt8) (b : Option Addr) (bn bc : Nat) (ta : Option Addr) (tn tc : Nat) : Array Value :=
  #[.int .i64 x0, .int .i64 x1, .string (mk s), .string (mk t), .slice b bn bc, .slice ta tn tc]

set_option maxRecDepth 100000 in
set_option maxHeartbeats 4000000 in
theorem lawDeed_nil (k : Nat) (hk : k < 7) (x0 x1 : Int) (s t : List UInt8) (b : Option Addr) (bn bc : Nat) (ta : Option Addr) (tn tc : Nat) (w : World) :
    Calls Try.prog 13 #[.pointer none, .int .i64 k, .agg #[.int .i64 x0, .int .i64 x1, .string (mk s), .string (mk t), .slice b bn bc, .slice ta tn tc]] w fun e w' => e = .returned (.int .i64 8) ∧ Below w.heap.size w w' := by
  have hB := below_alloc w (.cells #[.int .i64 x0, .int .i64 x1, .string (mk s), .string (mk t), .slice b bn bc, .slice ta tn tc] 25)
  have HB := Lib.hid hB
  clear hB
  obtain rfl | rfl | rfl | rfl | rfl | rfl | rfl : k = 0 ∨ k = 1 ∨ k = 2 ∨ k = 3 ∨ k = 4 ∨ k = 5 ∨ k = 6 := by omega
  all_goals
    clear hk
    go_enter Try.func13, Try.ntmps13
    go_wp2_with fail
    first
      | refine (Write_nil s b bn bc _).mono ?_
      | refine (Append_nil s b bn bc _).mono ?_
      | refine (Cut_nil s x1 _).mono ?_
      | refine (Rename_nil s t _).mono ?_
      | refine (Remove_nil s _).mono ?_
      | refine (Sync_nil s _).mono ?_
      | refine (SyncDir_nil _).mono ?_
    rintro e w5 ⟨rfl, hb⟩
    go_wp2
    go_ret
    exact ⟨rfl, HB.out.trans (hb.mono HB.out.size)⟩

set_option maxRecDepth 100000 in
set_option maxHeartbeats 8000000 in
theorem none_main (x0 x1 : Int) (s t : List UInt8) (b : Option Addr) (bn bc : Nat) (ta : Option Addr) (tn tc : Nat) (hs : s.length ≤ 120) (hbn : bn ≤ 17000) (w : World) :
    Calls Try.prog 3 #[.agg #[.int .i64 x0, .int .i64 x1, .string (mk s), .string (mk t), .slice b bn bc, .slice ta tn tc]] w fun e w' => e = .returned (.bool true) ∧ Below w.heap.size w w' := by
  have hsz : (mk s).size = s.length := by simp [mk, ByteArray.size]
  have hB := below_alloc w (.cells #[.int .i64 x0, .int .i64 x1, .string (mk s), .string (mk t), .slice b bn bc, .slice ta tn tc] 25)
  obtain ⟨w1, hw1⟩ : ∃ W, w.alloc (.cells #[.int .i64 x0, .int .i64 x1, .string (mk s), .string (mk t), .slice b bn bc, .slice ta tn tc] 25) = W := ⟨_, rfl⟩
  have hc : ∀ (o : Nat) (v : Value), #[Value.int .i64 x0, .int .i64 x1, .string (mk s), .string (mk t), .slice b bn bc, .slice ta tn tc][o]? = some v → w1.cell? ⟨w.heap.size, o, none⟩ = some v := by
    intro o v h
    rw [← hw1]
    exact cell_at_new _ _ _ _ _ h
  have hlt : w.heap.size < w1.heap.size := by rw [← hw1]; simp
  rw [hw1] at hB
  have HB := Lib.hid hB
  have HC := Lib.hid hc
  have HLT := Lib.hid hlt
  have HW := Lib.hid hw1
  clear hB hc hlt hw1
  go_enter Try.func3, Try.ntmps3
  go_wp2_with fail
  rw [HW.out]
  refine (arm_nil x1 w1).mono ?_
  rintro e w2 ⟨⟨v2, rfl⟩, rfl⟩
  have c1 : w1.cell? ⟨w.heap.size, 1, none⟩ = some (.int .i64 x1) := ((Below.refl w1.heap.size w1).cell (p := ⟨w.heap.size, 1, none⟩) HLT.out).trans (HC.out 1 _ rfl)
  go_wp2_with fail
  refine (restart_nil _ ⟨_, _, _, _, rfl⟩ w1).mono ?_
  rintro e w3 ⟨⟨x3, rfl⟩, hb3⟩
  clear c1
  have c2 : w3.cell? ⟨w.heap.size, 2, none⟩ = some (.string (mk s)) := (hb3.cell (p := ⟨w.heap.size, 2, none⟩) HLT.out).trans (HC.out 2 _ rfl)
  go_wp2_with fail
  refine (read_nil w3 s).mono ?_
  rintro e w4 ⟨u, rfl, hrow, hb4⟩
  obtain ⟨ua, uc, rfl⟩ := row_len hrow
  have hb4' := hb3.trans (hb4.mono hb3.size)
  clear hrow c2 hb3 hb4
  have c2 : w4.cell? ⟨w.heap.size, 2, none⟩ = some (.string (mk s)) := (hb4'.cell (p := ⟨w.heap.size, 2, none⟩) HLT.out).trans (HC.out 2 _ rfl)
  go_wp2_with fail
  refine (stat_nil w4 s).mono ?_
  rintro e w5 ⟨rfl, hb5⟩
  have hb5' := hb4'.trans (hb5.mono hb4'.size)
  have hb6 : Below w1.heap.size w1 (w5.alloc (.cells #[.int .i64 0, .int .i64 0] 35)) := hb5'.trans ((below_alloc w5 _).mono hb5'.size)
  clear c2 hb4' hb5 hb5'
  go_wp2
  go_loopw [8] (fun v wr => ∃ k : Nat, k ≤ 7 ∧ v = .int .i64 k ∧ Below w1.heap.size w1 wr) (fun v _ => 7 - (intOf v).toNat)
  case atStart => exact ⟨0, by omega, rfl, hb6⟩
  case round =>
    obtain ⟨k, hk, rfl, hbr⟩ := hrel
    by_cases hlt : k < 7
    · have hd := lawDeed_nil k hlt x0 x1 s t b bn bc ta tn tc wr
      have c0 : wr.cell? ⟨w.heap.size, 0, none⟩ = some (.int .i64 x0) := (hbr.cell (p := ⟨w.heap.size, 0, none⟩) HLT.out).trans (HC.out 0 _ rfl)
      have c1 : wr.cell? ⟨w.heap.size, 1, none⟩ = some (.int .i64 x1) := (hbr.cell (p := ⟨w.heap.size, 1, none⟩) HLT.out).trans (HC.out 1 _ rfl)
      have c2 : wr.cell? ⟨w.heap.size, 2, none⟩ = some (.string (mk s)) := (hbr.cell (p := ⟨w.heap.size, 2, none⟩) HLT.out).trans (HC.out 2 _ rfl)
      have c3 : wr.cell? ⟨w.heap.size, 3, none⟩ = some (.string (mk t)) := (hbr.cell (p := ⟨w.heap.size, 3, none⟩) HLT.out).trans (HC.out 3 _ rfl)
      have c4 : wr.cell? ⟨w.heap.size, 4, none⟩ = some (.slice b bn bc) := (hbr.cell (p := ⟨w.heap.size, 4, none⟩) HLT.out).trans (HC.out 4 _ rfl)
      have c5 : wr.cell? ⟨w.heap.size, 5, none⟩ = some (.slice ta tn tc) := (hbr.cell (p := ⟨w.heap.size, 5, none⟩) HLT.out).trans (HC.out 5 _ rfl)
      go_wp2_with fail
      refine hd.mono ?_
      rintro e w7 ⟨rfl, hb7⟩
      clear hd c0 c1 c2 c3 c4 c5
      go_wp2
      go_roundw
      case rel => exact ⟨k + 1, by omega, by go_num, hbr.trans (hb7.mono hbr.size)⟩
      case measure => simp [intOf]; omega
    · obtain rfl : k = 7 := by omega
      clear hb6
      go_wp2_with (first
        | (go_at_call 14; refine (names_nil _).mono ?_; rintro e wq ⟨rfl, rfl⟩)
        | (go_at_call 15; refine (used_nil _).mono ?_; rintro e wq ⟨rfl, rfl⟩)
        | (go_at_call 16; refine (deeds_nil _).mono ?_; rintro e wq ⟨rfl, rfl⟩)
        | (go_at_call 17; refine (down_nil _).mono ?_; rintro e wq ⟨rfl, rfl⟩)
        | (go_at_call 18; refine (awake_c _).mono ?_; rintro e wq ⟨rfl, hbq⟩))
      go_ret
      exact ⟨rfl, HB.out.trans ((hbr.trans (hbq.mono hbr.size)).mono HB.out.size)⟩

set_option maxRecDepth 100000 in
set_option maxHeartbeats 2000000 in
theorem none_c (x0 x1 : Int) (s t : List UInt8) (b : Option Addr) (bn bc : Nat) (ta : Option Addr) (tn tc : Nat) (w : World) :
    Calls Try.prog 3 #[.agg #[.int .i64 x0, .int .i64 x1, .string (mk s), .string (mk t), .slice b bn bc, .slice ta tn tc]] w fun e w' => e = .returned (.bool true) ∧ Below w.heap.size w w' := by
  by_cases h : s.length ≤ 120 ∧ bn ≤ 17000
  · exact none_main x0 x1 s t b bn bc ta tn tc h.1 h.2 w
  · have hsz : (mk s).size = s.length := by simp [mk, ByteArray.size]
    have hB := below_alloc w (.cells #[.int .i64 x0, .int .i64 x1, .string (mk s), .string (mk t), .slice b bn bc, .slice ta tn tc] 25)
    by_cases h1 : s.length ≤ 120
    · have h2 : ¬ bn ≤ 17000 := fun h2 => h ⟨h1, h2⟩
      clear h
      go_enter Try.func3, Try.ntmps3
      go_wp2
      go_ret
      exact ⟨rfl, hB⟩
    · clear h
      go_enter Try.func3, Try.ntmps3
      go_wp2
      go_ret
      exact ⟨rfl, hB⟩
end Go.Proofs.Ytkgipabcgbneoaa
