/-
  RECORDS THAT ARE TOO LONG.
-/
import Derived.Test.YtfmelhcpccghdaaGreatRlRew
namespace Go.Proofs.YtfmelhcpccghdaaGreat.Rl
open Go.RowKit Go.Maps

variable {w : World} {p lp : Nat} {nm : List UInt8} {k : UInt8}

set_option maxRecDepth 100000 in
set_option maxHeartbeats 2000000 in
theorem append_long {lv a : Option Addr} {n c : Nat} (hn : 4096 < n) : Calls Tryz.prog 8 #[.pointer lv, .slice a n c] w fun e w' => e = .returned (.int .i64 3) ∧ w = w' := by
  have hf := frame_long (w := w) (a := a) (c := c) hn
  go_enter Tryz.func8, Tryz.ntmps8
  go_wp2_with fail
  refine hf.mono ?_
  rintro e w1 ⟨rfl, rfl⟩
  clear hf
  go_wp2
  go_ret
  exact ⟨rfl, rfl⟩

set_option maxRecDepth 100000 in
set_option maxHeartbeats 4000000 in
theorem rewrite_first {b o n c rn rc : Nat} {ra : Option Addr} (hlog : LogAt w lp p nm k) (hn : 1 ≤ n) (hn2 : n ≤ 10000) (hb : b < w.heap.size) (hc : w.cell? ⟨b, o, none⟩ = some (.slice ra rn rc)) (hr : 4096 < rn) :
    Calls Tryz.prog 10 #[.pointer (some ⟨lp, 0, none⟩), .slice (some ⟨b, o, none⟩) n c] w fun e w' => e = .returned (.int .i64 3) ∧ Below w.heap.size w w' := by
  have horn := orNone_c hlog
  have HC := Lib.hid hc
  clear hlog hc
  go_enter Tryz.func10, Tryz.ntmps10
  go_wp2_with fail
  refine horn.mono ?_
  rintro e w1 ⟨rfl, hb1⟩
  clear horn
  obtain ⟨wA, hwA⟩ : ∃ W, w1.alloc (.cells #[.pointer (some ⟨p, 0, none⟩), .string (mk nm), .int .u8 k.toNat] 61) = W := ⟨_, rfl⟩
  have hbA : Below w.heap.size w wA := by rw [← hwA]; exact hb1.alloc hb1.size _
  have hhd := head_c k wA
  rw [← hwA] at hhd hbA
  have HA := Lib.hid hbA
  clear hb1 hbA hwA
  go_wp2_with fail
  refine hhd.mono ?_
  rintro e w2 ⟨a8, c8, rfl, hown, hb2⟩
  clear hhd hown
  have hb02 := HA.out.trans (hb2.mono HA.out.size)
  have HB := Lib.hid (hb02.alloc hb02.size (.cells #[.slice a8 8 c8] 31))
  clear hb2 hb02 HA
  go_wp2_with fail
  go_loopw [19] (fun vi wr => vi = .int .i64 0 ∧ Hid (Below w.heap.size w wr)) (fun _ _ => 0)
  case atStart => exact ⟨rfl, HB⟩
  case round =>
    obtain ⟨rfl, HR⟩ := hrel
    clear HB
    have hcw := (HR.out.cell (p := ⟨b, o, none⟩) hb).trans HC.out
    have hf := frame_long (w := wr) (a := ra) (c := rc) hr
    have h1 : (0 : Int) < (n : Int) := by omega
    go_wp2_with fail
    refine hf.mono ?_
    rintro e w3 ⟨rfl, rfl⟩
    clear hf hcw
    go_wp2
    go_ret
    exact ⟨rfl, HR.out⟩
end Go.Proofs.YtfmelhcpccghdaaGreat.Rl
