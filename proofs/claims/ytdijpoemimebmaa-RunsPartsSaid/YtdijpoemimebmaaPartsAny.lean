/-
  THE LAW RunsParts, FOR ANY ARGUMENTS.
-/
import Derived.Test.YtdijpoemimebmaaPartsW
namespace Go.Proofs.Ytdijpoemimebmaa.Rn
open Go.RowKit
open Go.Proofs.Ytdijpoemimebmaa.Cr

set_option maxRecDepth 100000 in
set_option maxHeartbeats 4000000 in
theorem parts_c {w : World} {v : Value} {L : List Run} {at' : Nat} (h : RunRow w v L) (hL : L.length ≤ 9223372036854775807) (hat : at' < 256) :
    Calls Try.prog 7 #[v, .int .u8 (at' : Int)] w fun e w' => e = .returned (.bool true) ∧ Below w.heap.size w w' := by
  cases hall : allB L with
  | true => exact parts_main h hat hall
  | false =>
    have cA := all_c h hL
    rw [hall] at cA
    have HB := Lib.hid (Below.refl w.heap.size w)
    obtain ⟨a, c, rfl, -, -, -⟩ := h.at
    clear hall h
    go_enter Try.func7, Try.ntmps7
    go_wp2_with fail
    refine cA.mono ?_
    rintro e w1 ⟨rfl, hb1⟩
    have HB1 := Lib.hid (HB.out.trans (hb1.mono HB.out.size))
    clear cA hb1
    go_wp2_with fail
    go_ret
    exact ⟨rfl, HB1.out⟩
end Go.Proofs.Ytdijpoemimebmaa.Rn
