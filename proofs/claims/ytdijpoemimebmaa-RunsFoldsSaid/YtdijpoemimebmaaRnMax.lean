/-
  A ROW OF RUNS HAS NO MORE THAN AN int TELLS.
-/
import Derived.Test.YtdijpoemimebmaaRnArg
namespace Go.Proofs.Ytdijpoemimebmaa.Rn
open Go.RowKit Go.Maps Go.ChangeShapes Go.WideShapes Go.Deep
open Go.Proofs.Ytdijpoemimebmaa.Cr

set_option maxRecDepth 100000

theorem runs_max {H : Type} {enc : TypeId × Value → H} {w : World} {base : Nat} {spare : Nat → Bool} {held : Bool} {v : Value} {d : DataW H} {p : List MemPlace} {r : Reach} {b0 : Nat} {L : List Run} (hv : Value.okWide Try.prog w r b0 45 v) (h : DataW.Trod enc Try.prog w base spare held 45 v d p) (hr : RunRow w v L) :
    L.length ≤ 9223372036854775807 := by
  obtain ⟨a, c, rfl, _, hle, _⟩ := hr
  obtain ⟨m, hm⟩ := h
  have hm : DataW.trod enc Try.prog w base spare held m 45 [.slice a L.length c] = some (d, p) := hm
  rcases open_slice Try.underlying45 hm with ⟨e, _⟩ | ⟨a2, len, cap, mm, n, D, Pl, e, _, hlc, hcm, hmm, _, hel⟩
  · simp only [List.cons.injEq, and_true, Value.slice.injEq] at e
    omega
  · simp only [List.cons.injEq, and_true, Value.slice.injEq] at e
    have : cap ≤ 9223372036854775807 := hcm
    omega
end Go.Proofs.Ytdijpoemimebmaa.Rn
