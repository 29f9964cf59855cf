/-
  THE LAW CrcSums, WALKED.
-/
import Derived.Test.YtppboldeocjbhaaRef
namespace Go.Proofs.Ytppboldeocjbhaa
open Go.RowKit

theorem sums_any (a : Option Addr) (n cap : Nat) (l : List Nat) (w : World) (hl : ∀ n ∈ l, n < 256)
    (hn : n = l.length) (hrow : Row w a l) :
    Calls Try.prog 3 #[.slice a n cap] w fun e w' => e = .returned (.bool true) ∧ Below w.heap.size w w' := by
  have Hn := Lib.hid hn
  clear hn
  by_cases hbig : 3000 < n
  · go_enter Try.func3, Try.ntmps3
    go_wp2_with fail
    go_ret
    exact ⟨rfl, Below.refl _ _⟩
  · have hlen : l.length ≤ 140737488351232 := by have := Hn.out; omega
    go_enter Try.func3, Try.ntmps3
    go_wp2_with fail
    refine (sum_any a n cap l _ hl hlen Hn.out hrow).mono ?_
    rintro e w1 ⟨rfl, hb1⟩
    go_wp2_with fail
    refine (refsum_any a n cap l _ hl hlen Hn.out (hrow.below hb1)).mono ?_
    rintro e w2 ⟨rfl, rfl⟩
    go_wp2_with fail
    refine (hash_any a n cap l _ hl hlen Hn.out (hrow.below hb1)).mono ?_
    rintro e w2 ⟨rfl, hb2⟩
    have hb2 := hb1.trans (hb2.mono hb1.size)
    go_wp2_with fail
    refine (refhash_any a n cap l _ hl hlen Hn.out (hrow.below hb2)).mono ?_
    rintro e w3 ⟨rfl, rfl⟩
    go_wp2_with fail
    refine (awake_any _).mono ?_
    rintro e w3 ⟨rfl, hb3⟩
    have hb3 := hb2.trans (hb3.mono hb2.size)
    go_wp2_with fail
    go_ret
    exact ⟨rfl, hb3⟩
end Go.Proofs.Ytppboldeocjbhaa
