/-
  THE LAW CrcNoughts, WALKED.
-/
import Derived.Test.YtppboldeocjbhaaApp
import Derived.Deep.RegionWith
import Derived.Deep.OwnRows
namespace Go.Proofs.Ytppboldeocjbhaa
open Go.RowKit

theorem row_zeros {w : World} {b : Nat} (n : Nat) (t : TypeId) (fr : Nat × Nat) (hb : b = w.heap.size) : Row (w.alloc (.cells (madeCells #[.int .u8 0] n) t fr)) (some ⟨b, 0, none⟩) (Crc.zeros n) := by
  subst hb
  refine row_mark _ _ _ _ _ fun i hi => ?_
  have h : i < n := by simpa [Crc.zeros] using hi
  simp [Crc.zeros, madeCells, h, Nat.mod_one]

theorem Row.drew {w : World} {a : Option Addr} {l : List Nat} (h : Row w a l) : Row w.drew a l := by
  rcases h with h | ⟨b, off, h1, h2, h3⟩
  · exact .inl h
  · exact .inr ⟨b, off, h1, h2, h3⟩

theorem Row.alloc {w : World} {a : Option Addr} {l : List Nat} (h : Row w a l) (o : Obj) : Row (w.alloc o) a l := h.below (below_alloc _ _)

theorem below_step {w W w1 : World} (hb : Below W.heap.size W w1) (h : Below w.heap.size w W) : Below w.heap.size w w1 := h.trans (hb.mono h.size)

theorem below_al {w W : World} (h : Below w.heap.size w W) (o : Obj) : Below w.heap.size w (W.alloc o) := h.alloc h.size _

theorem zeros_lt (n : Nat) : ∀ x ∈ Crc.zeros n, x < 256 := by
  intro x hx
  have := List.eq_of_mem_replicate hx
  omega

theorem zeros_length (n : Nat) : (Crc.zeros n).length = n := by simp [Crc.zeros]

set_option maxHeartbeats 1000000 in
theorem lawnoughts_any (a b : Nat) (w : World) (ha : a < 65536) (hb : b < 65536) :
    Calls Try.prog 7 #[.int .u16 (a : Int), .int .u16 (b : Int)] w fun e w' => e = .returned (.bool true) ∧ Below w.heap.size w w' := by
  go_enter Try.func7, Try.ntmps7
  go_wp2_with fail
  rw [show ((a : Int) % 1000) = ((a % 1000 : Nat) : Int) from by omega, show ((b : Int) % 1000) = ((b % 1000 : Nat) : Int) from by omega]
  have hn : a % 1000 < 1000 := by omega
  have hm : b % 1000 < 1000 := by omega
  generalize a % 1000 = n at *
  generalize b % 1000 = m at *
  have mkn := run_make_row' (P := Try.prog) 22 5 (.int .u8 0) 1 Try.underlying22 info5 rfl .i64 .i64 n (by omega) (by omega)
  by_cases hnm : n = m
  · subst hnm
    go_region_with (first | (go_at_call 10; refine (sum_any _ n n (Crc.zeros n) _ (zeros_lt n) (by rw [zeros_length]; omega) (zeros_length n).symm (by repeat (first | (with_reducible assumption) | ((with_reducible refine row_zeros _ _ _ ?_); (simp; done)) | (with_reducible apply Row.drew) | (with_reducible apply Row.alloc) | (with_reducible refine Row.below ?_ (by assumption))))).mono ?_; rintro e w1 ⟨rfl, hbw1⟩) | (go_at_call 14; refine (awake_any _).mono ?_; rintro e w9 ⟨rfl, hb9⟩))
    all_goals go_wp2_with fail
    all_goals go_ret
    all_goals exact ⟨rfl, by repeat (first | (with_reducible exact Below.refl _ _) | (with_reducible apply Below.drew) | (with_reducible apply below_al) | (with_reducible refine below_step (by assumption) ?_))⟩
  · have mkm := run_make_row' (P := Try.prog) 22 5 (.int .u8 0) 1 Try.underlying22 info5 rfl .i64 .i64 m (by omega) (by omega)
    have t1 : ((n : Int) == (m : Int)) = false := by rw [beq_eq_false_iff_ne]; omega
    have t2 : (((Crc.sum (Crc.zeros n) : Nat) : Int) == ((Crc.sum (Crc.zeros m) : Nat) : Int)) = false := by
      rw [beq_eq_false_iff_ne]
      intro h
      exact hnm ((Crc.noughts hn hm).1 (by omega))
    go_region_with (first | (go_at_call_of 10 n; refine (sum_any _ n n (Crc.zeros n) _ (zeros_lt n) (by rw [zeros_length]; omega) (zeros_length n).symm (by repeat (first | (with_reducible assumption) | ((with_reducible refine row_zeros _ _ _ ?_); (simp; done)) | (with_reducible apply Row.drew) | (with_reducible apply Row.alloc) | (with_reducible refine Row.below ?_ (by assumption))))).mono ?_; rintro e w1 ⟨rfl, hbw1⟩) | (go_at_call_of 10 m; refine (sum_any _ m m (Crc.zeros m) _ (zeros_lt m) (by rw [zeros_length]; omega) (zeros_length m).symm (by repeat (first | (with_reducible assumption) | ((with_reducible refine row_zeros _ _ _ ?_); (simp; done)) | (with_reducible apply Row.drew) | (with_reducible apply Row.alloc) | (with_reducible refine Row.below ?_ (by assumption))))).mono ?_; rintro e w2 ⟨rfl, hbw2⟩) | (go_at_call 14; refine (awake_any _).mono ?_; rintro e w9 ⟨rfl, hb9⟩))
    all_goals go_wp2_with fail
    all_goals go_ret
    all_goals exact ⟨rfl, by repeat (first | (with_reducible exact Below.refl _ _) | (with_reducible apply Below.drew) | (with_reducible apply below_al) | (with_reducible refine below_step (by assumption) ?_))⟩
end Go.Proofs.Ytppboldeocjbhaa
