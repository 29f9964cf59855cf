/-
  pack's READER's METHODS, WALKED.
-/
import Derived.Test.YtdgfnhgkncfmpaaPkRead
namespace Go.Proofs.Ytdgfnhgkncfmpaa.Pk
open Go.RowKit

/-- what a number of k bytes is read as, what is left, and whether there was not enough -/
def rdN (k : Nat) (l : List Nat) : Nat := if k ≤ l.length then num (l.take k) else 0
def rdL (k : Nat) (l : List Nat) : List Nat := if k ≤ l.length then l.drop k else []
def rdB (k : Nat) (l : List Nat) (bad : Bool) : Bool := if k ≤ l.length then bad else true

theorem rdN_lt (k : Nat) {l : List Nat} (hb : ∀ n ∈ l, n < 256) : rdN k l < 2 ^ (8 * k) := by
  unfold rdN
  split
  · have := num_lt (l.take k) (take_lt hb k)
    rwa [List.length_take, Nat.min_eq_left (by assumption)] at this
  · exact Nat.two_pow_pos _

theorem drop_lt {l : List Nat} (hl : ∀ n ∈ l, n < 256) (k : Nat) : ∀ n ∈ l.drop k, n < 256 := fun n hn => hl n (List.mem_of_mem_drop hn)

theorem rdL_lt (k : Nat) {l : List Nat} (hb : ∀ n ∈ l, n < 256) : ∀ n ∈ rdL k l, n < 256 := by
  unfold rdL
  split
  · exact drop_lt hb k
  · simp

theorem rdL_le (k : Nat) (l : List Nat) : (rdL k l).length ≤ l.length := by
  unfold rdL
  split <;> simp

/-- the bytes that come next, and what is left -/
def nx (k : Nat) (l : List Nat) : List Nat := if k ≤ l.length then l.take k else []

theorem nx_lt (k : Nat) {l : List Nat} (hb : ∀ n ∈ l, n < 256) : ∀ n ∈ nx k l, n < 256 := by
  unfold nx
  split
  · exact take_lt hb k
  · simp

theorem u32r_any (p g : Nat) (l : List Nat) (bad : Bool) (w : World) (h : Rd w p g l bad) (hl : l.length ≤ 1000000) (hb : ∀ n ∈ l, n < 256) :
    Calls Try.prog 62 #[.pointer (some ⟨p, 0, none⟩)] w fun e w' => e = .returned (.int .u32 (rdN 4 l : Int)) ∧ Rd w' p g (rdL 4 l) (rdB 4 l bad) ∧ Only p w w' := by
  by_cases hm : 4 ≤ l.length
  · have e1 : rdN 4 l = num (l.take 4) := if_pos hm
    have e2 : rdL 4 l = l.drop 4 := if_pos hm
    have e3 : rdB 4 l bad = bad := if_pos hm
    rw [e1, e2, e3]
    clear e1 e2 e3
    go_enter Try.func62, Try.ntmps62
    go_wp2_with fail
    refine (take32_ok p g l bad w h hm hl hb).mono ?_
    rintro e w1 ⟨rfl, hr, ho⟩
    go_wp2_with fail
    go_ret
    exact ⟨rfl, hr, ho⟩
  · have e1 : rdN 4 l = 0 := if_neg hm
    have e2 : rdL 4 l = [] := if_neg hm
    have e3 : rdB 4 l bad = true := if_neg hm
    rw [e1, e2, e3]
    clear e1 e2 e3
    go_enter Try.func62, Try.ntmps62
    go_wp2_with fail
    refine (take32_short p g l bad w h (by omega)).mono ?_
    rintro e w1 ⟨rfl, hr, ho⟩
    go_wp2_with fail
    go_ret
    exact ⟨rfl, hr, ho⟩

end Go.Proofs.Ytdgfnhgkncfmpaa.Pk
