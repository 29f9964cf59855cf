/-
  crc's HASH, AND THE DOCUMENT's, WALKED.
-/
import Derived.Test.YtdijpoemimebmaaPkF
import Derived.Test.YtdijpoemimebmaaCrc
namespace Go.Proofs.Ytdijpoemimebmaa.Ch
open Go.RowKit
open Go.Proofs.Ytdijpoemimebmaa.Pk (ret_eq val_eq Row below_alloc cell_new)
open Go.Proofs.Ytdijpoemimebmaa.Cr

/-- the hash's step -/
theorem hstep_any (h x : Nat) (a : Addr) (w : World) (hh : h < 18446744073709551616) (hx : x < 256) (hc : w.cell? a = some (.int .u64 1099511628211)) :
    Calls Try.prog 84 #[.int .u64 (h : Int), .int .u8 (x : Int), .pointer (some a)] w fun e w' => e = .returned (.int .u64 (Crc.hstep h x : Int)) ∧ w = w' := by
  have hxr : bits .xor .u64 (h : Int) (x : Int) = ((h ^^^ x : Nat) : Int) := u64_xor_nat h x hh (by omega)
  go_enter Try.func84, Try.ntmps84
  go_wp2_with fail
  go_ret
  refine ⟨ret_eq ?_, rfl⟩
  rw [IntKind.wrap_u64]
  unfold Crc.hstep
  omega

theorem multiplying_any (w : World) : Calls Try.prog 79 #[.int .u64 1099511628211] w fun e w' => e = .returned (.func (.func 84) #[] #[.pointer (some ⟨w.heap.size, 0, none⟩)]) ∧ w.alloc (.cells #[.int .u64 1099511628211] 66) = w' := by
  go_enter Try.func79, Try.ntmps79
  go_wp2_with fail
  go_ret
  exact ⟨rfl, rfl⟩

theorem fold64_some (s : Nat) (b off cap : Nat) (l : List Nat) (c : Addr) (w : World) (hs : s < 18446744073709551616) (hl : ∀ n ∈ l, n < 256) (hlen : l.length ≤ 140737488351232)
    (hrow : ∀ i, i < l.length → w.cell? ⟨b, off + i, none⟩ = some (.int .u8 ((l.getD i 0 : Nat) : Int))) (hc : w.cell? c = some (.int .u64 1099511628211)) :
    Calls Try.prog 78 #[.int .u64 (s : Int), .slice (some ⟨b, off, none⟩) l.length cap, .func (.func 84) #[] #[.pointer (some c)]] w fun e w' => e = .returned (.int .u64 (Crc.hfold s l : Int)) ∧ w = w' := by
  have Hrow := Lib.hid hrow
  clear hrow
  go_enter Try.func78, Try.ntmps78
  go_wp2_with fail
  go_loop [0, 11] (fun v i => ∃ k : Nat, k ≤ l.length ∧ i = .int .i64 k ∧ v = .int .u64 ((Crc.hfold s (l.take k) : Nat) : Int)) (fun _ i => l.length - (intOf i).toNat)
  case atStart => exact ⟨0, by omega, rfl, val_eq (by rw [List.take_zero, Crc.hfold_nil])⟩
  case round =>
    obtain ⟨k, hk, rfl, rfl⟩ := hrel
    by_cases hlt : k < l.length
    · have hn : Crc.hfold s (l.take k) < 18446744073709551616 := Crc.hfold_lt _ hs
      have hx : l.getD k 0 < 256 := Crc.getD_lt hl k
      have hcell := Hrow.out k hlt
      have hnext := Crc.hfold_succ hlt s
      generalize Crc.hfold s (l.take k) = n at *
      generalize l.getD k 0 = x at *
      have Hn := Lib.hid hnext
      clear hnext
      go_wp2_with (go_at_call 84; refine (hstep_any n x c _ hn hx hc).mono ?_; rintro e w' ⟨rfl, rfl⟩)
      go_round
      case rel => exact ⟨k + 1, by omega, by go_num, val_eq (by rw [Hn.out])⟩
      case measure => simp [intOf]; omega
    · have he : k = l.length := by omega
      have ht : Crc.hfold s (l.take k) = Crc.hfold s l := by rw [he, List.take_length]
      rw [ht]
      go_wp2_with fail
      go_ret
      exact ⟨rfl, rfl⟩

theorem fold64_none (s : Nat) (a : Option Addr) (cap : Nat) (f : Value) (w : World) :
    Calls Try.prog 78 #[.int .u64 (s : Int), .slice a 0 cap, f] w fun e w' => e = .returned (.int .u64 (s : Int)) ∧ w = w' := by
  go_enter Try.func78, Try.ntmps78
  go_wp2_with fail
  refine wp_loop_rounds 1 ?_
  rw [rounds_succ]
  go_wp2_with fail
  go_ret
  exact ⟨rfl, rfl⟩

theorem fold64_any (s : Nat) (a : Option Addr) (n cap : Nat) (l : List Nat) (c : Addr) (w : World) (hs : s < 18446744073709551616) (hl : ∀ n ∈ l, n < 256) (hlen : l.length ≤ 140737488351232)
    (hn : n = l.length) (hrow : Row w a l) (hc : w.cell? c = some (.int .u64 1099511628211)) :
    Calls Try.prog 78 #[.int .u64 (s : Int), .slice a n cap, .func (.func 84) #[] #[.pointer (some c)]] w fun e w' => e = .returned (.int .u64 (Crc.hfold s l : Int)) ∧ w = w' := by
  subst hn
  rcases hrow with rfl | ⟨b, off, rfl, _, hrow⟩
  · rw [Crc.hfold_nil]
    exact fold64_none s a cap _ w
  · exact fold64_some s b off cap l c w hs hl hlen hrow hc
theorem hash_any (a : Option Addr) (n cap : Nat) (l : List Nat) (w : World) (hl : ∀ n ∈ l, n < 256) (hlen : l.length ≤ 140737488351232)
    (hn : n = l.length) (hrow : Row w a l) :
    Calls Try.prog 60 #[.slice a n cap] w fun e w' => e = .returned (.int .u64 (Crc.hash l : Int)) ∧ Below w.heap.size w w' := by
  have Hn := Lib.hid hn
  clear hn
  go_enter Try.func60, Try.ntmps60
  go_wp2_with fail
  refine (multiplying_any _).mono ?_
  rintro e w1 ⟨rfl, rfl⟩
  go_wp2_with fail
  refine (fold64_any 14695981039346656037 a n cap l ⟨w.heap.size, 0, none⟩ _ (by omega) hl hlen Hn.out (hrow.below (below_alloc _ _)) (cell_new _ _ _)).mono ?_
  rintro e w1 ⟨rfl, rfl⟩
  go_wp2_with fail
  go_ret
  exact ⟨rfl, below_alloc _ _⟩

theorem ex_hash0 : Crc.hash [] = 14695981039346656037 := by decide +kernel

theorem hash_walk (n x : Nat) (hn : n < 18446744073709551616) (hx : x < 256) :
    IntKind.u64.wrap (IntKind.u64.wrap ((n : Int) - (n : Int) % 256 + bits BinOp.xor IntKind.u64 ((n : Int) % 256) (x : Int)) * 1099511628211) = ((Crc.hstep n x : Nat) : Int) := by
  have e1 : (n : Int) % 256 = ((n % 256 : Nat) : Int) := by omega
  have e2 : ((n % 256) ^^^ x) < 256 := Crc.xor_lt (n := 8) (by omega) hx
  have e3 : n ^^^ x = n - n % 256 + ((n % 256) ^^^ x) := by
    have hm : (n ^^^ x) % 256 = (n % 256) ^^^ x := by
      have := Nat.xor_mod_two_pow (a := n) (b := x) (n := 8)
      simp only [Nat.reducePow] at this
      rw [this, show x % 256 = x from by omega]
    have hd : (n ^^^ x) / 256 = n / 256 := by
      have := Nat.shiftRight_xor_distrib (a := n) (b := x) (i := 8)
      simp only [Nat.shiftRight_eq_div_pow, Nat.reducePow] at this
      rw [this, show x / 256 = 0 from by omega, Nat.xor_zero]
    omega
  rw [e1, u64_xor_nat _ _ (by omega) (by omega), IntKind.wrap_u64, IntKind.wrap_u64, Crc.hstep_def, e3]
  omega

theorem refhash_some (b off cap : Nat) (l : List Nat) (w : World) (hl : ∀ n ∈ l, n < 256) (hlen : l.length ≤ 140737488351232)
    (hrow : ∀ i, i < l.length → w.cell? ⟨b, off + i, none⟩ = some (.int .u8 ((l.getD i 0 : Nat) : Int))) :
    Calls Try.prog 37 #[.slice (some ⟨b, off, none⟩) l.length cap] w fun e w' => e = .returned (.int .u64 (Crc.hash l : Int)) ∧ w = w' := by
  have Hrow := Lib.hid hrow
  clear hrow
  go_enter Try.func37, Try.ntmps37
  go_wp2_with fail
  go_loop [3, 4] (fun v i => ∃ k : Nat, k ≤ l.length ∧ i = .int .i64 k ∧ v = .int .u64 ((Crc.hfold 14695981039346656037 (l.take k) : Nat) : Int)) (fun _ i => l.length - (intOf i).toNat)
  case atStart => exact ⟨0, by omega, rfl, val_eq (by rw [List.take_zero, Crc.hfold_nil]; rfl)⟩
  case round =>
    obtain ⟨k, hk, rfl, rfl⟩ := hrel
    by_cases hlt : k < l.length
    · have hn : Crc.hfold 14695981039346656037 (l.take k) < 18446744073709551616 := Crc.hfold_lt _ (by omega)
      have hx : l.getD k 0 < 256 := Crc.getD_lt hl k
      have hcell := Hrow.out k hlt
      have hnext := Crc.hfold_succ hlt 14695981039346656037
      generalize Crc.hfold 14695981039346656037 (l.take k) = n at *
      generalize l.getD k 0 = x at *
      have Hn := Lib.hid hnext
      clear hnext
      go_wp2_with fail
      go_round
      case rel => exact ⟨k + 1, by omega, by go_num, val_eq (by rw [Hn.out, hash_walk n x hn hx])⟩
      case measure => simp [intOf]; omega
    · have he : k = l.length := by omega
      have ht : Crc.hfold 14695981039346656037 (l.take k) = Crc.hash l := by rw [he, List.take_length]; rfl
      rw [ht]
      go_wp2_with fail
      go_ret
      exact ⟨rfl, rfl⟩

theorem refhash_none (a : Option Addr) (cap : Nat) (w : World) :
    Calls Try.prog 37 #[.slice a 0 cap] w fun e w' => e = .returned (.int .u64 14695981039346656037) ∧ w = w' := by
  go_enter Try.func37, Try.ntmps37
  go_wp2_with fail
  refine wp_loop_rounds 1 ?_
  rw [rounds_succ]
  go_wp2_with fail
  go_ret
  exact ⟨rfl, rfl⟩

theorem refhash_any (a : Option Addr) (n cap : Nat) (l : List Nat) (w : World) (hl : ∀ n ∈ l, n < 256) (hlen : l.length ≤ 140737488351232)
    (hn : n = l.length) (hrow : Row w a l) :
    Calls Try.prog 37 #[.slice a n cap] w fun e w' => e = .returned (.int .u64 (Crc.hash l : Int)) ∧ w = w' := by
  subst hn
  rcases hrow with rfl | ⟨b, off, rfl, _, hrow⟩
  · rw [ex_hash0]
    exact refhash_none a cap w
  · exact refhash_some b off cap l w hl hlen hrow

end Go.Proofs.Ytdijpoemimebmaa.Ch
