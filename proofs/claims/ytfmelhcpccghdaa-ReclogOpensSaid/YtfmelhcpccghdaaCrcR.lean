/-
  THE DOCUMENT's OWN SUM, WALKED.
-/
import Derived.Test.YtfmelhcpccghdaaCrcW
namespace Go.Proofs.Ytfmelhcpccghdaa.Cr
open Go.RowKit
/-! the document's own sum -/
theorem and1 (n : Nat) (hn : n < 4294967296) : bits BinOp.and IntKind.u32 (n : Int) 1 = ((n % 2 : Nat) : Int) := by
  have := u32_and_nat n 1 hn (by omega)
  rw [nat_mask1] at this
  exact this

theorem shr1 (x j : Nat) (hx : x < 256) : bits BinOp.and IntKind.u32 ((x : Int) / 2 ^ j % 4294967296) 1 = ((x / 2 ^ j % 2 : Nat) : Int) := by
  have h0 : x / 2 ^ j ≤ x := Nat.div_le_self _ _
  have h1 : ((x : Int) / 2 ^ j % 4294967296) = ((x / 2 ^ j : Nat) : Int) := by
    have : ((x / 2 ^ j : Nat) : Int) = (x : Int) / 2 ^ j := by push_cast; rfl
    rw [← this]
    generalize x / 2 ^ j = q at *
    omega
  rw [h1, and1 _ (by omega)]

/-- the two ways of a round: the state's lowest bit is the stream's next one, or not -/
theorem ref_ne {l : List Nat} {k n x : Nat} (hn : n < 4294967296) (hx : x < 256) (hg : l.getD (k / 8) 0 = x) (hst : Crc.st 4294967295 (Crc.bitAt l) k = n)
    (h : (bits BinOp.and IntKind.u32 (n : Int) 1 != bits BinOp.and IntKind.u32 ((x : Int) / 2 ^ (k % 8) % 4294967296) 1) = true) :
    bits BinOp.xor IntKind.u32 ((n : Int) / 2) 3988292384 = ((Crc.st 4294967295 (Crc.bitAt l) (k + 1) : Nat) : Int) := by
  rw [and1 n hn, shr1 x _ hx, bne_iff_ne] at h
  have hb : Crc.bitAt l k = x / 2 ^ (k % 8) % 2 := by unfold Crc.bitAt; rw [hg]
  simp only [Crc.st]
  rw [hst, ← Crc.rstep_eq n _ (Crc.bitAt_lt l k), hb]
  unfold Crc.rstep
  rw [if_neg (by omega), show (n : Int) / 2 = ((n / 2 : Nat) : Int) from by omega, show (3988292384 : Int) = ((Crc.P : Nat) : Int) from rfl, u32_xor_nat _ _ (by omega) Crc.P_lt]

theorem ref_eq {l : List Nat} {k n x : Nat} (hn : n < 4294967296) (hx : x < 256) (hg : l.getD (k / 8) 0 = x) (hst : Crc.st 4294967295 (Crc.bitAt l) k = n)
    (h : (bits BinOp.and IntKind.u32 (n : Int) 1 != bits BinOp.and IntKind.u32 ((x : Int) / 2 ^ (k % 8) % 4294967296) 1) = false) :
    (n : Int) / 2 = ((Crc.st 4294967295 (Crc.bitAt l) (k + 1) : Nat) : Int) := by
  rw [and1 n hn, shr1 x _ hx, bne_eq_false_iff_eq] at h
  have hb : Crc.bitAt l k = x / 2 ^ (k % 8) % 2 := by unfold Crc.bitAt; rw [hg]
  simp only [Crc.st]
  rw [hst, ← Crc.rstep_eq n _ (Crc.bitAt_lt l k), hb]
  unfold Crc.rstep
  rw [if_pos (by omega)]
  omega

theorem refsum_some (b off cap : Nat) (l : List Nat) (w : World) (hl : ∀ n ∈ l, n < 256) (hlen : l.length ≤ 140737488351232)
    (hrow : ∀ i, i < l.length → w.cell? ⟨b, off + i, none⟩ = some (.int .u8 ((l.getD i 0 : Nat) : Int))) :
    Calls Try.prog 28 #[.slice (some ⟨b, off, none⟩) l.length cap] w fun e w' => e = .returned (.int .u32 (Crc.sum l : Int)) ∧ w = w' := by
  have Hrow := Lib.hid hrow
  clear hrow
  go_enter Try.func28, Try.ntmps28
  go_wp2_with fail
  go_loop [3, 4] (fun v i => ∃ k : Nat, k ≤ 8 * l.length ∧ i = .int .i64 k ∧ v = .int .u32 ((Crc.st 4294967295 (Crc.bitAt l) k : Nat) : Int)) (fun _ i => 8 * l.length - (intOf i).toNat)
  case atStart => exact ⟨0, by omega, rfl, rfl⟩
  case round =>
    obtain ⟨k, hk, rfl, rfl⟩ := hrel
    by_cases hlt : k < 8 * l.length
    · have hn := Crc.st_lt (s := 4294967295) (by omega) (Crc.bitAt_lt l) k
      have hx : l.getD (k / 8) 0 < 256 := Crc.getD_lt hl _
      have hcell := Hrow.out (k / 8) (by omega)
      generalize hst : Crc.st 4294967295 (Crc.bitAt l) k = n at *
      have Hst := Lib.hid hst
      clear hst
      generalize hg : l.getD (k / 8) 0 = x at *
      have Hg := Lib.hid hg
      clear hg
      go_wp2_with fail
      · have ht : (bits BinOp.and IntKind.u32 (n : Int) 1 != bits BinOp.and IntKind.u32 ((x : Int) / 2 ^ (k % 8) % 4294967296) 1) = true := by assumption
        go_round
        case rel => exact ⟨k + 1, by omega, by go_num, val_eq (ref_ne hn hx Hg.out Hst.out ht)⟩
        case measure => simp [intOf]; omega
      · have ht : (bits BinOp.and IntKind.u32 (n : Int) 1 != bits BinOp.and IntKind.u32 ((x : Int) / 2 ^ (k % 8) % 4294967296) 1) = false := by assumption
        go_round
        case rel => exact ⟨k + 1, by omega, by go_num, val_eq (ref_eq hn hx Hg.out Hst.out ht)⟩
        case measure => simp [intOf]; omega
    · have he : k = 8 * l.length := by omega
      have hs : Crc.st 4294967295 (Crc.bitAt l) k = Crc.fold (Crc.inv 0) l := by rw [he]; exact Crc.st_all _ l hl
      have hf := Crc.fold_lt l (Crc.inv_lt 0) hl
      have hfin : Crc.sum l = 4294967295 - Crc.fold (Crc.inv 0) l := rfl
      rw [hs]
      clear hs
      have Hfin := Lib.hid hfin
      clear hfin
      generalize Crc.fold (Crc.inv 0) l = n at *
      go_wp2_with fail
      go_ret
      exact ⟨ret_eq (by rw [Hfin.out]; omega), rfl⟩

theorem refsum_none (a : Option Addr) (cap : Nat) (w : World) :
    Calls Try.prog 28 #[.slice a 0 cap] w fun e w' => e = .returned (.int .u32 0) ∧ w = w' := by
  go_enter Try.func28, Try.ntmps28
  go_wp2_with fail
  refine wp_loop_rounds 1 ?_
  rw [rounds_succ]
  go_wp2_with fail
  go_ret
  exact ⟨rfl, rfl⟩

theorem refsum_any (a : Option Addr) (n cap : Nat) (l : List Nat) (w : World) (hl : ∀ n ∈ l, n < 256) (hlen : l.length ≤ 140737488351232)
    (hn : n = l.length) (hrow : Row w a l) :
    Calls Try.prog 28 #[.slice a n cap] w fun e w' => e = .returned (.int .u32 (Crc.sum l : Int)) ∧ w = w' := by
  subst hn
  rcases hrow with rfl | ⟨b, off, rfl, _, hrow⟩
  · exact refsum_none a cap w
  · exact refsum_some b off cap l w hl hlen hrow

end Go.Proofs.Ytfmelhcpccghdaa.Cr
