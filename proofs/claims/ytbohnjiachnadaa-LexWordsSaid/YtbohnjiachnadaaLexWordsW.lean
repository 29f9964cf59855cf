/-
  The law LexWords, walked.
-/
import Derived.Test.YtbohnjiachnadaaLxSame
import Derived.Test.YtbohnjiachnadaaLxRef
namespace Go.Proofs.Ytbohnjiachnadaa.Lx
open Go.RowKit

/-- a word against the three signs -/
theorem sign_eqs (p : Bs) : ∃ b1 b2 b3 : Bool, ((mk p).toList == [58]) = b1 ∧ ((mk p).toList == [124]) = b2 ∧ ((mk p).toList == [124, 124]) = b3 ∧ isSign p = (b1 || b2 || b3) := by
  refine ⟨_, _, _, rfl, rfl, rfl, ?_⟩
  rw [mk_toList]
  unfold isSign
  exact Bool.eq_iff_iff.2 (by simp [or_assoc])

set_option maxRecDepth 100000 in
set_option maxHeartbeats 4000000 in
theorem lexWords_w (A : ByteArray) (hA : A.size ≤ 9223372036854775807) (w : World) :
    Calls Try.prog 3 #[.string A] w fun e w' => e = .returned (.bool true) ∧ Below w.heap.size w w' := by
  obtain ⟨S, rfl⟩ : ∃ s, A = mk s := ⟨A.data.toList, (mk_of A).symm⟩
  have hz := mk_size S
  by_cases hl : 3000 < S.length
  · have hl' : 3000 < ((mk S).size : Int) := by omega
    go_enter Try.func3, Try.ntmps3
    go_wp2
    go_ret
    exact ⟨rfl, Below.refl _ _⟩
  have hl' : ¬ 3000 < ((mk S).size : Int) := by omega
  have hc1 := words_c S (by omega) w
  have hc2 := fun w1 => refWords_c S (by omega) w1
  have hcount := words_count S
  obtain ⟨R, hR⟩ : ∃ R, words S = R := ⟨_, rfl⟩
  rw [hR] at hc1 hcount
  simp only [hR] at hc2
  clear hR
  have hR3 : R.length ≤ 3000 := by omega
  obtain ⟨n, hn⟩ : ∃ n, R.length = n := ⟨_, rfl⟩
  rw [hn] at hR3
  have HN := Lib.hid hn
  clear hn hcount
  go_enter Try.func3, Try.ntmps3
  go_wp2_with fail
  refine hc1.mono ?_
  rintro e w1 ⟨v1, rfl, hv1, hb1⟩
  go_wp2_with fail
  refine (hc2 w1).mono ?_
  rintro e w2 ⟨v2, rfl, hv2, hb2⟩
  have HV1 := Lib.hid (hv1.below hb2)
  have HV2 := Lib.hid hv2
  have HB := Lib.hid (hb1.trans (hb2.mono hb1.size))
  obtain ⟨a1, c1, rfl, hac, _⟩ := hv1.below hb2
  rw [HN.out] at hac HV1 ⊢
  clear hv1 hv2 hb1 hb2 hc1 hc2
  go_wp2_with fail
  go_loopw [5] (fun i W' => ∃ j : Nat, i = .int .i64 j ∧ j ≤ n ∧ Hid (Strs W' (.slice a1 n c1) R) ∧ Hid (Strs W' v2 R) ∧ Hid (Below w.heap.size w W')) (fun i _ => n - (intOf i).toNat)
  case atStart => exact ⟨0, rfl, Nat.zero_le _, HV1, HV2, HB⟩
  case round =>
    clear HV1 HV2 HB
    obtain ⟨j, rfl, hj, HV1, HV2, HB⟩ := hrel
    by_cases hlt : j < n
    · obtain ⟨p, hp⟩ : ∃ p, R[j]? = some p := ⟨_, List.getElem?_eq_getElem (by rw [HN.out]; exact hlt)⟩
      have hne : R ≠ [] := by rintro rfl; cases hp
      obtain ⟨a, c, he, _, hcg⟩ := HV1.out
      cases he
      obtain ⟨g, off, rfl, _, hcg⟩ := hcg.resolve_left hne
      have cc := hcg j p hp
      have hs := fun W => (sign_c p W).mono fun e w' (h : _ ∧ _) => (⟨h.1, h.2.symm⟩ : _ ∧ _)
      obtain ⟨b1, b2, b3, e1, e2, e3, e4⟩ := sign_eqs p
      rw [e4] at hs
      clear hcg hne hp e4
      cases b1 <;> cases b2 <;> cases b3 <;>
      · go_wp2_with fail
        go_quiet ((go_at_call 13; exact Calls.quiet_of_same (hs _)))
        go_wp2
        go_roundw
        case rel => exact ⟨j + 1, by go_num, by omega, HV1, HV2, Lib.hid (below_drewN HB.out _)⟩
        case measure => simp [intOf]; omega
    · have hli : ¬ (j : Int) < (n : Int) := by omega
      have hsm := same_c HV1.out HV2.out (by rw [HN.out]; omega)
      have hs := sign_c S
      obtain ⟨b1, b2, b3, e1, e2, e3, e4⟩ := sign_eqs S
      rw [e4] at hs
      clear e4
      cases b1 <;> cases b2 <;> cases b3 <;>
      · go_wp2_with fail
        refine hsm.mono ?_
        rintro e w3 ⟨rfl, q, rfl⟩
        go_wp2_with fail
        refine (hs _).mono ?_
        rintro e w4 ⟨rfl, rfl⟩
        go_wp2_with fail
        refine (awake_c _).mono ?_
        rintro e w5 ⟨rfl, hb5⟩
        go_wp2_with fail
        go_ret
        exact ⟨rfl, (below_drewN HB.out q).trans (hb5.mono (below_drewN HB.out q).size)⟩
end Go.Proofs.Ytbohnjiachnadaa.Lx
