/-
  The law PathAgain, walked.
-/
import Derived.Test.YteakcmnjmcbkhaaAwake
namespace Go.Proofs.Yteakcmnjmcbkhaa
open Go.RowKit

/-- what Join makes of a path's directory and its base is the path -/
theorem whole_again {c : Bs} (h : c.head? ≠ some 47) : wholeL (dirL c) (baseL c) = c := by
  rcases last_spec c with ⟨hl, hn⟩ | ⟨a, b, rfl, hb, hl⟩
  · unfold wholeL dirL baseL
    rw [hl]
    simp
  · have hd : dirL (a ++ 47 :: b) = a := by unfold dirL; rw [hl]; simp
    have hb2 : baseL (a ++ 47 :: b) = b := by
      unfold baseL
      rw [hl, show (((a.length : Int) + 1).toNat) = a.length + 1 by omega, List.drop_append]
      simp
    rw [hd, hb2]
    unfold wholeL
    rw [if_neg]
    rintro rfl
    exact h rfl

theorem right_nil (s : Bs) (h : (cleanL s).2 ≠ 0) : rightL s = false := by
  unfold rightL
  rw [decide_eq_false h, Bool.false_and]

set_option maxHeartbeats 1000000 in
theorem again_w (S : ByteArray) (hS : S.size ≤ 9223372036854775807) (w : World) :
    Calls Try.prog 5 #[.string S] w fun e w' => e = .returned (.bool true) ∧ Below w.heap.size w w' := by
  obtain ⟨s, rfl⟩ : ∃ s, S = mk s := ⟨S.data.toList, (mk_of S).symm⟩
  have hz := mk_size s
  by_cases hl : 300 < s.length
  · have hl' : 300 < ((mk s).size : Int) := by omega
    go_enter Try.func5, Try.ntmps5
    go_wp2
    go_ret
    exact ⟨rfl, Below.refl _ _⟩
  have hl' : ¬ 300 < ((mk s).size : Int) := by omega
  have hc1 := fun w1 => clean_c s (by omega) w1
  rcases cleanL_cases s with ⟨er, hC, her⟩ | ⟨_, _, hg, hne, hlen, hC⟩
  · have hr : rightL s = false := right_nil s (by rw [hC]; rcases her with h | h <;> simp [h])
    have hc2 := fun w1 => right_c s (by omega) w1
    simp only [hr] at hc2
    simp only [hC] at hc1
    have en : (mk []).toList.isEmpty = true := by rw [mk_toList]; rfl
    have hen : ¬ er = 0 := by omega
    have hen2 : (er != 0) = true := by simp; exact hen
    clear hr hC her hl
    go_enter Try.func5, Try.ntmps5
    go_wp2_with fail
    refine (hc1 w).mono ?_
    rintro e w1 ⟨rfl, hb1⟩
    go_wp2_with fail
    refine (hc2 w1).mono ?_
    rintro e w2 ⟨rfl, hb2⟩
    have hb := hb1.trans (hb2.mono hb1.size)
    clear hb1 hb2
    go_wp2_with fail
    refine (awake_c w2).mono ?_
    rintro e w3 ⟨rfl, hb3⟩
    go_wp2
    go_ret
    exact ⟨rfl, hb.trans (hb3.mono hb.size)⟩
  · have hC2 := cleanL_joinL hg hne hlen
    have hw := whole_again (head_joinL _ hg)
    obtain ⟨c, hc⟩ : ∃ c, joinL (kept s) = c := ⟨_, rfl⟩
    rw [hc] at hC hC2 hw hlen
    have hrt : rightL c = true := by unfold rightL; rw [hC2]; simp
    have hc2 := fun w1 => clean_c c (by omega) w1
    have hc3 := fun w1 => dir_c c (by omega) w1
    have hc4 := fun w1 => base_c c (by omega) w1
    have hc5 := fun w1 => join_c (dirL c) (baseL c) (by unfold dirL; rw [List.length_take]; omega) (by unfold baseL; rw [List.length_drop]; omega) w1
    have hc6 := fun w1 => right_c c (by omega) w1
    simp only [hC] at hc1
    simp only [hC2] at hc2
    simp only [hw, hC2] at hc5
    simp only [hrt] at hc6
    clear hC hC2 hw hrt hg hne hc hl
    generalize dirL c = D at *
    generalize baseL c = B at *
    go_enter Try.func5, Try.ntmps5
    go_wp2_with fail
    refine (hc1 w).mono ?_
    rintro e w1 ⟨rfl, hb1⟩
    go_wp2_with fail
    refine (hc2 w1).mono ?_
    rintro e w2 ⟨rfl, hb2⟩
    have hb := hb1.trans (hb2.mono hb1.size)
    clear hb1 hb2
    go_wp2_with fail
    refine (hc3 w2).mono ?_
    rintro e w3 ⟨rfl, hb3⟩
    have hb' := hb.trans (hb3.mono hb.size)
    clear hb hb3
    go_wp2_with fail
    refine (hc4 w3).mono ?_
    rintro e w4 ⟨rfl, hb4⟩
    have hb := hb'.trans (hb4.mono hb'.size)
    clear hb' hb4
    go_wp2_with fail
    refine (hc5 w4).mono ?_
    rintro e w5 ⟨rfl, hb5⟩
    have hb' := hb.trans (hb5.mono hb.size)
    clear hb hb5
    go_wp2_with fail
    refine (hc6 w5).mono ?_
    rintro e w6 ⟨rfl, hb6⟩
    have hb := hb'.trans (hb6.mono hb'.size)
    clear hb' hb6
    go_wp2_with fail
    refine (awake_c w6).mono ?_
    rintro e w7 ⟨rfl, hb7⟩
    go_wp2
    go_ret
    exact ⟨rfl, hb.trans (hb7.mono hb.size)⟩
end Go.Proofs.Yteakcmnjmcbkhaa
