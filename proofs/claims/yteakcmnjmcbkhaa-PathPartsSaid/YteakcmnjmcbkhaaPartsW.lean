/-
  The law PathParts, walked.
-/
import Derived.Test.YteakcmnjmcbkhaaAwake
namespace Go.Proofs.Yteakcmnjmcbkhaa
open Go.RowKit

theorem bang_at (S : ByteArray) {j : Nat} (h : j < S.size) : S.data[j]! = S[j] := by
  have h' : j < S.data.size := h
  rw [getElem!_pos S.data j h']
  rfl

theorem lastIdx_lo (S : ByteArray) (j : Nat) : -1 ≤ Lib.lastIdx S 47 j ∧ Lib.lastIdx S 47 j < j + 1 := by
  rcases Lib.lastIdx_spec S 47 j with ⟨h, _⟩ | ⟨i, hi, h, _⟩
  · rw [h]; omega
  · rw [h]; omega

set_option maxHeartbeats 1000000 in
theorem parts_w (S T : ByteArray) (hS : S.size ≤ 9223372036854775807) (hT : T.size ≤ 9223372036854775807) (w : World) :
    Calls Try.prog 4 #[.string S, .string T] w fun e w' => e = .returned (.bool true) ∧ Below w.heap.size w w' := by
  by_cases hl : 300 < S.size
  · go_enter Try.func4, Try.ntmps4
    go_wp2
    go_ret
    exact ⟨rfl, Below.refl _ _⟩
  by_cases hl2 : 300 < T.size
  · go_enter Try.func4, Try.ntmps4
    go_wp2
    go_ret
    exact ⟨rfl, Below.refl _ _⟩
  go_enter Try.func4, Try.ntmps4
  go_wp2
  go_loopw [5, 6] (fun x i W => ∃ (j : Nat) (a : Int), j ≤ S.size ∧ i = .int .i64 j ∧ x = .int .i64 a ∧ Hid (Lib.lastIdx S 47 j = a) ∧ -1 ≤ a ∧ a ≤ 300 ∧ w = W) (fun _ i _ => S.size - (intOf i).toNat)
  case atStart => exact ⟨0, -1, Nat.zero_le _, rfl, rfl, Lib.hid rfl, by omega, by omega, rfl⟩
  case round =>
    obtain ⟨j, a, hj, rfl, rfl, HL, ha1, ha2, rfl⟩ := hrel
    by_cases hlt : j < S.size
    · have hbg := bang_at S hlt
      by_cases h47 : S[j] = 47
      · have e47 : ((S[j].toNat : Int) == 47) = true := by rw [h47]; rfl
        have HN := Lib.hid (Lib.lastIdx_hit S 47 j (by rw [hbg, h47]; rfl))
        clear hbg h47
        go_wp2
        go_roundw
        case rel => exact ⟨j + 1, j, by omega, by go_num, rfl, HN, by omega, by omega, trivial⟩
        case measure => simp [intOf]; omega
      · have hne : ¬ S[j].toNat = 47 := fun h => h47 (UInt8.toNat_inj.1 (by rw [h]; rfl))
        have e47 : ((S[j].toNat : Int) == 47) = false := by simp; omega
        have HN := Lib.hid ((Lib.lastIdx_miss S 47 j (by rw [hbg]; omega)).trans HL.out)
        clear hbg h47 hne
        go_wp2
        go_roundw
        case rel => exact ⟨j + 1, a, by omega, by go_num, rfl, HN, ha1, ha2, trivial⟩
        case measure => simp [intOf]; omega
    · obtain rfl : j = S.size := by omega
      obtain ⟨s, rfl⟩ : ∃ s, S = mk s := ⟨S.data.toList, (mk_of S).symm⟩
      obtain ⟨t, rfl⟩ : ∃ t, T = mk t := ⟨T.data.toList, (mk_of T).symm⟩
      have hla : lastS s = a := HL.out
      have z1 := mk_size s
      have z2 := mk_size t
      have hj := fun w1 => join_c s t (by omega) (by omega) w1
      have hr := fun w1 => refClean_c (wholeL s t) (by unfold wholeL; split; omega; simp; omega) w1
      have hd := fun w1 => dir_c s (by omega) w1
      have hba := fun w1 => base_c s (by omega) w1
      have hbound := (last_bounds s).2
      rw [hla] at hbound
      have hdd : dirL s = s.take a.toNat := by unfold dirL; rw [hla]
      have hbb : baseL s = s.drop (a + 1).toNat := by unfold baseL; rw [hla]
      obtain ⟨⟨c, e⟩, hC⟩ : ∃ C, cleanL (wholeL s t) = C := ⟨_, rfl⟩
      simp only [hC] at hj hr
      clear hC
      have hwt : (s = [] → wholeL s t = t) ∧ (s ≠ [] → mk (s ++ [47]) ++ mk t = mk (wholeL s t)) := ⟨fun h => if_pos h, fun h => by unfold wholeL; rw [if_neg h, mk_append]; simp⟩
      have hd1 : mk s ++ ⟨#[47]⟩ = mk (s ++ [47]) := mk_append s [47]
      have z4 := mk_size (s ++ [47])
      rw [List.length_append, List.length_singleton] at z4
      generalize wholeL s t = Wh at *
      generalize dirL s = D at *
      generalize baseL s = B at *
      have hxb : (mk s).extract (a + 1).toNat s.length = mk B := by
        rw [mk_extract, hbb]
        congr 1
        exact List.take_of_length_le (by rw [List.length_drop]; omega)
      by_cases hn : a = -1
      · have hd0 : D = [] := by rw [hdd, hn]; rfl
        subst hd0
        have eD : (mk []).toList.isEmpty = true := by rw [mk_toList]; rfl
        obtain ⟨p, hp0⟩ : ∃ p : Nat, p = 0 := ⟨0, rfl⟩
        obtain rfl : a = (p : Int) - 1 := by omega
        have hsum : (p : Int) - 1 + 1 = (p : Int) := by omega
        have hx0 : (mk s).extract p s.length = mk B := by rw [hsum] at hxb; exact hxb
        have hwr : IntKind.i64.wrap ((p : Int) - 1 + 1) = (p : Int) := by rw [hsum]; exact IntWalk.i64_in _ (by omega)
        have hneg : ¬ (0 : Int) ≤ (p : Int) - 1 := by omega
        have hwr2 : IntKind.i64.wrap (p : Int) = (p : Int) := IntWalk.i64_in _ (by omega)
        have hlo : (0 : Int) ≤ (p : Int) := by omega
        have hhi : (p : Int) ≤ ((mk s).size : Int) := by omega
        have hhi2 : (p : Int) ≤ (s.length : Int) := by omega
        by_cases hs0 : s = []
        · have e0 : (mk s).toList.isEmpty = true := by rw [mk_toList, hs0]; rfl
          obtain rfl := hwt.1 hs0
          clear hwt hdd hbb hxb hs0 hla HL hlt hn hbound ha1 ha2 hp0
          go_wp2_with fail
          refine (hj w).mono ?_
          rintro e w1 ⟨rfl, hb1⟩
          go_wp2_with fail
          refine (hr w1).mono ?_
          rintro e w2 ⟨rfl, hb2⟩
          have hb := hb1.trans (hb2.mono hb1.size)
          clear hb1 hb2
          go_wp2_with fail
          go_region_held3 (fun _ => True) (exact trivial)
            (first
              | (go_at_call 14; refine (hd _).mono ?_; rintro e w3 ⟨rfl, hb3⟩)
              | (go_at_call 15; refine (hba _).mono ?_; rintro e w4 ⟨rfl, hb4⟩)
              | (go_at_call 12; refine (awake_c _).mono ?_; rintro e w5 ⟨rfl, hb5⟩))
          go_wp2
          go_ret
          exact ⟨rfl, ((hb.drew.trans (hb3.mono hb.size)).trans (hb4.mono (Nat.le_trans hb.size hb3.size))).trans (hb5.mono (Nat.le_trans (Nat.le_trans hb.size hb3.size) hb4.size))⟩
        · have e0 : (mk s).toList.isEmpty = false := by rw [mk_toList]; cases s with | nil => exact absurd rfl hs0 | cons a r => rfl
          have hd2 := hwt.2 hs0
          clear hwt hdd hbb hxb hs0 hla HL hlt hn hbound ha1 ha2 hp0
          go_wp2_with fail
          refine (hj w).mono ?_
          rintro e w1 ⟨rfl, hb1⟩
          go_wp2_with fail
          refine (hr w1).mono ?_
          rintro e w2 ⟨rfl, hb2⟩
          have hb := hb1.trans (hb2.mono hb1.size)
          clear hb1 hb2
          go_wp2_with fail
          go_region_held3 (fun _ => True) (exact trivial)
            (first
              | (go_at_call 14; refine (hd _).mono ?_; rintro e w3 ⟨rfl, hb3⟩)
              | (go_at_call 15; refine (hba _).mono ?_; rintro e w4 ⟨rfl, hb4⟩)
              | (go_at_call 12; refine (awake_c _).mono ?_; rintro e w5 ⟨rfl, hb5⟩))
          go_wp2
          go_ret
          exact ⟨rfl, ((hb.drew.trans (hb3.mono hb.size)).trans (hb4.mono (Nat.le_trans hb.size hb3.size))).trans (hb5.mono (Nat.le_trans (Nat.le_trans hb.size hb3.size) hb4.size))⟩
      · obtain ⟨o, rfl⟩ : ∃ o : Nat, a = (o : Int) := ⟨a.toNat, by omega⟩
        have hs0 : s ≠ [] := by rintro rfl; simp at hbound; omega
        have e0 : (mk s).toList.isEmpty = false := by rw [mk_toList]; cases s with | nil => exact absurd rfl hs0 | cons a r => rfl
        have hd2 := hwt.2 hs0
        have hxd : (mk s).extract 0 o = mk D := by rw [mk_extract, hdd]; simp
        have hxb2 : (mk s).extract (o + 1) s.length = mk B := hxb
        have hwr : IntKind.i64.wrap ((o : Int) + 1) = (o : Int) + 1 := IntWalk.i64_in _ (by omega)
        have hlo : (0 : Int) ≤ (o : Int) + 1 := by omega
        have hhi : (o : Int) + 1 ≤ ((mk s).size : Int) := by omega
        have hhi2 : (o : Int) + 1 ≤ (s.length : Int) := by omega
        clear hwt hdd hbb hxb hs0 hla HL hlt
        go_wp2_with fail
        refine (hj w).mono ?_
        rintro e w1 ⟨rfl, hb1⟩
        go_wp2_with fail
        refine (hr w1).mono ?_
        rintro e w2 ⟨rfl, hb2⟩
        have hb := hb1.trans (hb2.mono hb1.size)
        clear hb1 hb2
        go_wp2_with fail
        go_region_held3 (fun _ => True) (exact trivial)
          (first
            | (go_at_call 14; refine (hd _).mono ?_; rintro e w3 ⟨rfl, hb3⟩)
            | (go_at_call 15; refine (hba _).mono ?_; rintro e w4 ⟨rfl, hb4⟩)
            | (go_at_call 12; refine (awake_c _).mono ?_; rintro e w5 ⟨rfl, hb5⟩))
        go_wp2
        go_ret
        exact ⟨rfl, ((hb.drew.trans (hb3.mono hb.size)).trans (hb4.mono (Nat.le_trans hb.size hb3.size))).trans (hb5.mono (Nat.le_trans (Nat.le_trans hb.size hb3.size) hb4.size))⟩
end Go.Proofs.Yteakcmnjmcbkhaa
