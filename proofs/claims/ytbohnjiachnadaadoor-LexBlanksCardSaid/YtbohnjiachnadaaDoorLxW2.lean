/-
  lex.Words, WALKED WHOLE.
-/
import Derived.Test.YtbohnjiachnadaaDoorLxW
namespace Go.Proofs.YtbohnjiachnadaaDoor.Lx
open Go.RowKit

theorem drop_at {S : Bs} {j : Nat} {c : UInt8} (h : S[j]? = some c) : S.drop j = c :: S.drop (j + 1) := by
  obtain ⟨hj, e⟩ := List.getElem?_eq_some_iff.1 h
  rw [← e]
  exact List.drop_eq_getElem_cons hj

theorem take_one {S : Bs} {a j : Nat} {c : UInt8} (h : S[j]? = some c) (ha : a ≤ j) : (S.drop a).take (j + 1 - a) = (S.drop a).take (j - a) ++ [c] := by
  rw [show j + 1 - a = j - a + 1 by omega, List.take_add_one]
  congr 1
  rw [List.getElem?_drop, show a + (j - a) = j by omega, h]
  rfl

theorem take_two {S : Bs} {a j : Nat} {c : UInt8} (h : S[j]? = some c) (ha : a ≤ j) : (S.drop a).take (j + 2 - a) = (S.drop a).take (j - a) ++ c :: (S.drop (j + 1)).take 1 := by
  rw [show j + 2 - a = j + 1 - a + 1 by omega, List.take_add_one, take_one h ha, List.append_assoc]
  congr 1
  rw [List.getElem?_drop, show a + (j + 1 - a) = j + 1 by omega]
  cases hd : S.drop (j + 1) with
  | nil =>
    have : S[j + 1]? = none := by
      rw [List.getElem?_eq_none_iff]
      have := congrArg List.length hd
      rw [List.length_drop, List.length_nil] at this
      omega
    rw [this]; rfl
  | cons d r =>
    have : S[j + 1]? = some d := by
      have h0 : (S.drop (j + 1))[0]? = some d := by rw [hd]; rfl
      rw [List.getElem?_drop] at h0
      exact h0
    rw [this]; rfl

theorem step_esc {S : Bs} {a j : Nat} {K R : List Bs} (h : S[j]? = some 36) (ha : a ≤ j) (hr : K ++ W ((S.drop a).take (j - a)) (S.drop j) = R) : K ++ W ((S.drop a).take (j + 2 - a)) (S.drop (j + 2)) = R := by
  rw [drop_at h, W_esc, List.drop_drop] at hr
  rw [take_two h ha]
  exact hr

theorem step_plain {S : Bs} {a j : Nat} {K R : List Bs} {c : UInt8} (h : S[j]? = some c) (ha : a ≤ j) (h0 : c ≠ 36) (h1 : c ≠ 32) (h2 : c ≠ 58) (h3 : c ≠ 124) (hr : K ++ W ((S.drop a).take (j - a)) (S.drop j) = R) : K ++ W ((S.drop a).take (j + 1 - a)) (S.drop (j + 1)) = R := by
  rw [drop_at h, W_plain _ _ _ h0 h1 h2 h3] at hr
  rw [take_one h ha]
  exact hr

theorem step_blank {S : Bs} {a j : Nat} {K R : List Bs} (h : S[j]? = some 32) (hr : K ++ W ((S.drop a).take (j - a)) (S.drop j) = R) : (K ++ fl ((S.drop a).take (j - a))) ++ W [] (S.drop (j + 1)) = R := by
  rw [drop_at h, W_blank] at hr
  rw [List.append_assoc]
  exact hr

theorem signN_of (l : Bs) : (signN l = 2 ∧ ∃ t, l = 124 :: 124 :: t) ∨ (signN l = 1 ∧ ¬ ∃ t, l = 124 :: 124 :: t) := by
  unfold signN
  split
  · rename_i h; exact .inl ⟨rfl, (prefix_bars l).1 h⟩
  · rename_i h; exact .inr ⟨rfl, fun e => h ((prefix_bars l).2 e)⟩

theorem sign_step {l : Bs} {c : UInt8} {r : Bs} (h : l = c :: r) (hc : c = 58 ∨ c = 124) : 1 ≤ signN l ∧ signN l ≤ 2 ∧ signN l ≤ l.length ∧ ∀ cur, W cur l = fl cur ++ (fl (l.take (signN l)) ++ W [] (l.drop (signN l))) := by
  subst h
  rcases signN_of (c :: r) with ⟨hs, t, ht⟩ | ⟨hs, hn⟩
  · rw [hs, ht]
    refine ⟨by omega, by omega, by simp, fun cur => ?_⟩
    rw [W_bar2]
    rfl
  · rw [hs]
    refine ⟨by omega, by omega, by simp, fun cur => ?_⟩
    rcases hc with rfl | rfl
    · rw [W_colon]; rfl
    · rw [W_bar1]
      · rfl
      · intro e
        cases r with
        | nil => cases e
        | cons d t => cases e; exact hn ⟨t, rfl⟩

theorem step_sign {S : Bs} {a j : Nat} {K R : List Bs} {c : UInt8} (h : S[j]? = some c) (hc : c = 58 ∨ c = 124) (hr : K ++ W ((S.drop a).take (j - a)) (S.drop j) = R) :
    ∃ n, signN (S.drop j) = n ∧ 1 ≤ n ∧ n ≤ 2 ∧ j + n ≤ S.length ∧ ((K ++ fl ((S.drop a).take (j - a))) ++ fl ((S.drop j).take (j + n - j))) ++ W [] (S.drop (j + n)) = R := by
  obtain ⟨h1, h2, h3, h4⟩ := sign_step (drop_at h) hc
  refine ⟨_, rfl, h1, h2, ?_, ?_⟩
  · rw [List.length_drop] at h3
    have := (List.getElem?_eq_some_iff.1 h).1
    omega
  · rw [h4, List.drop_drop] at hr
    rw [List.append_assoc, List.append_assoc, Nat.add_sub_cancel_left]
    exact hr

theorem step_end {S : Bs} {a j : Nat} {K R : List Bs} (hj : S.length ≤ j) (hr : K ++ W ((S.drop a).take (j - a)) (S.drop j) = R) : K ++ fl ((S.drop a).take (S.length - a)) = R := by
  rw [List.drop_eq_nil_of_le hj, W_end] at hr
  rw [← hr, List.take_of_length_le (i := j - a) (by rw [List.length_drop]; omega), List.take_of_length_le (by rw [List.length_drop]; omega)]

theorem app_count {S : Bs} {K R : List Bs} (h : K ++ R = words S) : K.length ≤ S.length := by
  have h1 := words_count S
  rw [← h, List.length_append] at h1
  omega

set_option maxRecDepth 100000 in
set_option maxHeartbeats 8000000 in
theorem words_c (S : Bs) (hS : S.length ≤ 100000) (w : World) :
    Calls Tryd.prog 9 #[.string (mk S)] w fun e w' => ∃ v, e = .returned v ∧ Strs w' v (words S) ∧ Below w.heap.size w w' := by
  obtain ⟨R, hR⟩ : ∃ R, words S = R := ⟨_, rfl⟩
  have HRR := Lib.hid hR
  rw [hR]
  clear hR
  have hz := mk_size S
  obtain ⟨B, hB⟩ : ∃ B, w.heap.size = B := ⟨_, rfl⟩
  have T0 : Tel w ((w.alloc (.cells #[.string (mk S)] 9)).alloc (.cells #[.slice none 0 0] 30)) w.heap.size (w.heap.size + 1) S (.slice none 0 0) [] := by
    refine ⟨?_, ?_, World.ownsRow_nil _ _ _ _, by omega, Nat.le_refl _, (below_alloc _ _).alloc (by simp) _⟩
    · exact (Below.heap_alloc _ _ _ (by simp)).trans (heap_alloc_new w _)
    · have := heap_alloc_new (w.alloc (.cells #[.string (mk S)] 9)) (.cells #[.slice none 0 0] 30)
      simpa using this
  have HT0 := Lib.hid T0
  have HB := Lib.hid hB
  clear T0 hB
  go_enter Tryd.func9, Tryd.ntmps9
  go_wp2
  go_step3
  go_wp2
  go_step3
  go_wp2
  go_loopw [5, 6, 7] (fun nx _ _ W' => ∃ (j : Nat) (v : Value) (K : List Bs), nx = .int .i64 j ∧ j ≤ S.length ∧ Hid (K ++ Lx.W [] (S.drop j) = R) ∧ Tel w W' w.heap.size (w.heap.size + 1) S v K) (fun nx _ _ _ => S.length - (intOf nx).toNat)
  case atStart => exact ⟨0, _, [], rfl, Nat.zero_le _, Lib.hid HRR.out, HT0.out⟩
  case round =>
    obtain ⟨a, v, K, rfl, ha, HW, T⟩ := hrel
    by_cases hlt : a < S.length
    · have hai : (a : Int) < ((mk S).size : Int) := by rw [hz]; omega
      have HT := Lib.hid T
      obtain ⟨cs, _⟩ := one_cell T.txt
      clear T HT0
      go_wp2_with fail
      go_loopw [7] (fun at' W' => ∃ j : Nat, at' = .int .i64 j ∧ a ≤ j ∧ j ≤ S.length + 1 ∧ Hid (K ++ Lx.W ((S.drop a).take (j - a)) (S.drop j) = R) ∧ wr = W') (fun at' _ => S.length + 1 - (intOf at').toNat)
      case atStart => exact ⟨a, rfl, Nat.le_refl _, by omega, Lib.hid (by rw [Nat.sub_self]; exact HW.out), rfl⟩
      case round =>
        obtain ⟨j, rfl, haj, hj, HJ, rfl⟩ := hrel
        by_cases hjl : j < S.length
        · have hji : (j : Int) < ((mk S).size : Int) := by rw [hz]; omega
          have hjs : j < (mk S).size := by rw [hz]; exact hjl
          have hb := get_mk S hjs
          obtain ⟨c, hc⟩ : ∃ c, (mk S)[j] = c := ⟨_, rfl⟩
          have h256 : c.toNat < 256 := c.toNat_lt
          have hcb : (mk S)[j].toNat = c.toNat := by rw [hc]
          rw [hc] at hb
          by_cases h36 : c = 36
          · have HN := Lib.hid (step_esc (h36 ▸ hb) haj HJ.out)
            have e36 : (((mk S)[j].toNat : Int) == 36) = true := by rw [hcb, h36]; rfl
            clear hb hc hcb h36
            go_wp2
            go_roundw
            case rel => exact ⟨j + 2, by go_num, by omega, by omega, HN, trivial⟩
            case measure => simp [intOf]; omega
          have e36 : (((mk S)[j].toNat : Int) == 36) = false := by
            have : ¬ c.toNat = 36 := fun h => h36 (UInt8.toNat_inj.1 (by rw [h]; rfl))
            rw [hcb]; simp; omega
          by_cases h32 : c = 32
          · have HN := Lib.hid (step_blank (h32 ▸ hb) HJ.out)
            have e32 : (((mk S)[j].toNat : Int) == 32) = true := by rw [hcb, h32]; rfl
            have hct := fun W' (h : Tel w W' w.heap.size (w.heap.size + 1) S v K) => tell_c h a j (by omega) (by omega) (by have := app_count (HJ.out.trans HRR.out.symm); omega)
            have hc0 := hct _ HT.out
            clear hb hc hcb h32 h36 hct
            go_wp2_with fail
            refine hc0.mono ?_
            rintro e W1 ⟨⟨z, rfl⟩, v1, T1⟩
            go_wp2_with fail
            go_roundw
            case rel => exact ⟨j + 1, v1, _, by go_num, by omega, HN, T1⟩
            case measure => simp [intOf]; omega
          have e32 : (((mk S)[j].toNat : Int) == 32) = false := by
            have : ¬ c.toNat = 32 := fun h => h32 (UInt8.toNat_inj.1 (by rw [h]; rfl))
            rw [hcb]; simp; omega
          by_cases hs : c = 58 ∨ c = 124
          · obtain ⟨n, hn, hn1, hn2, hnl, hnext⟩ := step_sign hb hs HJ.out
            have HN := Lib.hid hnext
            have hw1 : IntKind.i64.wrap ((j : Int) + (n : Int)) = ((j + n : Nat) : Int) := by rw [IntWalk.i64_in _ (by omega)]; omega
            have hsl : (mk S).extract j S.length = mk (S.drop j) := by
              rw [mk_extract, List.take_of_length_le (by rw [List.length_drop]; omega)]
            have hsn := sign_len (S.drop j)
            rw [hn] at hsn
            have e58 : ((((mk S)[j].toNat : Int) == 58) = true) ∨ ((((mk S)[j].toNat : Int) == 58) = false ∧ (((mk S)[j].toNat : Int) == 124) = true) := by
              rw [hcb]
              rcases hs with rfl | rfl
              · exact .inl rfl
              · exact .inr ⟨rfl, rfl⟩
            have hc0 := tell_c HT.out a j (by omega) (by omega) (by have := app_count (HJ.out.trans HRR.out.symm); omega)
            have HCN := Lib.hid (show (K ++ fl ((S.drop a).take (j - a))).length < 1000000 by
              have h1 := app_count ((List.append_assoc _ _ _).symm.trans (hnext.trans HRR.out.symm))
              omega)
            clear hb hc hcb h32 h36 hs hn hnext
            rcases e58 with e58 | ⟨e58, e124⟩
            all_goals go_wp2_with fail
            all_goals refine hc0.mono ?_
            all_goals rintro e W1 ⟨⟨z, rfl⟩, v1, T1⟩
            all_goals obtain ⟨cs1, _⟩ := one_cell T1.txt
            all_goals have hc1 := tell_c T1 j (j + n) (by omega) (by omega) HCN.out
            all_goals clear T1 hc0
            all_goals go_wp2_with fail
            all_goals refine (hsn _).mono ?_
            all_goals rintro e W2 ⟨rfl, rfl⟩
            all_goals go_wp2_with fail
            all_goals refine hc1.mono ?_
            all_goals rintro e W3 ⟨⟨z3, rfl⟩, v3, T3⟩
            all_goals go_wp2_with fail
            all_goals go_roundw
            case rel => exact ⟨j + n, v3, _, by go_num, by omega, HN, T3⟩
            case measure => simp [intOf]; omega
            case rel => exact ⟨j + n, v3, _, by go_num, by omega, HN, T3⟩
            case measure => simp [intOf]; omega
          · have HN := Lib.hid (step_plain hb haj h36 h32 (fun e => hs (.inl e)) (fun e => hs (.inr e)) HJ.out)
            have e58 : (((mk S)[j].toNat : Int) == 58) = false := by
              have : ¬ c.toNat = 58 := fun h => hs (.inl (UInt8.toNat_inj.1 (by rw [h]; rfl)))
              rw [hcb]; simp; omega
            have e124 : (((mk S)[j].toNat : Int) == 124) = false := by
              have : ¬ c.toNat = 124 := fun h => hs (.inr (UInt8.toNat_inj.1 (by rw [h]; rfl)))
              rw [hcb]; simp; omega
            clear hb hc hcb h32 h36 hs
            go_wp2
            go_roundw
            case rel => exact ⟨j + 1, by go_num, by omega, by omega, HN, trivial⟩
            case measure => simp [intOf]; omega
        · have hji : ¬ (j : Int) < ((mk S).size : Int) := by rw [hz]; omega
          have hend := step_end (by omega) HJ.out
          have HE := Lib.hid hend
          have hc0 := tell_c HT.out a S.length (Nat.le_refl _) (by omega) (by have := app_count (HJ.out.trans HRR.out.symm); omega)
          clear hend
          go_wp2_with fail
          refine hc0.mono ?_
          rintro e W1 ⟨⟨z, rfl⟩, v1, T1⟩
          rw [HE.out] at T1
          obtain ⟨cw1, _⟩ := one_cell T1.box
          go_wp2_with fail
          rw [Exit.noGoto_ret]
          go_ret
          exact ⟨_, rfl, owns_strs T1.own, T1.bel⟩
    · have hli : ¬ (a : Int) < ((mk S).size : Int) := by rw [hz]; omega
      obtain ⟨cs, _⟩ := one_cell T.txt
      obtain ⟨cw, _⟩ := one_cell T.box
      have HT := Lib.hid T
      have hRK : K = R := by
        have := HW.out
        rw [List.drop_eq_nil_of_le (by omega), W_end, fl_nil, List.append_nil] at this
        exact this
      have HRK := Lib.hid hRK
      clear T HT0 hRK
      go_wp2_with fail
      go_ret
      exact ⟨_, rfl, HRK.out ▸ owns_strs HT.out.own, HT.out.bel⟩
end Go.Proofs.YtbohnjiachnadaaDoor.Lx
