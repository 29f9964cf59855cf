/-
  The law PathDots, walked.
-/
import Derived.Test.YteakcmnjmcbkhaaAwake
namespace Go.Proofs.Yteakcmnjmcbkhaa
open Go.RowKit

theorem run_dots (k : List Bs) : run (some (k, [])) [47, 46, 47, 121, 47, 46, 46, 47] = some (k, []) := by
  have h : (k ++ [[121]] : List Bs) ≠ [] := by simp
  simp [run, stepB, stepP, h]

theorem cleanL_of {m : Bs} {ks : List Bs} (h1 : m.length ≤ 1000) (h2 : m.all plainB = true) (h3 : m.head? ≠ some 47) (h4 : kept m = ks) (h5 : ks ≠ []) (h6 : (joinL ks).length ≤ 100) : cleanL m = (joinL ks, 0) := by
  unfold cleanL
  rw [if_neg (by omega), if_neg (fun h => h.elim (fun h => by rw [h2] at h; cases h) h3), h4, if_neg h5, if_neg (by omega)]

theorem fin_joinL {ks : List Bs} (hg : ∀ q ∈ ks, Good q) (hne : ks ≠ []) : ∃ k cur, run (some ([], [])) (joinL ks) = some (k, cur) ∧ stepP k cur = some ks := by
  obtain ⟨a, p, rfl⟩ : ∃ a p, ks = a ++ [p] := ⟨ks.dropLast, ks.getLast hne, (List.dropLast_concat_getLast hne).symm⟩
  refine ⟨a, p, ?_, stepP_good (hg p (by simp))⟩
  have := run_joinL a p [] (fun q hq => hg q (by simp [hq])) (hg p (by simp))
  simpa using this

/-- what has been put together is read as the path's beginning -/
structure Dotted (c m : Bs) (j : Nat) : Prop where
  run : run (some ([], [])) m = run (some ([], [])) (c.take j)
  plain : m.all plainB = true
  head : m.head? = some 46
  len : m.length ≤ 9 + 9 * j

theorem dotted_start (c : Bs) : Dotted c [46, 47, 120, 47, 46, 46, 47, 46, 47] 0 := ⟨by simp only [List.take_zero]; decide, by decide, rfl, by simp⟩

theorem take_run {c : Bs} {j : Nat} {b : UInt8} (h : c[j]? = some b) : run (some ([], [])) (c.take (j + 1)) = stepB (run (some ([], [])) (c.take j)) b := by
  rw [List.take_add_one, h, Option.toList_some, run_snoc]

theorem head_app {a b : Bs} {x : UInt8} (h : a.head? = some x) : (a ++ b).head? = some x := by
  cases a with
  | nil => cases h
  | cons y r => exact h

theorem dotted_one {c m : Bs} {j : Nat} {b : UInt8} (h : Dotted c m j) (hb : c[j]? = some b) (hp : plainB b = true) : Dotted c (m ++ [b]) (j + 1) := by
  refine ⟨?_, ?_, head_app h.head, ?_⟩
  · rw [run_snoc, h.run, take_run hb]
  · rw [List.all_append, h.plain]; simp [hp]
  · have := h.len; simp; omega

theorem dotted_more {c m : Bs} {j : Nat} (h : Dotted c m j) (hb : c[j]? = some 47) (hn : run (some ([], [])) c ≠ none) : Dotted c (m ++ [47] ++ [47, 46, 47, 121, 47, 46, 46, 47]) (j + 1) := by
  have h1 := dotted_one h hb (by decide)
  refine ⟨?_, ?_, head_app h1.head, ?_⟩
  · rw [run_append, h1.run]
    have hr : ∃ k, run (some ([], [])) (c.take (j + 1)) = some (k, []) := by
      rw [take_run hb]
      cases hs : run (some ([], [])) (c.take j) with
      | none =>
        exfalso
        apply hn
        have e : c = c.take j ++ c.drop j := (List.take_append_drop j c).symm
        rw [e, run_append, hs, run_none]
      | some p =>
        obtain ⟨k, cur⟩ := p
        rw [stepB_slash]
        cases hst : stepP k cur with
        | none =>
          exfalso
          apply hn
          have e : c = c.take (j + 1) ++ c.drop (j + 1) := (List.take_append_drop _ c).symm
          rw [e, run_append, take_run hb, hs, stepB_slash, hst]
          exact run_none _
        | some k' => exact ⟨k', rfl⟩
    obtain ⟨k, hk⟩ := hr
    rw [hk, run_dots]
  · rw [List.all_append, h1.plain]; decide
  · have := h.len; simp; omega

theorem dotted_end {c m : Bs} {ks : List Bs} (h : Dotted c m c.length) (hc : c = joinL ks) (hg : ∀ q ∈ ks, Good q) (hne : ks ≠ []) (hl : c.length ≤ 100) : cleanL (m ++ [47, 47, 46]) = (c, 0) := by
  subst hc
  obtain ⟨k, cur, h1, h2⟩ := fin_joinL hg hne
  have hr := h.run
  rw [List.take_length, h1] at hr
  refine cleanL_of (by have := h.len; simp; omega) (by rw [List.all_append, h.plain]; decide) (by rw [head_app h.head]; decide) ?_ hne hl
  have h3 : Go.Proofs.Yteakcmnjmcbkhaa.run (some (k, cur)) [47, 47, 46] = some (ks, [46]) := by
    show stepB (stepB (stepB (some (k, cur)) 47) 47) 46 = _
    rw [stepB_slash, h2]
    simp [stepB, stepP]
  rw [kept_eq, run_append, hr, h3]
  simp [fin, stepP]

set_option maxHeartbeats 1000000 in
theorem dots_w (S : ByteArray) (at0 : Int) (hS : S.size ≤ 9223372036854775807) (ha : 0 ≤ at0 ∧ at0 ≤ 255) (w : World) :
    Calls Try.prog 6 #[.string S, .int .u8 at0] w fun e w' => e = .returned (.bool true) ∧ Below w.heap.size w w' := by
  obtain ⟨s, rfl⟩ : ∃ s, S = mk s := ⟨S.data.toList, (mk_of S).symm⟩
  have hz := mk_size s
  by_cases hl : 300 < s.length
  · have hl' : 300 < ((mk s).size : Int) := by omega
    go_enter Try.func6, Try.ntmps6
    go_wp2
    go_ret
    exact ⟨rfl, Below.refl _ _⟩
  have hl' : ¬ 300 < ((mk s).size : Int) := by omega
  have hc1 := fun w1 => clean_c s (by omega) w1
  rcases cleanL_cases s with ⟨er, hC, her⟩ | ⟨_, _, hg, hne, hlen, hC⟩
  · simp only [hC] at hc1
    have hen : ¬ er = 0 := by omega
    have hen2 : (er != 0) = true := by simp; exact hen
    clear hC her hl
    go_enter Try.func6, Try.ntmps6
    go_wp2_with fail
    refine (hc1 w).mono ?_
    rintro e w1 ⟨rfl, hb1⟩
    go_wp2_with fail
    refine (awake_c w1).mono ?_
    rintro e w2 ⟨rfl, hb2⟩
    go_wp2
    go_ret
    exact ⟨rfl, hb1.trans (hb2.mono hb1.size)⟩
  · obtain ⟨c, hc⟩ : ∃ c, joinL (kept s) = c := ⟨_, rfl⟩
    rw [hc] at hC hlen
    have HEND := Lib.hid (show ∀ m, Dotted c m c.length → cleanL (m ++ [47, 47, 46]) = (c, 0) from fun m h => dotted_end h hc.symm hg hne (by omega))
    have HNN := Lib.hid (show run (some ([], [])) c ≠ none by obtain ⟨k, cur, h1, _⟩ := fin_joinL hg hne; rw [← hc, h1]; simp)
    have HPL := Lib.hid (show c.all plainB = true by rw [← hc]; exact plain_joinL _ hg)
    simp only [hC] at hc1
    have hzc := mk_size c
    clear hC hg hne hc hl
    go_enter Try.func6, Try.ntmps6
    go_wp2_with fail
    refine (hc1 w).mono ?_
    rintro e w1 ⟨rfl, hb1⟩
    clear hc1
    go_wp2
    go_loopw [7, 8] (fun x i W => ∃ (j : Nat) (m : Bs), j ≤ c.length ∧ i = .int .i64 j ∧ x = .string (mk m) ∧ Hid (Dotted c m j) ∧ m.length ≤ 1000 ∧ w1 = W) (fun _ i _ => c.length - (intOf i).toNat)
    case atStart => exact ⟨0, _, Nat.zero_le _, rfl, rfl, Lib.hid (dotted_start c), by decide, rfl⟩
    case round =>
      obtain ⟨j, m, hj, rfl, rfl, HD, hm, rfl⟩ := hrel
      by_cases hlt : j < c.length
      · have hlt2 : j < (mk c).size := by rw [hzc]; exact hlt
        have hbj : c[j]? = some (mk c)[j] := byte_at (mk c) hlt2
        have hlen2 := HD.out.len
        have hl0 : (0 : Int) ≤ (j : Int) := by omega
        have hl1 : (j : Int) ≤ (j : Int) + 1 := by omega
        have hl2 : (j : Int) + 1 ≤ ((mk c).size : Int) := by omega
        have hl3 : (j : Int) + 1 ≤ (c.length : Int) := by omega
        have hex : (mk c).extract j (j + 1) = mk [(mk c)[j]] := by
          rw [mk_extract]
          congr 1
          have := take_snoc (s := c) (a := j) hbj (Nat.le_refl j)
          rw [Nat.sub_self, List.take_zero, List.nil_append] at this
          exact this
        have hpb : plainB (mk c)[j] = true := by
          have h := HPL.out
          rw [List.all_eq_true] at h
          exact h _ (List.mem_of_getElem? hbj)
        by_cases h47 : (mk c)[j] = 47
        · have e47 : (((mk c)[j].toNat : Int) == 47) = true := by rw [h47]; rfl
          rw [h47] at hex hbj
          have hcat : mk m ++ mk [47] = mk (m ++ [47]) := mk_append m [47]
          have hcat2 : mk (m ++ [47]) ++ ⟨#[47, 46, 47, 121, 47, 46, 46, 47]⟩ = mk (m ++ [47] ++ [47, 46, 47, 121, 47, 46, 46, 47]) := mk_append _ _
          have z1 := mk_size m
          have z2 := mk_size [47]
          have z3 := mk_size (m ++ [47])
          rw [List.length_append, List.length_singleton] at z3
          rw [List.length_singleton] at z2
          have HM := Lib.hid (show Dotted c (m ++ [47, 47, 46, 47, 121, 47, 46, 46, 47]) (j + 1) by have h := dotted_more HD.out hbj HNN.out; simpa using h)
          have HO := Lib.hid (dotted_one HD.out hbj (by decide))
          clear h47 hbj hpb
          go_wp2
          · go_roundw
            case rel => exact ⟨j + 1, _, by omega, by go_num, rfl, HM, by rw [List.length_append]; simp; omega, trivial⟩
            case measure => simp [intOf]; omega
          · go_roundw
            case rel => exact ⟨j + 1, _, by omega, by go_num, rfl, HO, by rw [List.length_append]; simp; omega, trivial⟩
            case measure => simp [intOf]; omega
        · have e47 : (((mk c)[j].toNat : Int) == 47) = false := by
            have : ¬ (mk c)[j].toNat = 47 := fun h => h47 (UInt8.toNat_inj.1 (by rw [h]; rfl))
            simp; omega
          obtain ⟨b, hb⟩ : ∃ b, (mk c)[j] = b := ⟨_, rfl⟩
          rw [hb] at hex hbj hpb
          have hcat : mk m ++ mk [b] = mk (m ++ [b]) := mk_append m [b]
          have z1 := mk_size m
          have z2 := mk_size [b]
          have z3 := mk_size (m ++ [b])
          rw [List.length_append, List.length_singleton] at z3
          rw [List.length_singleton] at z2
          have HO := Lib.hid (dotted_one HD.out hbj hpb)
          clear h47 hbj hpb hb
          go_wp2
          go_roundw
          case rel => exact ⟨j + 1, _, by omega, by go_num, rfl, HO, by rw [List.length_append]; simp; omega, trivial⟩
          case measure => simp [intOf]; omega
      · obtain rfl : j = c.length := by omega
        have hcl := clean_c (m ++ [47, 47, 46]) (by simp; omega) w1
        rw [HEND.out m HD.out] at hcl
        have hcat : mk m ++ ⟨#[47, 47, 46]⟩ = mk (m ++ [47, 47, 46]) := mk_append m _
        have z1 := mk_size m
        go_wp2_with fail
        refine hcl.mono ?_
        rintro e w2 ⟨rfl, hb2⟩
        go_wp2_with fail
        refine (awake_c w2).mono ?_
        rintro e w3 ⟨rfl, hb3⟩
        go_wp2
        go_ret
        exact ⟨rfl, (hb1.trans (hb2.mono hb1.size)).trans (hb3.mono (Nat.le_trans hb1.size hb2.size))⟩
end Go.Proofs.Yteakcmnjmcbkhaa
