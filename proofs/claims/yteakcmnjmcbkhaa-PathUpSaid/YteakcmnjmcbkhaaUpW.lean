/-
  The law PathUp, walked.
-/
import Derived.Test.YteakcmnjmcbkhaaDotsW
namespace Go.Proofs.Yteakcmnjmcbkhaa
open Go.RowKit

/-- so many steps up -/
def ups : Nat → Bs
  | 0 => []
  | n + 1 => ups n ++ [47, 46, 46]

theorem ups_len (n : Nat) : (ups n).length = 3 * n := by
  induction n with
  | zero => rfl
  | succ n ih => rw [ups, List.length_append, ih]; simp; omega

theorem ups_plain (n : Nat) : (ups n).all plainB = true := by
  induction n with
  | zero => rfl
  | succ n ih => rw [ups, List.all_append, ih]; decide

/-- behind a slash more: the parts that are left, if it hasn't gone up from nothing -/
theorem ups_run {ks : List Bs} (hg : ∀ q ∈ ks, Good q) (hne : ks ≠ []) : ∀ n : Nat, run (some ([], [])) (joinL ks ++ ups n ++ [47]) = if n ≤ ks.length then some (ks.take (ks.length - n), []) else none
  | 0 => by
    obtain ⟨k, cur, h1, h2⟩ := fin_joinL hg hne
    rw [ups, List.append_nil, run_snoc, h1, stepB_slash, h2, if_pos (Nat.zero_le _), Nat.sub_zero, List.take_length]
    rfl
  | n + 1 => by
    have ih := ups_run hg hne n
    have e : joinL ks ++ ups (n + 1) ++ [47] = joinL ks ++ ups n ++ [47] ++ [46, 46, 47] := by rw [ups]; simp
    rw [e, run_append, ih]
    by_cases h : n ≤ ks.length
    · rw [if_pos h]
      have h3 : ∀ k : List Bs, run (some (k, [])) [46, 46, 47] = (if k = [] then none else some k.dropLast).map fun k' => (k', []) := fun k => by
        show stepB (stepB (stepB (some (k, [])) 46) 46) 47 = _
        simp [stepB, stepP]
      rw [h3]
      by_cases h4 : n + 1 ≤ ks.length
      · rw [if_pos h4, if_neg, List.dropLast_eq_take, List.take_take, List.length_take]
        · have e1 : min (min (ks.length - n) ks.length - 1) (ks.length - n) = ks.length - (n + 1) := by omega
          rw [e1]
          rfl
        · intro e2
          have := congrArg List.length e2
          rw [List.length_take, List.length_nil] at this
          omega
      · have : ks.length - n = 0 := by omega
        rw [if_neg h4, this, List.take_zero, if_pos rfl]
        rfl
    · rw [if_neg h, if_neg (by omega)]
      exact run_none _

theorem fin_slash (s : St) : run s [47] = (fin s).map fun k => (k, []) := by
  cases s with
  | none => rfl
  | some p => obtain ⟨k, c⟩ := p; rfl

theorem kept_ups {ks : List Bs} (hg : ∀ q ∈ ks, Good q) (hne : ks ≠ []) (n : Nat) : kept (joinL ks ++ ups n) = if n ≤ ks.length then ks.take (ks.length - n) else [] := by
  have h := ups_run hg hne n
  rw [run_append, fin_slash] at h
  rw [kept_eq]
  split
  · rename_i hn
    rw [if_pos hn] at h
    cases hf : fin (run (some ([], [])) (joinL ks ++ ups n)) with
    | none => rw [hf] at h; cases h
    | some k => rw [hf] at h; cases h; rfl
  · rename_i hn
    rw [if_neg hn] at h
    cases hf : fin (run (some ([], [])) (joinL ks ++ ups n)) with
    | none => rfl
    | some k => rw [hf] at h; cases h

theorem joinL_app : ∀ (a b : List Bs), a ≠ [] → b ≠ [] → joinL (a ++ b) = joinL a ++ 47 :: joinL b
  | [], _, h, _ => absurd rfl h
  | [p], b, _, h => by
    cases b with
    | nil => exact absurd rfl h
    | cons q r => rw [List.singleton_append, joinL_cons, joinL_one]
  | p :: q :: r, b, _, h => by
    rw [List.cons_append, List.cons_append, joinL_cons, ← List.cons_append, joinL_app (q :: r) b (by simp) h, joinL_cons]
    simp

/-- the first parts of a path, joined, begin it -/
theorem joinL_begin (ks : List Bs) (q : Nat) (hq : 1 ≤ q) (hne : ks ≠ []) : ∃ r, joinL ks = joinL (ks.take q) ++ r := by
  by_cases h : ks.drop q = []
  · have : ks.take q = ks := by
      rw [List.drop_eq_nil_iff] at h
      exact List.take_of_length_le h
    exact ⟨[], by rw [this]; simp⟩
  · have e : ks = ks.take q ++ ks.drop q := (List.take_append_drop q ks).symm
    refine ⟨47 :: joinL (ks.drop q), ?_⟩
    conv => lhs; rw [e]
    refine joinL_app _ _ ?_ h
    intro e2
    rw [List.take_eq_nil_iff] at e2
    rcases e2 with e2 | e2
    · omega
    · exact hne e2

theorem count_joinL : ∀ (ks : List Bs), (∀ q ∈ ks, Good q) → ks ≠ [] → (joinL ks).count 47 + 1 = ks.length
  | [], _, h => absurd rfl h
  | [p], hg, _ => by
    rw [joinL_one, List.count_eq_zero.2 (fun h => ((hg p (by simp)).2.2.2 47 h).1 rfl)]
    rfl
  | p :: q :: r, hg, _ => by
    rw [joinL_cons, List.count_append, List.count_cons_self, List.count_eq_zero.2 (fun h => ((hg p (by simp)).2.2.2 47 h).1 rfl)]
    have := count_joinL (q :: r) (fun x hx => hg x (by simp [hx])) (by simp)
    simp only [List.length_cons] at this ⊢
    omega

/-- what the steps up come to -/
theorem cleanL_ups {ks : List Bs} (hg : ∀ q ∈ ks, Good q) (hne : ks ≠ []) (hl : (joinL ks).length ≤ 100) (n : Nat) (hn : n < 60) :
    (ks.length ≤ n → cleanL (joinL ks ++ ups n) = ([], 5)) ∧
    (n < ks.length → ∃ d r, cleanL (joinL ks ++ ups n) = (d, 0) ∧ joinL ks = d ++ r) := by
  have h1 : ¬ 1000 < (joinL ks ++ ups n).length := by rw [List.length_append, ups_len]; omega
  have h2 : (joinL ks ++ ups n).all plainB = true := by rw [List.all_append, plain_joinL ks hg, ups_plain]; rfl
  have h3 : (joinL ks ++ ups n).head? ≠ some 47 := by
    have hj := joinL_ne hg hne
    have hh := head_joinL ks hg
    cases h : joinL ks with
    | nil => exact absurd h hj
    | cons a r => rw [h] at hh; exact hh
  have hor : ¬ ((joinL ks ++ ups n).all plainB = false ∨ (joinL ks ++ ups n).head? = some 47) := fun h => h.elim (fun h => by rw [h2] at h; cases h) h3
  have hk := kept_ups hg hne n
  constructor
  · intro h
    have h0 : kept (joinL ks ++ ups n) = [] := by
      rw [hk]
      split
      · rw [show ks.length - n = 0 by omega]; rfl
      · rfl
    unfold cleanL
    rw [if_neg h1, if_neg hor, if_pos h0]
  · intro h
    rw [if_pos (by omega)] at hk
    obtain ⟨r, hr⟩ := joinL_begin ks (ks.length - n) (by omega) hne
    refine ⟨joinL (ks.take (ks.length - n)), r, cleanL_of (by omega) h2 h3 hk ?_ ?_, hr⟩
    · intro e
      rw [List.take_eq_nil_iff] at e
      rcases e with e | e
      · omega
      · exact hne e
    · have := congrArg List.length hr
      rw [List.length_append] at this
      omega

theorem count_take {c : Bs} {j : Nat} {b : UInt8} (h : c[j]? = some b) : (c.take (j + 1)).count 47 = (c.take j).count 47 + if b = 47 then 1 else 0 := by
  rw [List.take_add_one, h, List.count_append, Option.toList_some, List.count_singleton]
  simp only [beq_iff_eq]

set_option maxHeartbeats 1000000 in
theorem up_w (S : ByteArray) (u : Int) (hS : S.size ≤ 9223372036854775807) (ha : 0 ≤ u ∧ u ≤ 255) (w : World) :
    Calls Try.prog 7 #[.string S, .int .u8 u] w fun e w' => e = .returned (.bool true) ∧ Below w.heap.size w w' := by
  obtain ⟨s, rfl⟩ : ∃ s, S = mk s := ⟨S.data.toList, (mk_of S).symm⟩
  have hz := mk_size s
  by_cases hl : 300 < s.length
  · have hl' : 300 < ((mk s).size : Int) := by omega
    go_enter Try.func7, Try.ntmps7
    go_wp2
    go_ret
    exact ⟨rfl, Below.refl _ _⟩
  have hl' : ¬ 300 < ((mk s).size : Int) := by omega
  have hc1 := fun w1 => clean_c s (by omega) w1
  rcases cleanL_cases s with ⟨er, hC, her⟩ | ⟨_, _, hg, hne, hlen, hC⟩
  · simp only [hC] at hc1
    have hen : ¬ er = 0 := by omega
    have hen2 : (er != 0) = true := by simp; exact hen
    clear hC her hl
    go_enter Try.func7, Try.ntmps7
    go_wp2_with fail
    refine (hc1 w).mono ?_
    rintro e w1 ⟨rfl, hb1⟩
    go_wp2_with fail
    refine (awake_c w1).mono ?_
    rintro e w2 ⟨rfl, hb2⟩
    go_wp2
    go_ret
    exact ⟨rfl, hb1.trans (hb2.mono hb1.size)⟩
  · have HU := Lib.hid (cleanL_ups hg hne hlen)
    have HCN := Lib.hid (count_joinL _ hg hne)
    have hkl : (kept s).length ≤ 1000 := by have := (kept_bound s).1; omega
    obtain ⟨c, hc⟩ : ∃ c, joinL (kept s) = c := ⟨_, rfl⟩
    obtain ⟨M, hM⟩ : ∃ M, (kept s).length = M := ⟨_, rfl⟩
    rw [hc] at hC hlen HU HCN
    rw [hM] at HU HCN hkl
    simp only [hC] at hc1
    have hzc := mk_size c
    clear hC hg hne hc hl hM
    go_enter Try.func7, Try.ntmps7
    go_wp2_with fail
    refine (hc1 w).mono ?_
    rintro e w1 ⟨rfl, hb1⟩
    clear hc1
    obtain ⟨N, hN⟩ : ∃ N : Nat, u % 60 = (N : Int) := ⟨(u % 60).toNat, by omega⟩
    have hN60 : N < 60 := by omega
    go_wp2
    go_loopw [7, 8] (fun x i W => ∃ (j p : Nat), j ≤ c.length ∧ i = .int .i64 j ∧ x = .int .i64 p ∧ Hid ((c.take j).count 47 + 1 = p) ∧ p ≤ j + 1 ∧ w1 = W) (fun _ i _ => c.length - (intOf i).toNat)
    case atStart => exact ⟨0, 1, Nat.zero_le _, rfl, rfl, Lib.hid rfl, by omega, rfl⟩
    case round =>
      obtain ⟨j, p, hj, rfl, rfl, HP, hp, rfl⟩ := hrel
      by_cases hlt : j < c.length
      · have hlt2 : j < (mk c).size := by rw [hzc]; exact hlt
        have hbj : c[j]? = some (mk c)[j] := byte_at (mk c) hlt2
        have hct := count_take hbj
        by_cases h47 : (mk c)[j] = 47
        · have e47 : (((mk c)[j].toNat : Int) == 47) = true := by rw [h47]; rfl
          rw [if_pos h47] at hct
          have HO := Lib.hid (show (c.take (j + 1)).count 47 + 1 = p + 1 by rw [hct, HP.out])
          clear h47 hbj hct
          go_wp2
          go_roundw
          case rel => exact ⟨j + 1, p + 1, by omega, by go_num, by go_num, HO, by omega, trivial⟩
          case measure => simp [intOf]; omega
        · have e47 : (((mk c)[j].toNat : Int) == 47) = false := by
            have : ¬ (mk c)[j].toNat = 47 := fun h => h47 (UInt8.toNat_inj.1 (by rw [h]; rfl))
            simp; omega
          rw [if_neg h47] at hct
          have HO := Lib.hid (show (c.take (j + 1)).count 47 + 1 = p by rw [hct]; exact HP.out)
          clear h47 hbj hct
          go_wp2
          go_roundw
          case rel => exact ⟨j + 1, p, by omega, by go_num, rfl, HO, by omega, trivial⟩
          case measure => simp [intOf]; omega
      · obtain rfl : j = c.length := by omega
        have hpM : p = M := by rw [← HP.out, List.take_length]; exact HCN.out
        subst hpM
        go_wp2
        go_loopw [10, 11] (fun x i W => ∃ (k : Nat), k ≤ N ∧ i = .int .i64 k ∧ x = .string (mk (c ++ ups k)) ∧ w1 = W) (fun _ i _ => N - (intOf i).toNat)
        case atStart => exact ⟨0, Nat.zero_le _, rfl, by rw [ups, List.append_nil], rfl⟩
        case round =>
          obtain ⟨k, hk, rfl, rfl, rfl⟩ := hrel
          by_cases hkn : k < N
          · have hcat : mk (c ++ ups k) ++ ⟨#[47, 46, 46]⟩ = mk (c ++ ups (k + 1)) := by rw [ups, ← List.append_assoc]; exact mk_append _ _
            have z1 := mk_size (c ++ ups k)
            rw [List.length_append, ups_len] at z1
            go_wp2
            go_roundw
            case rel => exact ⟨k + 1, by omega, by go_num, rfl, trivial⟩
            case measure => simp [intOf]; omega
          · obtain rfl : k = N := by omega
            have hcl := clean_c (c ++ ups k) (by rw [List.length_append, ups_len]; omega) w1
            obtain ⟨hu1, hu2⟩ := HU.out k hN60
            by_cases hpk : p ≤ k
            · rw [hu1 hpk] at hcl
              have en : (mk []).toList.isEmpty = true := by rw [mk_toList]; rfl
              clear hu1 hu2
              go_wp2_with fail
              refine hcl.mono ?_
              rintro e w2 ⟨rfl, hb2⟩
              go_wp2_with fail
              refine (awake_c w2).mono ?_
              rintro e w3 ⟨rfl, hb3⟩
              go_wp2
              go_ret
              exact ⟨rfl, (hb1.trans (hb2.mono hb1.size)).trans (hb3.mono (Nat.le_trans hb1.size hb2.size))⟩
            · obtain ⟨d, r, hd, hcr⟩ := hu2 (by omega)
              rw [hd] at hcl
              have hdl : d.length ≤ c.length := by rw [hcr, List.length_append]; omega
              have z1 := mk_size d
              have hex : (mk c).extract 0 d.length = mk d := by rw [mk_extract, hcr]; simp
              have hi1 : (d.length : Int) ≤ (c.length : Int) := by omega
              have hi2 : (d.length : Int) ≤ ((mk c).size : Int) := by omega
              have hi0 : (0 : Int) ≤ (d.length : Int) := by omega
              clear hu1 hu2 hcr
              go_wp2_with fail
              refine hcl.mono ?_
              rintro e w2 ⟨rfl, hb2⟩
              go_wp2_with fail
              refine (awake_c w2).mono ?_
              rintro e w3 ⟨rfl, hb3⟩
              go_wp2
              go_ret
              exact ⟨rfl, (hb1.trans (hb2.mono hb1.size)).trans (hb3.mono (Nat.le_trans hb1.size hb2.size))⟩
end Go.Proofs.Yteakcmnjmcbkhaa
