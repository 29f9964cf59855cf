/-
  The law LexAgain, walked.
-/
import Derived.Test.YtbohnjiachnadaaLxSame
namespace Go.Proofs.Ytbohnjiachnadaa.Lx
open Go.RowKit

theorem joinB_take {R : List Bs} {j : Nat} {p : Bs} (h : R[j]? = some p) : joinB (R.take (j + 1)) = joinB (R.take j) ++ (32 :: p) := by
  rw [List.take_add_one, h, joinB_app]
  simp [joinB]

theorem joinB_len : ∀ K : List Bs, (joinB K).length ≤ (K.map List.length).sum + K.length
  | [] => by simp [joinB]
  | w :: ws => by
    have := joinB_len ws
    simp [joinB]
    omega

theorem take_sum : ∀ (K : List Bs) (j : Nat), ((K.take j).map List.length).sum ≤ (K.map List.length).sum
  | [], _ => by simp
  | w :: ws, 0 => by simp
  | w :: ws, j + 1 => by
    have := take_sum ws j
    rw [List.take_succ_cons, List.map_cons, List.map_cons, List.sum_cons, List.sum_cons]
    omega

theorem getLast_at {p : Bs} {m : Nat} (h : p.length = m + 1) : ∃ x, p[m]? = some x ∧ p.getLast? = some x := by
  have hm : m < p.length := by omega
  refine ⟨p[m], List.getElem?_eq_getElem hm, ?_⟩
  rw [List.getLast?_eq_getElem?, h]
  exact List.getElem?_eq_getElem hm

set_option maxRecDepth 100000 in
set_option maxHeartbeats 4000000 in
theorem lexAgain_w (A : ByteArray) (hA : A.size ≤ 9223372036854775807) (w : World) :
    Calls Try.prog 4 #[.string A] w fun e w' => e = .returned (.bool true) ∧ Below w.heap.size w w' := by
  obtain ⟨S, rfl⟩ : ∃ s, A = mk s := ⟨A.data.toList, (mk_of A).symm⟩
  have hz := mk_size S
  by_cases hl : 1000 < S.length
  · have hl' : 1000 < ((mk S).size : Int) := by omega
    go_enter Try.func4, Try.ntmps4
    go_wp2
    go_ret
    exact ⟨rfl, Below.refl _ _⟩
  have hl' : ¬ 1000 < ((mk S).size : Int) := by omega
  have hc1 := words_c S (by omega) w
  have hcount := words_count S
  have hsum := words_lens S
  have hgood : ∀ p ∈ words S, p ≠ [] := fun p hp => (good_words hp).1
  have hagain := words_again (s := S)
  obtain ⟨R, hR⟩ : ∃ R, words S = R := ⟨_, rfl⟩
  rw [hR] at hc1 hcount hsum hgood hagain
  clear hR
  have hjl : ∀ j, (joinB (R.take j)).length ≤ 2000 := fun j => by
    have h1 := joinB_len (R.take j)
    have h2 := take_sum R j
    have h3 : (R.take j).length ≤ R.length := by rw [List.length_take]; omega
    omega
  have HJL := Lib.hid hjl
  have HG := Lib.hid hgood
  have HAG := Lib.hid hagain
  have HSM := Lib.hid hsum
  have hR3 : R.length ≤ 1000 := by omega
  obtain ⟨n, hn⟩ : ∃ n, R.length = n := ⟨_, rfl⟩
  rw [hn] at hR3
  have HN := Lib.hid hn
  clear hn hcount hjl hgood hagain hsum
  go_enter Try.func4, Try.ntmps4
  go_wp2_with fail
  refine hc1.mono ?_
  rintro e w1 ⟨v1, rfl, hv1, hb1⟩
  have HB := Lib.hid hb1
  have HV1 := Lib.hid hv1
  obtain ⟨a1, c1, rfl, hac, _⟩ := hv1
  rw [HN.out] at hac HV1 ⊢
  clear hb1 hc1
  go_wp2_with fail
  go_loopw [4, 5] (fun x i W' => ∃ j : Nat, i = .int .i64 j ∧ j ≤ n ∧ x = .string (mk (joinB (R.take j))) ∧ Hid (Strs W' (.slice a1 n c1) R) ∧ Hid (Below w.heap.size w W') ∧ Hid (∀ p ∈ R.take j, p.getLast? ≠ some 36)) (fun _ i _ => n - (intOf i).toNat)
  case atStart => exact ⟨0, rfl, Nat.zero_le _, rfl, HV1, HB, Lib.hid (by simp)⟩
  case round =>
    clear HV1 HB
    obtain ⟨j, rfl, hj, rfl, HV1, HB, HP⟩ := hrel
    by_cases hlt : j < n
    · obtain ⟨p, hp⟩ : ∃ p, R[j]? = some p := ⟨_, List.getElem?_eq_getElem (by rw [HN.out]; exact hlt)⟩
      have hne : R ≠ [] := by rintro rfl; cases hp
      obtain ⟨a, c, he, _, hcg⟩ := HV1.out
      cases he
      obtain ⟨g, off, rfl, _, hcg⟩ := hcg.resolve_left hne
      have cc := hcg j p hp
      have hpm : p ∈ R := List.mem_of_getElem? hp
      have hpne := HG.out p hpm
      have hpl : p.length ≤ 1000 := Nat.le_trans (Nat.le_trans (mem_len _ hpm) HSM.out) (by omega)
      have hzp := mk_size p
      obtain ⟨m, hm⟩ : ∃ m, p.length = m + 1 := ⟨p.length - 1, by have := List.length_pos_iff.2 hpne; omega⟩
      obtain ⟨x, hx, hlast⟩ := getLast_at hm
      have e0 : (mk p).toList.isEmpty = false := by rw [mk_toList]; cases p with | nil => exact absurd rfl hpne | cons a r => rfl
      have hms : m < (mk p).size := by rw [hzp]; omega
      have hxs : (mk p)[m] = x := by have := get_mk p hms; rw [hx] at this; exact (Option.some.inj this).symm
      have hszp : (mk p).size = m + 1 := by rw [hzp, hm]
      have hmle : m ≤ 1000 := by omega
      have hw2 : IntKind.i64.wrap (((mk p).size : Int) - 1) = (m : Int) := by rw [hszp, IntWalk.i64_in _ (by omega)]; omega
      have hmi : (m : Int) < ((mk p).size : Int) := by omega
      have HSZP := Lib.hid hszp
      have hps : ¬ 9223372036854775807 < 1 + (mk p).size := by omega
      have hps2 : (mk p).size ≤ 1001 := by omega
      clear hszp
      by_cases h36 : x = 36
      · have e36 : (((mk p)[m].toNat : Int) == 36) = true := by rw [hxs, h36]; rfl
        clear hcg hne hp hpm hpne hm hx hlast h36 hxs hzp hpl
        go_wp2_with fail
        go_quiet (fail)
        go_wp2_with fail
        refine (awake_c _).mono ?_
        rintro e w5 ⟨rfl, hb5⟩
        go_wp2_with fail
        go_ret
        exact ⟨rfl, (below_drewN HB.out _).trans (hb5.mono (below_drewN HB.out _).size)⟩
      · have e36 : (((mk p)[m].toNat : Int) == 36) = false := by rw [hxs]; exact beq_eq_false_iff_ne.2 fun e => h36 (UInt8.toNat_inj.1 (by show x.toNat = 36; omega))
        have HNP := Lib.hid (show ∀ q ∈ R.take (j + 1), q.getLast? ≠ some 36 from fun q hq => by
          rw [List.take_add_one, hp] at hq
          rcases List.mem_append.1 hq with h | h
          · exact HP.out q h
          · simp at h; rw [h, hlast]; exact fun e => h36 (Option.some.inj e))
        have hjoin := joinB_take hp
        have hJl := HJL.out j
        have hJl2 := HJL.out (j + 1)
        rw [hjoin] at hJl2
        obtain ⟨J, hJ⟩ : ∃ J, joinB (R.take j) = J := ⟨_, rfl⟩
        rw [hJ] at hjoin hJl hJl2 ⊢
        have hcat1 : (⟨#[32]⟩ : ByteArray) ++ mk p = mk (32 :: p) := mk_append [32] p
        have hcat2 : mk J ++ mk (32 :: p) = mk (J ++ 32 :: p) := mk_append J (32 :: p)
        have hz1 := mk_size J
        have hz2 := mk_size (32 :: p)
        rw [List.length_cons, hm] at hz2
        have HZ2 := Lib.hid hz2
        have hz2' : (mk (32 :: p)).size ≤ 1001 := by omega
        clear hz2
        have HJN := Lib.hid hjoin
        clear hcg hne hp hpm hpne hm hx hlast h36 hxs hzp hpl hJ hjoin
        go_wp2_with fail
        go_quiet (fail)
        go_wp2_with fail
        go_roundw
        case rel => exact ⟨j + 1, by go_num, by omega, by rw [HJN.out], Lib.hid (Strs.drewN HV1.out _), Lib.hid (below_drewN HB.out _), HNP⟩
        case measure => simp [intOf]; omega
    · have hli : ¬ (j : Int) < (n : Int) := by omega
      obtain rfl : j = n := by omega
      have hall : R.take j = R := by rw [← HN.out, List.take_length]
      rw [hall]
      have hJl := HJL.out j
      rw [hall] at hJl
      have hP := HP.out
      rw [hall] at hP
      have hag := HAG.out hP
      have hwc := words_c (joinB R) (by omega) wr
      rw [hag] at hwc
      generalize joinB R = J at *
      clear hag hall hP HAG
      go_wp2_with fail
      refine hwc.mono ?_
      rintro e w3 ⟨v3, rfl, hv3, hb3⟩
      have hsm := same_c hv3 (HV1.out.below hb3) (by rw [HN.out]; omega)
      have HB3 := Lib.hid (HB.out.trans (hb3.mono HB.out.size))
      clear hv3 hb3 hwc
      go_wp2_with fail
      refine hsm.mono ?_
      rintro e w4 ⟨rfl, q, rfl⟩
      go_wp2_with fail
      refine (awake_c _).mono ?_
      rintro e w5 ⟨rfl, hb5⟩
      go_wp2_with fail
      go_ret
      exact ⟨rfl, (below_drewN HB3.out q).trans (hb5.mono (below_drewN HB3.out q).size)⟩
end Go.Proofs.Ytbohnjiachnadaa.Lx
