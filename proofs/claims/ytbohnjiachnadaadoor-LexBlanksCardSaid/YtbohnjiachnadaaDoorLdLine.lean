/-
  LINES: rows of a text; a line's parts.
-/
import Derived.Test.YtbohnjiachnadaaDoorLdBase
namespace Go.Proofs.YtbohnjiachnadaaDoor.Lx
open Go.RowKit

/-- does an unpaired dollar stand last? -/
def escT (s : Bs) : Bool := decide ((s.length - (Lib.trimRightB s 36).length) % 2 = 1)
def trimT (s : Bs) : Bs :=
  let t := Lib.trimRightB (s.dropWhile (· == 32)) 32
  if escT t then t ++ [32] else t

theorem trimR_le (s : Bs) (c : UInt8) : (Lib.trimRightB s c).length ≤ s.length := by
  unfold Lib.trimRightB
  rw [List.length_reverse]
  exact Nat.le_trans (List.dropWhile_sublist _).length_le (by simp)
theorem dropW_le (s : Bs) : (s.dropWhile (· == (32 : UInt8))).length ≤ s.length := (List.dropWhile_sublist _).length_le

theorem trimR_c (s : Bs) (c : UInt8) (hc : c.toNat < 128) (hs : s.length ≤ 1000000000000) (w : World) : Calls Tryd.prog 21 #[.string (mk s), .string ⟨#[c]⟩] w fun e w' => e = .returned (.string (mk (Lib.trimRightB s c))) ∧ w = w' := by
  refine (shstringsTrimRightone (mk s) c hc w (by rw [mk_size]; omega)).mono fun e w' ⟨h1, h2⟩ => ⟨?_, h2.symm⟩
  rw [h1, mk_bytes]
  rfl

set_option maxHeartbeats 1000000 in
theorem escapes_c (s : Bs) (hs : s.length ≤ 1000000000000) (w : World) : Calls Tryd.prog 13 #[.string (mk s)] w fun e w' => e = .returned (.bool (escT s)) ∧ w = w' := by
  have ht := trimR_c s 36 (by decide) hs w
  have hle := trimR_le s 36
  have hd : escT s = decide ((s.length - (Lib.trimRightB s 36).length) % 2 = 1) := rfl
  rw [hd]
  generalize Lib.trimRightB s 36 = t at *
  have hz := mk_size s
  have hy := mk_size t
  have hm : ∃ q : Nat, s.length - t.length = q := ⟨_, rfl⟩
  obtain ⟨q, hq⟩ := hm
  have hq2 : ((mk s).size : Int) - ((mk t).size : Int) = (q : Int) := by omega
  have hq3 : q ≤ 1000000000000 := by omega
  rw [hq]
  clear hd hq hle hz hy
  go_enter Tryd.func13, Tryd.ntmps13
  go_wp2_with fail
  refine ht.mono ?_
  rintro e w1 ⟨rfl, rfl⟩
  go_wp2
  go_ret
  refine ⟨?_, rfl⟩
  have e2 : decide ((q : Int) % 2 = 1) = decide (q % 2 = 1) := decide_eq_decide.2 (by omega)
  first
    | rfl
    | (rw [← e2]; rfl)
    | (simp [← e2]; done)
    | (simp; omega)

set_option maxHeartbeats 1000000 in
theorem trimmed_c (s : Bs) (hs : s.length ≤ 900000000000) (w : World) : Calls Tryd.prog 14 #[.string (mk s)] w fun e w' => e = .returned (.string (mk (trimT s))) ∧ Below w.heap.size w w' := by
  have h1 := trimL_c s w
  have hle1 := dropW_le s
  obtain ⟨a, ha⟩ : ∃ a, s.dropWhile (· == 32) = a := ⟨_, rfl⟩
  rw [ha] at h1 hle1
  have h2 := trimR_c a 32 (by decide) (by omega) w
  have hle2 := trimR_le a 32
  obtain ⟨t, ht⟩ : ∃ t, Lib.trimRightB a 32 = t := ⟨_, rfl⟩
  rw [ht] at h2 hle2
  have h3 := escapes_c t (by omega) w
  have hd : trimT s = if escT t then t ++ [32] else t := by unfold trimT; rw [ha, ht]
  rw [hd]
  clear hd ha ht
  have hcat : mk t ++ (⟨#[32]⟩ : ByteArray) = mk (t ++ [32]) := mk_append t [32]
  have hz := mk_size t
  cases he : escT t with
  | true =>
    rw [he] at h3
    have h4 := clone_c (mk (t ++ [32])) w (by rw [mk_size, List.length_append]; simp; omega)
    clear he
    go_enter Tryd.func14, Tryd.ntmps14
    go_wp2_with fail
    refine h1.mono ?_
    rintro e w1 ⟨rfl, rfl⟩
    go_wp2_with fail
    refine h2.mono ?_
    rintro e w1 ⟨rfl, rfl⟩
    go_wp2_with fail
    refine h3.mono ?_
    rintro e w1 ⟨rfl, rfl⟩
    go_wp2_with fail
    refine h4.mono ?_
    rintro e w1 ⟨rfl, hb⟩
    go_wp2
    go_ret
    exact ⟨rfl, hb⟩
  | false =>
    rw [he] at h3
    have h4 := clone_c (mk t) w (by rw [mk_size]; omega)
    clear he
    go_enter Tryd.func14, Tryd.ntmps14
    go_wp2_with fail
    refine h1.mono ?_
    rintro e w1 ⟨rfl, rfl⟩
    go_wp2_with fail
    refine h2.mono ?_
    rintro e w1 ⟨rfl, rfl⟩
    go_wp2_with fail
    refine h3.mono ?_
    rintro e w1 ⟨rfl, rfl⟩
    go_wp2_with fail
    refine h4.mono ?_
    rintro e w1 ⟨rfl, hb⟩
    go_wp2
    go_ret
    exact ⟨rfl, hb⟩

set_option maxHeartbeats 1000000 in
theorem counts_c (s : Bs) (w : World) : Calls Tryd.prog 12 #[.string (mk s)] w fun e w' => e = .returned (.bool (cntB s)) ∧ w = w' := by
  have ht := trimL_c s w
  have hd : cntB s = match s.dropWhile (· == 32) with | [] => false | c :: _ => c != 35 := rfl
  rw [hd]
  clear hd
  generalize s.dropWhile (· == 32) = t at *
  cases t with
  | nil =>
    have e1 : (mk []).toList.isEmpty = true := by rw [mk_toList]; rfl
    go_enter Tryd.func12, Tryd.ntmps12
    go_wp2_with fail
    refine ht.mono ?_
    rintro e w1 ⟨rfl, rfl⟩
    go_wp2
    go_ret
    exact ⟨rfl, rfl⟩
  | cons c r =>
    have hz := mk_size (c :: r)
    have hjs : 0 < (mk (c :: r)).size := by rw [hz]; simp
    have hb := get_mk (c :: r) hjs
    have hcb : (mk (c :: r))[0]'hjs = c := by simpa using hb.symm
    have hji : (0 : Int) < ((mk (c :: r)).size : Int) := by omega
    have e1 : (mk (c :: r)).toList.isEmpty = false := by rw [mk_toList]; rfl
    have e2 : ((((mk (c :: r))[0]'hjs).toNat : Int) == 35) = (c == 35) := by
      rw [hcb]
      refine Bool.eq_iff_iff.2 ?_
      simp only [beq_iff_eq]
      constructor
      · intro h; exact UInt8.toNat_inj.1 (by rw [show c.toNat = 35 by omega]; rfl)
      · rintro rfl; rfl
    have e3 : (c != 35) = !(c == 35) := rfl
    simp only
    rw [e3]
    generalize (c == 35) = q at *
    clear hb hcb e3
    go_enter Tryd.func12, Tryd.ntmps12
    go_wp2_with fail
    refine ht.mono ?_
    rintro e w1 ⟨rfl, rfl⟩
    go_wp2
    go_ret
    refine ⟨?_, rfl⟩
    show Ending.returned (.bool ((((mk (c :: r))[0]'hjs).toNat : Int) != 35)) = _
    rw [bne, e2]
end Go.Proofs.YtbohnjiachnadaaDoor.Lx
