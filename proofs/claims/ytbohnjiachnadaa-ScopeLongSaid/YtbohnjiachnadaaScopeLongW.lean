/-
  The law ScopeLong, walked.
-/
import Derived.Test.YtbohnjiachnadaaScopeHidesW
import Derived.Laws.MakeOwn
import Derived.Laws.IdiomStrings
namespace Go.Proofs.Ytbohnjiachnadaa.Sc
open Go.RowKit Go.Maps

theorem u16_bounds {n : Int} (h : (Lit.int .u16 n).wf = true) : 0 ≤ n ∧ n ≤ 65535 := by
  simpa [Lit.wf, IntKind.min, IntKind.max, IntKind.signed, IntKind.bits] using h

def zeros (o : Nat) : Bs := List.replicate o 0

/-- noughts, made and turned to a text -/
theorem zeros_run (o : Nat) (ho : o ≤ 1000000) (w : World) : ∃ w2, (Instr.makeSlice 48 (.int .i64 (o : Int)) (.int .i64 (o : Int))).run Try.prog w = .ok (.slice (some ⟨w.heap.size, 0, none⟩) o o) w2 ∧
    (convert 48 9 (.slice (some ⟨w.heap.size, 0, none⟩) o o)).run Try.prog w2 = .ok (.string (mk (zeros o))) w2 ∧ Below w.heap.size w w2 := by
  obtain ⟨i0, hi, hz0, hz1, hz2⟩ := info_parts infoU8
  have hm := run_makeSlice (P := Try.prog) w 48 5 i0 (.int .u8 0) Try.underlying48 hi hz0 .i64 .i64 (o : Int) (o : Int) (by omega) (by omega) (by rw [hz1]; simp; omega) (by rw [hz2]; omega) (by omega)
  rw [Int.toNat_natCast, hz1, Nat.mul_one] at hm
  refine ⟨_, hm, ?_, below_alloc _ _⟩
  have h := run_convert_bytes_back (P := Try.prog) (w.alloc (.cells (madeCells (Value.int .u8 0).cells o) 5)) 48 9 5 ⟨w.heap.size, 0, none⟩ o (zeros o) Try.underlying48 Try.underlying5 Try.underlying9 (fun j hj => by
    have hj2 : j < o := by simpa [zeros] using hj
    have := World.news_of_block (w := w.alloc (.cells (madeCells (Value.int .u8 0).cells o) 5)) (cs := madeCells (Value.int .u8 0).cells o) (t := 5) (fr := (0, 0)) (heap_alloc_new w _) j (.int .u8 0) (by
      show (madeCells #[.int .u8 0] o).toList[j]? = _
      simp [madeCells, hj2, Nat.mod_one])
    rw [this]
    simp [zeros])
  have hl : (zeros o).length = o := by simp [zeros]
  rw [hl] at h
  exact h

def dollars : Nat → Bs
  | 0 => []
  | t + 1 => dollars t ++ [36, 120]
theorem dollars_len : ∀ t, (dollars t).length = 2 * t
  | 0 => rfl
  | t + 1 => by rw [dollars, List.length_append, dollars_len t]; simp; omega
theorem dollars_cons : ∀ t, dollars (t + 1) = 36 :: 120 :: dollars t
  | 0 => rfl
  | t + 1 => by
    have := dollars_cons t
    show dollars (t + 1) ++ [36, 120] = _
    conv => lhs; rw [this]
    show 36 :: 120 :: dollars (t + 1) = _
    rfl
def times (z : Bs) : Nat → Bs
  | 0 => []
  | t + 1 => z ++ times z t
theorem times_len (z : Bs) : ∀ t, (times z t).length = z.length * t
  | 0 => rfl
  | t + 1 => by rw [times, List.length_append, times_len z t, Nat.mul_add]; omega

theorem exp_dollars (g : Bs → Bs) : ∀ t, exp g (dollars t) = some (times (g [120]) t)
  | 0 => rfl
  | t + 1 => by
    have hm : mean g (120 :: dollars t) = (g [120], 1) := by
      have htw : (120 :: dollars t : Bs).takeWhile shortB = [120] := by
        rw [List.takeWhile_cons, if_pos (by decide)]
        cases t with
        | zero => rfl
        | succ t => rw [dollars_cons, List.takeWhile_cons, if_neg (by decide)]
      unfold mean
      simp only
      rw [if_neg (by decide), if_neg (by decide), htw]
      rfl
    rw [dollars_cons, exp_dollar, hm]
    simp only [List.drop_succ_cons, List.drop_zero]
    rw [if_neg (by omega), exp_dollars g t]
    rfl

set_option maxRecDepth 100000 in
set_option maxHeartbeats 4000000 in
theorem scopeLong_w (n k : Nat) (hn : n < 65536) (hk : k < 65536) (w : World) :
    Calls Try.prog 10 #[.int .u16 (n : Int), .int .u16 (k : Int)] w fun e w' => e = .returned (.bool true) ∧ Below w.heap.size w w' := by
  have hn1 := new_n none w (fun q h => by cases h)
  rw [ptr_none] at hn1
  obtain ⟨o, ho⟩ : ∃ o : Nat, n % 600 + 1 = o := ⟨_, rfl⟩
  obtain ⟨t, ht⟩ : ∃ t : Nat, k % 60 = t := ⟨_, rfl⟩
  have ho2 : (n : Int) % 600 + 1 = (o : Int) := by omega
  have ht2 : (k : Int) % 60 = (t : Int) := by omega
  have ho3 : 1 ≤ o ∧ o ≤ 600 := by omega
  have ht3 : t < 60 := by omega
  clear ho ht
  obtain ⟨ho3, ho4⟩ := ho3
  have haw := awake_c
  go_enter Try.func10, Try.ntmps10
  go_wp2_with fail
  refine hn1.mono ?_
  rintro e w1 ⟨p1, rfl, H1⟩
  clear hn1
  obtain ⟨e1, N1, b1⟩ := H1.out
  obtain ⟨w2, hr1, hr2, hb2⟩ := zeros_run o (by omega) w1
  have N2 := Lib.hid (N1.below hb2)
  have B2 := Lib.hid (b1.trans (hb2.mono b1.size))
  have hset := set_c N2.out (by omega) [120] (zeros o) (by decide) (by decide)
  have P1 := Lib.hid e1
  clear e1 N1 b1 hb2 H1
  go_wp2_with fail
  refine hset.mono ?_
  rintro e w3 ⟨rfl, mv, hq⟩
  have N3 := Lib.hid hq.node
  have B3 := Lib.hid (B2.out.trans (hq.below (Nat.le_of_eq P1.out.symm) (fun m h => by cases h) B2.out.size))
  clear hq hset hr1 hr2 B2 N2
  go_wp2_with fail
  go_loopw [8, 9] (fun x i W' => ∃ j : Nat, i = .int .i64 j ∧ j ≤ t ∧ x = .string (mk (dollars j)) ∧ w3 = W') (fun _ i _ => t - (intOf i).toNat)
  case atStart => exact ⟨0, rfl, Nat.zero_le _, rfl, rfl⟩
  case round =>
    obtain ⟨j, rfl, hj, rfl, rfl⟩ := hrel
    have hdl := dollars_len j
    have hz := mk_size (dollars j)
    by_cases hlt : j < t
    · have hcat : mk (dollars j) ++ (⟨#[36, 120]⟩ : ByteArray) = mk (dollars (j + 1)) := mk_append (dollars j) [36, 120]
      have hjl : (dollars j).length ≤ 120 := by omega
      clear hdl
      go_wp2_with fail
      go_roundw
      case rel => exact ⟨j + 1, by go_num, by omega, rfl, trivial⟩
      case measure => simp [intOf]; omega
    · obtain rfl : j = t := by omega
      have hgx : getL [upd (fun _ => none) [120] (zeros o)] [120] = zeros o := getL_one _ _
      have hex := expand_c (.cons N3.out .nil) (fun x => getL_one_le (M := 900000) (by simp [zeros]; omega) x) (dollars j) (by omega)
      have hxd := exp_dollars (getL [upd (fun _ => none) [120] (zeros o)]) j
      rw [hgx] at hxd
      have hzl : (times (zeros o) j).length = o * j := by rw [times_len]; simp [zeros]
      have hob : o * j ≤ 36000 := Nat.le_trans (Nat.mul_le_mul ho4 (show j ≤ 60 by omega)) (by omega)
      rw [ptr_some] at hex
      obtain ⟨M, hM⟩ : ∃ M : Nat, o * j = M := ⟨_, rfl⟩
      rw [hM] at hzl hob
      have hMi : (o : Int) * (j : Int) = (M : Int) := by rw [← hM]; omega
      have hMw : IntKind.i64.wrap ((o : Int) * (j : Int)) = (M : Int) := by rw [hMi]; exact IntWalk.i64_in _ (by omega)
      clear hM hgx hdl hz
      obtain ⟨X, hX⟩ : ∃ X, times (zeros o) j = X := ⟨_, rfl⟩
      rw [hX] at hzl hxd
      have hzX := mk_size X
      rw [hzl] at hzX
      clear hX
      by_cases hbig : 16384 < M
      · rw [expand_long hxd (by omega)] at hex
        have hbi : (16384 : Int) < (M : Int) := by omega
        have e0 : (mk []).toList.isEmpty = true := by rw [mk_toList]; rfl
        clear hxd hzl hzX
        go_wp2_with fail
        refine hex.mono ?_
        rintro e w4 ⟨rfl, hb4⟩
        go_wp2_with fail
        refine (haw _).mono ?_
        rintro e w5 ⟨rfl, hb5⟩
        go_wp2_with fail
        go_ret
        exact ⟨rfl, (B3.out.trans (hb4.mono B3.out.size)).trans (hb5.mono (Nat.le_trans B3.out.size hb4.size))⟩
      · rw [expand_some hxd (by omega)] at hex
        have hbi : ¬ (16384 : Int) < (M : Int) := by omega
        clear hxd hzl
        go_wp2_with fail
        refine hex.mono ?_
        rintro e w4 ⟨rfl, hb4⟩
        go_wp2_with fail
        refine (haw _).mono ?_
        rintro e w5 ⟨rfl, hb5⟩
        go_wp2_with fail
        go_ret
        exact ⟨rfl, (B3.out.trans (hb4.mono B3.out.size)).trans (hb5.mono (Nat.le_trans B3.out.size hb4.size))⟩
end Go.Proofs.Ytbohnjiachnadaa.Sc
