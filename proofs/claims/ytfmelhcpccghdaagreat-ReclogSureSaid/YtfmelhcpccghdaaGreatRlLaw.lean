/-
  THE LAWS' OWN HELPERS: light, Same, awake.
-/
import Derived.Test.YtfmelhcpccghdaaGreatRlScan2
import Derived.Deep.QuietTactic
import Derived.BigQuiet
namespace Go.Proofs.YtfmelhcpccghdaaGreat.Rl
open Go.RowKit Go.Maps

variable {w : World}

theorem Mat.at {a : Option Addr} {n c : Nat} {rs : List (List UInt8)} (h : Mat w (.slice a n c) rs) : n = rs.length ∧ ∀ j r, rs[j]? = some r → ∃ b o ua uc, a = some ⟨b, o, none⟩ ∧ b < w.heap.size ∧ w.cell? ⟨b, o + j, none⟩ = some (.slice ua r.length uc) ∧ BRow w (.slice ua r.length uc) r := by
  obtain ⟨a', c', e, h⟩ := h
  cases e
  refine ⟨rfl, fun j r hj => ?_⟩
  obtain ⟨b, o, u, h1, h2, h3, h4⟩ := h j r hj
  obtain ⟨ua, uc, rfl⟩ := slice_of h4
  exact ⟨b, o, ua, uc, h1, h2, h3, h4⟩

def Light (rs : List (List UInt8)) : Prop := rs.length ≤ 30 ∧ ∀ r ∈ rs, r.length ≤ 500
instance (rs : List (List UInt8)) : Decidable (Light rs) := inferInstanceAs (Decidable (_ ∧ _))

set_option maxRecDepth 100000 in
set_option maxHeartbeats 2000000 in
theorem light_c {a : Option Addr} {n c : Nat} {rs : List (List UInt8)} (h : Mat w (.slice a n c) rs) : Calls Tryz.prog 17 #[.slice a n c] w fun e w' => e = .returned (.bool (decide (Light rs))) ∧ w = w' := by
  obtain ⟨hn, hat⟩ := Mat.at h
  have HAT := Lib.hid hat
  have HN := Lib.hid hn
  clear h hat hn
  by_cases h30 : n ≤ 30
  · go_enter Tryz.func17, Tryz.ntmps17
    go_wp2
    go_loopw [3] (fun v wr => ∃ i : Nat, i ≤ n ∧ v = .int .i64 i ∧ w = wr ∧ Hid (∀ j r, j < i → rs[j]? = some r → r.length ≤ 500)) (fun v _ => n - (intOf v).toNat)
    case atStart => exact ⟨0, Nat.zero_le _, rfl, rfl, Lib.hid fun j r hj => by omega⟩
    case round =>
      obtain ⟨i, hi, rfl, rfl, hL⟩ := hrel
      by_cases hlt : i < n
      · obtain ⟨r, hr⟩ : ∃ r, rs[i]? = some r := ⟨rs[i]'(by rw [← HN.out]; exact hlt), List.getElem?_eq_getElem _⟩
        obtain ⟨b, o, ua, uc, rfl, hb, hc, _⟩ := HAT.out i r hr
        obtain ⟨rn, hrn⟩ : ∃ k, r.length = k := ⟨_, rfl⟩
        rw [hrn] at hc
        have HR := Lib.hid hr
        have HRN := Lib.hid hrn
        clear hr hrn
        by_cases h5 : rn ≤ 500
        · go_wp2
          go_roundw
          case rel => exact ⟨i + 1, by omega, by go_num, trivial, Lib.hid fun j y hj hy => by
            by_cases e : j = i
            · subst e
              rw [HR.out] at hy
              cases hy
              rw [HRN.out]; exact h5
            · exact hL.out j y (by omega) hy⟩
          case measure => simp [intOf]; omega
        · have hno : decide (Light rs) = false := decide_eq_false fun hh => h5 (by rw [← HRN.out]; exact hh.2 r (List.mem_of_getElem? HR.out))
          go_wp2
          go_ret
          rw [hno]
          exact ⟨rfl, rfl⟩
      · obtain rfl : i = n := by omega
        have hyes : decide (Light rs) = true := decide_eq_true ⟨by rw [← HN.out]; exact h30, fun x hx => by
          obtain ⟨j, hj⟩ := List.getElem?_of_mem hx
          exact hL.out j x (by have := (List.getElem?_eq_some_iff.1 hj).1; rw [HN.out]; exact this) hj⟩
        go_wp2
        go_ret
        rw [hyes]
        exact ⟨rfl, rfl⟩
  · have hno : decide (Light rs) = false := decide_eq_false fun hh => h30 (by rw [HN.out]; exact hh.1)
    go_enter Tryz.func17, Tryz.ntmps17
    go_wp2
    go_ret
    rw [hno]
    exact ⟨rfl, rfl⟩

set_option maxRecDepth 100000 in
set_option maxHeartbeats 2000000 in
theorem same_c {a b : Option Addr} {n c m k : Nat} {A B : List (List UInt8)} (ha : Mat w (.slice a n c) A) (hb : Mat w (.slice b m k) B) (hn9 : n ≤ 1000000) : Calls Tryz.prog 15 #[.slice a n c, .slice b m k] w fun e w' => e = .returned (.bool (decide (A = B))) ∧ Below w.heap.size w w' := by
  obtain ⟨hn, hat⟩ := Mat.at ha
  obtain ⟨hm, hbt⟩ := Mat.at hb
  have HAT := Lib.hid hat
  have HBT := Lib.hid hbt
  have HN := Lib.hid hn
  have HM := Lib.hid hm
  clear ha hb hat hbt hn hm
  by_cases hl : n = m
  · subst hl
    go_enter Tryz.func15, Tryz.ntmps15
    go_wp2
    go_loopw [5] (fun v wr => ∃ i : Nat, i ≤ n ∧ v = .int .i64 i ∧ Hid (Below w.heap.size w wr) ∧ Hid (∀ j, j < i → A[j]? = B[j]?)) (fun v _ => n - (intOf v).toNat)
    case atStart => exact ⟨0, Nat.zero_le _, rfl, Lib.hid (Below.refl _ _), Lib.hid fun j hj => by omega⟩
    case round =>
      obtain ⟨i, hi, rfl, hBR, hL⟩ := hrel
      by_cases hlt : i < n
      · obtain ⟨x, hx⟩ : ∃ r, A[i]? = some r := ⟨A[i]'(by rw [← HN.out]; exact hlt), List.getElem?_eq_getElem _⟩
        obtain ⟨y, hy⟩ : ∃ r, B[i]? = some r := ⟨B[i]'(by rw [← HM.out]; exact hlt), List.getElem?_eq_getElem _⟩
        obtain ⟨b1, o1, ua, uc, rfl, hb1, hc1, hr1⟩ := HAT.out i x hx
        obtain ⟨b2, o2, va, vc, rfl, hb2, hc2, hr2⟩ := HBT.out i y hy
        have cx := fun (k : Nat) => conv_b ((hr1.below hBR.out).drewN (w' := wr.drewN k) rfl)
        have cy := fun (k : Nat) => conv_b ((hr2.below hBR.out).drewN (w' := wr.drewN k) rfl)
        have hc1 := (hBR.out.cell (p := ⟨b1, o1 + i, none⟩) hb1).trans hc1
        have hc2 := (hBR.out.cell (p := ⟨b2, o2 + i, none⟩) hb2).trans hc2
        obtain ⟨xn, hxn⟩ : ∃ k, x.length = k := ⟨_, rfl⟩
        obtain ⟨yn, hyn⟩ : ∃ k, y.length = k := ⟨_, rfl⟩
        rw [hxn] at hc1
        rw [hyn] at hc2
        simp only [hxn] at cx
        simp only [hyn] at cy
        have HX := Lib.hid hx
        have HY := Lib.hid hy
        clear hx hy hxn hyn hr1 hr2
        by_cases he : x = y
        · have hz : ((mk x).toList != (mk y).toList) = false := by rw [he]; simp
          have HE := Lib.hid he
          clear he
          have hz2 : ((mk x).toList == (mk y).toList) = true := by rw [HE.out]; simp
          go_wp2
          go_quiet (fail)
          go_wp2
          go_roundw
          case rel => exact ⟨i + 1, by omega, by go_num, Lib.hid ⟨hBR.out.os, hBR.out.tape, hBR.out.output, hBR.out.size, hBR.out.block⟩, Lib.hid fun j hj => by
            by_cases e : j = i
            · subst e; rw [HX.out, HY.out, HE.out]
            · exact hL.out j (by omega)⟩
          case measure => simp [intOf]; omega
        · have hz : ((mk x).toList == (mk y).toList) = false := by rw [mk_toList, mk_toList]; exact beq_false_of_ne he
          have hno : decide (A = B) = false := decide_eq_false fun hh => he (by have := HX.out; rw [hh, HY.out] at this; cases this; rfl)
          clear he
          go_wp2
          go_quiet (fail)
          go_wp2
          go_ret
          rw [hno]
          exact ⟨rfl, ⟨hBR.out.os, hBR.out.tape, hBR.out.output, hBR.out.size, hBR.out.block⟩⟩
      · obtain rfl : i = n := by omega
        have hyes : decide (A = B) = true := decide_eq_true (List.ext_getElem? fun j => by
          by_cases hj : j < i
          · exact hL.out j hj
          · rw [List.getElem?_eq_none (by rw [← HN.out]; omega), List.getElem?_eq_none (by rw [← HM.out]; omega)])
        go_wp2
        go_ret
        rw [hyes]
        exact ⟨rfl, hBR.out⟩
  · have hno : decide (A = B) = false := decide_eq_false fun hh => hl (by rw [HN.out, HM.out, hh])
    go_enter Tryz.func15, Tryz.ntmps15
    go_wp2
    go_ret
    rw [hno]
    exact ⟨rfl, Below.refl _ _⟩

theorem frame_a : frame [97] = [1, 0, 0, 0, 67, 190, 183, 232, 97] := by decide +kernel

set_option maxRecDepth 100000 in
set_option maxHeartbeats 2000000 in
theorem awake5_c (w : World) : Calls Tryz.prog 16 #[] w fun e w' => e = .returned (.bool true) ∧ Below w.heap.size w w' := by
  have kc := fun (w : World) (C : Array Value) (n c : Nat) => Lib.run_convert_bytes_const (P := Tryz.prog) w 31 5 C n c Tryz.underlying31 Tryz.underlying5
  obtain ⟨w1, hw1⟩ : ∃ W, w.alloc (.cells #[.int .u8 97] 5 (1, 2)) = W := ⟨_, rfl⟩
  have hb1 : Below w.heap.size w w1 := by rw [← hw1]; exact below_alloc _ _
  have hr : BRow w1 (.slice (some ⟨w.heap.size, 0, none⟩) 1 1) [97] := by rw [← hw1]; exact byte_row w 97 (1, 2)
  have hf := frame_c (bq_of_row hr) (by omega)
  rw [frame_a] at hf
  have HB1 := Lib.hid hb1
  clear hr hb1
  go_enter Tryz.func16, Tryz.ntmps16
  go_wp2_with fail
  refine hf.mono ?_
  rintro e w2 ⟨a, c, rfl, hown, hb2⟩
  have hcv := conv_b (Bt.owned hown).row
  have HB2 := Lib.hid (HB1.out.trans (hb2.mono HB1.out.size))
  clear hf hown hb2
  have hz : ((mk [1, 0, 0, 0, 67, 190, 183, 232, 97]).toList == [1, 0, 0, 0, 67, 190, 183, 232, 97]) = true := by rw [mk_toList]; rfl
  go_wp2
  go_ret
  exact ⟨rfl, HB2.out⟩
end Go.Proofs.YtfmelhcpccghdaaGreat.Rl
