/-
  container/heap's down over a row of numbers.
-/
import Derived.Test.YtbflodefmookiaaGrUp
namespace Go.Proofs.Ytbflodefmookiaa.Gr
open Go.RowKit Go.Proofs.Ytbflodefmookiaa

theorem But.drewN {b : Option Nat} {w W : World} (h : But b w W) (q : Nat) : But b w (W.drewN q) := h.trans ⟨rfl, rfl, rfl, Nat.le_refl _, fun _ _ _ => rfl⟩

set_option maxRecDepth 100000 in
set_option maxHeartbeats 16000000 in
theorem down_c {w : World} {base p : Nat} {b : Option Nat} {H : List Nat} {i0 n : Nat} (h : Hs w base p b H) (hu : DnI H n i0) (hn : n ≤ H.length) (hi : i0 ≤ n) (hl : H.length ≤ 1000000) :
    Calls Try.prog 58 #[.iface 96 (.pointer (some ⟨p, 0, none⟩)), .int .i64 i0, .int .i64 n] w fun e w' => (∃ z, e = .returned z) ∧ ∃ H', Hs w' base p b H' ∧ H'.Perm H ∧ Hp H' n ∧ (∀ m, n ≤ m → H'.getD m 0 = H.getD m 0) ∧ But b w w' := by
  have HS := Lib.hid h
  have HU := Lib.hid hu
  clear h hu
  go_enter Try.func58, Try.ntmps58
  go_wp2_with fail
  go_loopw [7, 8, 9, 10] (fun i _ _ _ wr => ∃ (k : Nat) (H' : List Nat), i = .int .i64 k ∧ k ≤ n ∧ Hid (H'.length = H.length) ∧ Hid (Hs wr base p b H') ∧ Hid (DnI H' n k) ∧ Hid (H'.Perm H) ∧ Hid (∀ m, n ≤ m → H'.getD m 0 = H.getD m 0) ∧ Hid (But b w wr)) (fun i _ _ _ _ => n - (intOf i).toNat)
  case atStart => exact ⟨i0, H, rfl, hi, Lib.hid rfl, HS, HU, Lib.hid (List.Perm.refl _), Lib.hid (fun _ _ => rfl), Lib.hid (But.refl _ _)⟩
  case round =>
    clear HS HU
    obtain ⟨k, H', rfl, hk, HLN, HS, HU, HP, HFAR, HB⟩ := hrel
    have hHL := HLN.out
    obtain ⟨v, hp, hrow, hb, hne⟩ := HS.out
    obtain ⟨a, c, rfl⟩ := hrow.1
    have HBE := Lib.hid hb
    have HNE := Lib.hid hne
    have HPB := Lib.hid hp
    have HROW := Lib.hid hrow
    by_cases hend : n ≤ 2 * k + 1
    · have e3 : (n : Int) ≤ 2 * (k : Int) + 1 := by omega
      have e5 : decide ((n : Int) ≤ 2 * (k : Int) + 1) = true := decide_eq_true e3
      have HF := Lib.hid (HU.out.none hend)
      clear hp hrow hb hne hHL
      go_wp2_with fail
      go_ret
      exact ⟨⟨_, rfl⟩, H', HS.out, HP.out, HF.out, HFAR.out, HB.out⟩
    have e3 : ¬ (n : Int) ≤ 2 * (k : Int) + 1 := by omega
    have e5 : decide ((n : Int) ≤ 2 * (k : Int) + 1) = false := decide_eq_false e3
    have e4 : ¬ (2 : Int) * (k : Int) + 1 < 0 := by omega
    have e6 : decide ((2 : Int) * (k : Int) + 1 < 0) = false := decide_eq_false e4
    have hk1 : k < H'.length := by omega
    have hj1 : 2 * k + 1 < H'.length := by omega
    have hj1n : 2 * k + 1 < n := by omega
    have x1 : (((2 * k + 1 : Nat)) : Int) = 2 * (k : Int) + 1 := by omega
    have x2 : (((2 * k + 2 : Nat)) : Int) = 2 * (k : Int) + 1 + 1 := by omega
    have X1 := Lib.hid x1
    have X2 := Lib.hid x2
    clear x1 x2
    have HSWP : Hid (∀ (j : Nat) W, j < H'.length → RowI W base (.slice a H'.length c) H' → Calls Try.prog 117 #[.slice a H'.length c, .int .i64 k, .int .i64 j] W fun e w' => (∃ z, e = .returned z) ∧ RowI w' base (.slice a H'.length c) (sw H' k j) ∧ But (Value.slice a H'.length c).ownBlock W w') := Lib.hid fun j W hj hW => swap_c hW (i := k) (j := j) hk1 hj
    have HLES : Hid (∀ (i j : Nat) W, i < H'.length → j < H'.length → RowI W base (.slice a H'.length c) H' → Calls Try.prog 115 #[.slice a H'.length c, .int .i64 i, .int .i64 j] W fun e w' => e = .returned (.bool (decide (H'.getD i 0 < H'.getD j 0))) ∧ ∃ q, w' = W.drewN q) := Lib.hid fun i j W hi hj hW => less_c hW hi hj
    have hlen0 := hHL
    have c0 : wr.cell? ⟨p, 0, none⟩ = some (.slice a H'.length c) := by simp [World.cell?, hp]
    have hSWL : ∀ j, (sw H' k j).length = H.length := fun j => by rw [sw_len]; exact hHL
    have HSWL := Lib.hid hSWL
    have hnH : n ≤ H'.length := by omega
    have HNH := Lib.hid hnH
    clear hp hrow hb hne hSWL hHL hlen0
    by_cases hj2 : 2 * k + 2 < n
    · have f1 : 2 * (k : Int) + 1 + 1 < (n : Int) := by omega
      have f2 : decide (2 * (k : Int) + 1 + 1 < (n : Int)) = true := decide_eq_true f1
      have hj2l : 2 * k + 2 < H'.length := by omega
      have hl2 := HLES.out (2 * k + 2) (2 * k + 1) wr hj2l hj1 HROW.out
      rw [X1.out, X2.out] at hl2
      have ml := meth_less c0
      by_cases hcmp : H'.getD (2 * k + 2) 0 < H'.getD (2 * k + 1) 0
      · have HLESS : Hid (Less H' n k (2 * k + 2)) := Lib.hid ⟨.inr rfl, hj2, fun _ => by omega, fun _ => Nat.le_refl _⟩
        rw [decide_eq_true hcmp] at hl2
        clear hcmp
        go_wp2_with fail
        refine hl2.mono ?_
        rintro e w1 ⟨rfl, q, hq⟩
        have HPw1 : Hid (w1.heap[p]? = some (.cells #[.slice a H'.length c] 93 (0, 0))) := Lib.hid (by rw [hq]; exact HPB.out)
        have HRw1 : Hid (RowI w1 base (.slice a H'.length c) H') := Lib.hid (by rw [hq]; exact HROW.out)
        have HBw1 : Hid (But b w w1) := Lib.hid (by rw [hq]; exact HB.out.drewN q)
        clear hl2 hq c0
        have c0 : w1.cell? ⟨p, 0, none⟩ = some (.slice a H'.length c) := by simp [World.cell?, HPw1.out]
        clear ml
        have hls := HLES.out (2 * k + 2) k w1 (by omega) hk1 HRw1.out
        rw [X2.out] at hls
        by_cases hlt : H'.getD (2 * k + 2) 0 < H'.getD k 0
        · have hst := HU.out.step HNH.out HLESS.out hlt
          have HST := Lib.hid hst
          rw [decide_eq_true hlt] at hls
          have ml2 := meth_less c0
          clear hlt hst
          go_wp2_with fail
          refine hls.mono ?_
          rintro e u1 ⟨rfl, q, hq⟩
          have HPu1 : Hid (u1.heap[p]? = some (.cells #[.slice a H'.length c] 93 (0, 0))) := Lib.hid (by rw [hq]; exact HPw1.out)
          have HRu1 : Hid (RowI u1 base (.slice a H'.length c) H') := Lib.hid (by rw [hq]; exact HRw1.out)
          have HBu1 : Hid (But b w u1) := Lib.hid (by rw [hq]; exact HBw1.out.drewN q)
          clear hls hq c0
          have c0 : u1.cell? ⟨p, 0, none⟩ = some (.slice a H'.length c) := by simp [World.cell?, HPu1.out]
          have ms := meth_swap c0
          have hsw := HSWP.out (2 * k + 2) u1 (by omega) HRu1.out
          rw [X2.out] at hsw
          clear ml2
          go_wp2_with fail
          refine hsw.mono ?_
          rintro e u2 ⟨⟨z, rfl⟩, hr2, hbut⟩
          rw [HBE.out] at hbut
          have HS2 : Hid (Hs u2 base p b (sw H' k (2 * k + 2))) := Lib.hid ⟨_, (hbut.block p (lt_some HPu1.out) HNE.out).trans HPu1.out, hr2, HBE.out, HNE.out⟩
          have HB2 := Lib.hid (HBu1.out.trans hbut)
          have HPM2 := Lib.hid ((sw_perm H' (i := k) (j := 2 * k + 2) hk1 (by omega)).trans HP.out)
          have HFAR2 : Hid (∀ m, n ≤ m → (sw H' k (2 * k + 2)).getD m 0 = H.getD m 0) := Lib.hid fun m hm => (sw_far (by omega) (by omega) HNH.out hm).trans (HFAR.out m hm)
          have HSL := Lib.hid (HSWL.out (2 * k + 2))
          clear hsw hr2 hbut ms c0
          go_wp2_with fail
          go_roundw
          case rel => exact ⟨2 * k + 2, sw H' k (2 * k + 2), by rw [X2.out], by omega, HSL, HS2, HST, HPM2, HFAR2, HB2⟩
          case measure => simp [intOf] <;> omega
        · have hst := HU.out.stop HLESS.out (by omega)
          have HST := Lib.hid hst
          rw [decide_eq_false hlt] at hls
          have ml2 := meth_less c0
          clear hlt hst
          go_wp2_with fail
          refine hls.mono ?_
          rintro e u1 ⟨rfl, q, hq⟩
          have HPu1 : Hid (u1.heap[p]? = some (.cells #[.slice a H'.length c] 93 (0, 0))) := Lib.hid (by rw [hq]; exact HPw1.out)
          have HRu1 : Hid (RowI u1 base (.slice a H'.length c) H') := Lib.hid (by rw [hq]; exact HRw1.out)
          have HBu1 : Hid (But b w u1) := Lib.hid (by rw [hq]; exact HBw1.out.drewN q)
          clear hls hq c0
          have c0 : u1.cell? ⟨p, 0, none⟩ = some (.slice a H'.length c) := by simp [World.cell?, HPu1.out]
          clear ml2
          go_wp2_with fail
          go_ret
          exact ⟨⟨_, rfl⟩, H', ⟨_, HPu1.out, HRu1.out, HBE.out, HNE.out⟩, HP.out, HST.out, HFAR.out, HBu1.out⟩
      · have HLESS : Hid (Less H' n k (2 * k + 1)) := Lib.hid ⟨.inl rfl, by omega, fun _ => Nat.le_refl _, fun _ => by omega⟩
        rw [decide_eq_false hcmp] at hl2
        clear hcmp
        go_wp2_with fail
        refine hl2.mono ?_
        rintro e w1 ⟨rfl, q, hq⟩
        have HPw1 : Hid (w1.heap[p]? = some (.cells #[.slice a H'.length c] 93 (0, 0))) := Lib.hid (by rw [hq]; exact HPB.out)
        have HRw1 : Hid (RowI w1 base (.slice a H'.length c) H') := Lib.hid (by rw [hq]; exact HROW.out)
        have HBw1 : Hid (But b w w1) := Lib.hid (by rw [hq]; exact HB.out.drewN q)
        clear hl2 hq c0
        have c0 : w1.cell? ⟨p, 0, none⟩ = some (.slice a H'.length c) := by simp [World.cell?, HPw1.out]
        clear ml
        have hls := HLES.out (2 * k + 1) k w1 (by omega) hk1 HRw1.out
        rw [X1.out] at hls
        by_cases hlt : H'.getD (2 * k + 1) 0 < H'.getD k 0
        · have hst := HU.out.step HNH.out HLESS.out hlt
          have HST := Lib.hid hst
          rw [decide_eq_true hlt] at hls
          have ml2 := meth_less c0
          clear hlt hst
          go_wp2_with fail
          refine hls.mono ?_
          rintro e u1 ⟨rfl, q, hq⟩
          have HPu1 : Hid (u1.heap[p]? = some (.cells #[.slice a H'.length c] 93 (0, 0))) := Lib.hid (by rw [hq]; exact HPw1.out)
          have HRu1 : Hid (RowI u1 base (.slice a H'.length c) H') := Lib.hid (by rw [hq]; exact HRw1.out)
          have HBu1 : Hid (But b w u1) := Lib.hid (by rw [hq]; exact HBw1.out.drewN q)
          clear hls hq c0
          have c0 : u1.cell? ⟨p, 0, none⟩ = some (.slice a H'.length c) := by simp [World.cell?, HPu1.out]
          have ms := meth_swap c0
          have hsw := HSWP.out (2 * k + 1) u1 (by omega) HRu1.out
          rw [X1.out] at hsw
          clear ml2
          go_wp2_with fail
          refine hsw.mono ?_
          rintro e u2 ⟨⟨z, rfl⟩, hr2, hbut⟩
          rw [HBE.out] at hbut
          have HS2 : Hid (Hs u2 base p b (sw H' k (2 * k + 1))) := Lib.hid ⟨_, (hbut.block p (lt_some HPu1.out) HNE.out).trans HPu1.out, hr2, HBE.out, HNE.out⟩
          have HB2 := Lib.hid (HBu1.out.trans hbut)
          have HPM2 := Lib.hid ((sw_perm H' (i := k) (j := 2 * k + 1) hk1 (by omega)).trans HP.out)
          have HFAR2 : Hid (∀ m, n ≤ m → (sw H' k (2 * k + 1)).getD m 0 = H.getD m 0) := Lib.hid fun m hm => (sw_far (by omega) (by omega) HNH.out hm).trans (HFAR.out m hm)
          have HSL := Lib.hid (HSWL.out (2 * k + 1))
          clear hsw hr2 hbut ms c0
          go_wp2_with fail
          go_roundw
          case rel => exact ⟨2 * k + 1, sw H' k (2 * k + 1), by rw [X1.out], by omega, HSL, HS2, HST, HPM2, HFAR2, HB2⟩
          case measure => simp [intOf] <;> omega
        · have hst := HU.out.stop HLESS.out (by omega)
          have HST := Lib.hid hst
          rw [decide_eq_false hlt] at hls
          have ml2 := meth_less c0
          clear hlt hst
          go_wp2_with fail
          refine hls.mono ?_
          rintro e u1 ⟨rfl, q, hq⟩
          have HPu1 : Hid (u1.heap[p]? = some (.cells #[.slice a H'.length c] 93 (0, 0))) := Lib.hid (by rw [hq]; exact HPw1.out)
          have HRu1 : Hid (RowI u1 base (.slice a H'.length c) H') := Lib.hid (by rw [hq]; exact HRw1.out)
          have HBu1 : Hid (But b w u1) := Lib.hid (by rw [hq]; exact HBw1.out.drewN q)
          clear hls hq c0
          have c0 : u1.cell? ⟨p, 0, none⟩ = some (.slice a H'.length c) := by simp [World.cell?, HPu1.out]
          clear ml2
          go_wp2_with fail
          go_ret
          exact ⟨⟨_, rfl⟩, H', ⟨_, HPu1.out, HRu1.out, HBE.out, HNE.out⟩, HP.out, HST.out, HFAR.out, HBu1.out⟩
    · have f1 : ¬ 2 * (k : Int) + 1 + 1 < (n : Int) := by omega
      have f2 : decide (2 * (k : Int) + 1 + 1 < (n : Int)) = false := decide_eq_false f1
      have HLESS : Hid (Less H' n k (2 * k + 1)) := Lib.hid ⟨.inl rfl, by omega, fun _ => Nat.le_refl _, fun h => absurd h hj2⟩
      have hls := HLES.out (2 * k + 1) k wr (by omega) hk1 HROW.out
      rw [X1.out] at hls
      by_cases hlt : H'.getD (2 * k + 1) 0 < H'.getD k 0
      · have hst := HU.out.step HNH.out HLESS.out hlt
        have HST := Lib.hid hst
        rw [decide_eq_true hlt] at hls
        have ml2 := meth_less c0
        clear hlt hst
        go_wp2_with fail
        refine hls.mono ?_
        rintro e u1 ⟨rfl, q, hq⟩
        have HPu1 : Hid (u1.heap[p]? = some (.cells #[.slice a H'.length c] 93 (0, 0))) := Lib.hid (by rw [hq]; exact HPB.out)
        have HRu1 : Hid (RowI u1 base (.slice a H'.length c) H') := Lib.hid (by rw [hq]; exact HROW.out)
        have HBu1 : Hid (But b w u1) := Lib.hid (by rw [hq]; exact HB.out.drewN q)
        clear hls hq c0
        have c0 : u1.cell? ⟨p, 0, none⟩ = some (.slice a H'.length c) := by simp [World.cell?, HPu1.out]
        have ms := meth_swap c0
        have hsw := HSWP.out (2 * k + 1) u1 (by omega) HRu1.out
        rw [X1.out] at hsw
        clear ml2
        go_wp2_with fail
        refine hsw.mono ?_
        rintro e u2 ⟨⟨z, rfl⟩, hr2, hbut⟩
        rw [HBE.out] at hbut
        have HS2 : Hid (Hs u2 base p b (sw H' k (2 * k + 1))) := Lib.hid ⟨_, (hbut.block p (lt_some HPu1.out) HNE.out).trans HPu1.out, hr2, HBE.out, HNE.out⟩
        have HB2 := Lib.hid (HBu1.out.trans hbut)
        have HPM2 := Lib.hid ((sw_perm H' (i := k) (j := 2 * k + 1) hk1 (by omega)).trans HP.out)
        have HFAR2 : Hid (∀ m, n ≤ m → (sw H' k (2 * k + 1)).getD m 0 = H.getD m 0) := Lib.hid fun m hm => (sw_far (by omega) (by omega) HNH.out hm).trans (HFAR.out m hm)
        have HSL := Lib.hid (HSWL.out (2 * k + 1))
        clear hsw hr2 hbut ms c0
        go_wp2_with fail
        go_roundw
        case rel => exact ⟨2 * k + 1, sw H' k (2 * k + 1), by rw [X1.out], by omega, HSL, HS2, HST, HPM2, HFAR2, HB2⟩
        case measure => simp [intOf] <;> omega
      · have hst := HU.out.stop HLESS.out (by omega)
        have HST := Lib.hid hst
        rw [decide_eq_false hlt] at hls
        have ml2 := meth_less c0
        clear hlt hst
        go_wp2_with fail
        refine hls.mono ?_
        rintro e u1 ⟨rfl, q, hq⟩
        have HPu1 : Hid (u1.heap[p]? = some (.cells #[.slice a H'.length c] 93 (0, 0))) := Lib.hid (by rw [hq]; exact HPB.out)
        have HRu1 : Hid (RowI u1 base (.slice a H'.length c) H') := Lib.hid (by rw [hq]; exact HROW.out)
        have HBu1 : Hid (But b w u1) := Lib.hid (by rw [hq]; exact HB.out.drewN q)
        clear hls hq c0
        have c0 : u1.cell? ⟨p, 0, none⟩ = some (.slice a H'.length c) := by simp [World.cell?, HPu1.out]
        clear ml2
        go_wp2_with fail
        go_ret
        exact ⟨⟨_, rfl⟩, H', ⟨_, HPu1.out, HRu1.out, HBE.out, HNE.out⟩, HP.out, HST.out, HFAR.out, HBu1.out⟩
end Go.Proofs.Ytbflodefmookiaa.Gr
