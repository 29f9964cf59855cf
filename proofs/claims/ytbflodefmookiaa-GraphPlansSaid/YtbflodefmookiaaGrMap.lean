/-
  The methods that an interface's value of the numbers' box leads to.
  container/heap over a row of numbers: up, down, Pop, Push.
  container/heap's down over a row of numbers.
  container/heap over a row of numbers: Pop, Push.
  A MAP WITH ANY VALUES: each value stands for itself. Keys: whatever kind the kit's 'Keyed' knows.
-/
import Derived.Test.YtbflodefmookiaaGrRow
import Derived.ChangeAlike
import Derived.Maps.OwnSet
import Derived.StringKeys
namespace Go.Proofs.Ytbflodefmookiaa.Gr
open Go.RowKit Go.Proofs.Ytbflodefmookiaa

theorem load_c {w : World} {p : Nat} {v : Value} {f : FuncId} (h : w.cell? ⟨p, 0, none⟩ = some v) : (do let v ← loadVar 91 ⟨p, 0, none⟩; pure (f, v) : Sem (FuncId × Value)).run Try.prog w = .ok (f, v) w := by
  simp [loadVar, Try.isAgg91, run_load, h]
theorem meth_less0 (w : World) (p : Nat) : (method 268 96 (.pointer (some ⟨p, 0, none⟩)) "Less").run Try.prog w = (do let v ← loadVar 91 ⟨p, 0, none⟩; pure (115, v)).run Try.prog w := by kernel_rfl
theorem meth_less {w : World} {p : Nat} {v : Value} (h : w.cell? ⟨p, 0, none⟩ = some v) : (method 268 96 (.pointer (some ⟨p, 0, none⟩)) "Less").run Try.prog w = .ok (115, v) w := by
  rw [meth_less0]
  exact load_c h
theorem meth_swap0 (w : World) (p : Nat) : (method 268 96 (.pointer (some ⟨p, 0, none⟩)) "Swap").run Try.prog w = (do let v ← loadVar 91 ⟨p, 0, none⟩; pure (117, v)).run Try.prog w := by kernel_rfl
theorem meth_swap {w : World} {p : Nat} {v : Value} (h : w.cell? ⟨p, 0, none⟩ = some v) : (method 268 96 (.pointer (some ⟨p, 0, none⟩)) "Swap").run Try.prog w = .ok (117, v) w := by
  rw [meth_swap0]
  exact load_c h
theorem meth_len0 (w : World) (p : Nat) : (method 268 96 (.pointer (some ⟨p, 0, none⟩)) "Len").run Try.prog w = (do let v ← loadVar 91 ⟨p, 0, none⟩; pure (47, v)).run Try.prog w := by kernel_rfl
theorem meth_len {w : World} {p : Nat} {v : Value} (h : w.cell? ⟨p, 0, none⟩ = some v) : (method 268 96 (.pointer (some ⟨p, 0, none⟩)) "Len").run Try.prog w = .ok (47, v) w := by
  rw [meth_len0]
  exact load_c h
theorem meth_pop (w : World) (p : Nat) : (method 268 96 (.pointer (some ⟨p, 0, none⟩)) "Pop").run Try.prog w = .ok (118, .pointer (some ⟨p, 0, none⟩)) w := by kernel_rfl
theorem meth_push (w : World) (p : Nat) : (method 268 96 (.pointer (some ⟨p, 0, none⟩)) "Push").run Try.prog w = .ok (119, .pointer (some ⟨p, 0, none⟩)) w := by kernel_rfl
end Go.Proofs.Ytbflodefmookiaa.Gr
namespace Go.Proofs.Ytbflodefmookiaa.Gr
open Go.RowKit Go.Proofs.Ytbflodefmookiaa

/-- the numbers that wait, in their box -/
def Hs (w : World) (base p : Nat) (b : Option Nat) (H : List Nat) : Prop := ∃ v, w.heap[p]? = some (.cells #[v] 93 (0, 0)) ∧ RowI w base v H ∧ v.ownBlock = b ∧ b ≠ some p
theorem But.refl (b : Option Nat) (w : World) : But b w w := ⟨rfl, rfl, rfl, Nat.le_refl _, fun _ _ _ => rfl⟩
theorem But.trans {b : Option Nat} {w w1 w2 : World} (h : But b w w1) (k : But b w1 w2) : But b w w2 :=
  ⟨k.os.trans h.os, k.tape.trans h.tape, k.output.trans h.output, Nat.le_trans h.size k.size, fun q hq hne => (k.block q (Nat.lt_of_lt_of_le hq h.size) hne).trans (h.block q hq hne)⟩
theorem lt_some {w : World} {p : Nat} {o : Obj} (h : w.heap[p]? = some o) : p < w.heap.size := by
  rcases Nat.lt_or_ge p w.heap.size with h' | h'
  · exact h'
  · rw [Array.getElem?_eq_none h'] at h; cases h
theorem Hs.cell {w : World} {base p : Nat} {b : Option Nat} {H : List Nat} (h : Hs w base p b H) : ∃ v, w.cell? ⟨p, 0, none⟩ = some v ∧ RowI w base v H ∧ v.ownBlock = b := by
  obtain ⟨v, hp, hr, hb, _⟩ := h
  exact ⟨v, by simp [World.cell?, hp], hr, hb⟩

set_option maxRecDepth 100000 in
set_option maxHeartbeats 8000000 in
theorem up_c {w : World} {base p : Nat} {b : Option Nat} {H : List Nat} {j : Nat} (h : Hs w base p b H) (hu : UpI H H.length j) (hj : j < H.length) (hl : H.length ≤ 1000000) :
    Calls Try.prog 59 #[.iface 96 (.pointer (some ⟨p, 0, none⟩)), .int .i64 j] w fun e w' => (∃ z, e = .returned z) ∧ ∃ H', Hs w' base p b H' ∧ H'.Perm H ∧ Hp H' H'.length ∧ But b w w' := by
  have HS := Lib.hid h
  have HU := Lib.hid hu
  clear h hu
  go_enter Try.func59, Try.ntmps59
  go_wp2_with fail
  go_loopw [1, 4] (fun i _ wr => ∃ (k : Nat) (H' : List Nat), i = .int .i64 k ∧ k < H.length ∧ Hid (H'.length = H.length) ∧ Hid (Hs wr base p b H') ∧ Hid (UpI H' H'.length k) ∧ Hid (H'.Perm H) ∧ Hid (But b w wr)) (fun i _ _ => (intOf i).toNat)
  case atStart => exact ⟨j, H, rfl, hj, Lib.hid rfl, HS, HU, Lib.hid (List.Perm.refl _), Lib.hid (But.refl _ _)⟩
  case round =>
    clear HS HU
    obtain ⟨k, H', rfl, hk, HLN, HS, HU, HP, HB⟩ := hrel
    obtain ⟨v, c0, hrow, hb⟩ := HS.out.cell
    have HROW := Lib.hid hrow
    obtain ⟨a, c, rfl⟩ := hrow.1
    by_cases hk0 : k = 0
    · subst hk0
      have q1 : Int.tdiv ((0 : Int) - 1) 2 = 0 := by decide
      have q2 : Int.tdiv (-1 : Int) 2 = 0 := by decide
      have HF := Lib.hid (HU.out.stop (.inl rfl))
      clear hrow
      go_wp2_with fail
      go_end0
      exact ⟨⟨_, rfl⟩, H', HS.out, HP.out, HF.out, HB.out⟩
    · have hpk : par k < k := by unfold par; omega
      have q1 : Int.tdiv ((k : Int) - 1) 2 = ((par k : Nat) : Int) := by rw [Int.tdiv_eq_ediv_of_nonneg (by omega)]; unfold par; omega
      have hw : IntKind.i64.wrap ((par k : Nat) : Int) = ((par k : Nat) : Int) := by unfold IntKind.wrap; simp [IntKind.signed, IntKind.bits]; omega
      have hHL := HLN.out
      have hls := less_c hrow (i := k) (j := par k) (by omega) (by omega)
      have HSW : Hid (∀ W, RowI W base (.slice a H'.length c) H' → Calls Try.prog 117 #[.slice a H'.length c, .int .i64 (par k : Nat), .int .i64 k] W fun e w' => (∃ z, e = .returned z) ∧ RowI w' base (.slice a H'.length c) (sw H' (par k) k) ∧ But (Value.slice a H'.length c).ownBlock W w') := Lib.hid fun W hW => swap_c hW (i := par k) (j := k) (by omega) (by omega)
      have hd0 : decide (((par k : Nat) : Int) = (k : Int)) = false := decide_eq_false (by omega)
      have hd1 : (((par k : Nat) : Int) == (k : Int)) = false := by rw [beq_eq_false_iff_ne]; omega
      have hstep : H'.getD k 0 < H'.getD (par k) 0 → UpI (sw H' (par k) k) (sw H' (par k) k).length (par k) := fun hlt => by
        rw [sw_len]
        exact HU.out.step rfl (by omega) (by omega) hlt
      have hstop : ¬ H'.getD k 0 < H'.getD (par k) 0 → Hp H' H'.length := fun hlt => HU.out.stop (.inr (by omega))
      have hperm : (sw H' (par k) k).Perm H' := sw_perm H' (by omega) (by omega)
      have HSTEP := Lib.hid hstep
      have HSTOP := Lib.hid hstop
      have HPERM := Lib.hid hperm
      have hki : par k < H.length := by omega
      clear hHL hrow hstep hstop hperm
      generalize par k = i at *
      have ml := meth_less c0
      by_cases hlt : H'.getD k 0 < H'.getD i 0
      · have HLT := Lib.hid (HSTEP.out hlt)
        rw [decide_eq_true hlt] at hls
        clear hlt
        go_wp2_with fail
        refine hls.mono ?_
        rintro e w1 ⟨rfl, q, hq⟩
        have hS1 : Hs w1 base p b H' := by rw [hq]; exact HS.out
        have hB1 : But b w w1 := by rw [hq]; exact HB.out.trans ⟨rfl, rfl, rfl, Nat.le_refl _, fun _ _ _ => rfl⟩
        obtain ⟨v1, hp1, hr1, hb1, hne⟩ := hS1
        have e1 : v1 = .slice a H'.length c := by
          have h1 : wr.heap[p]? = w1.heap[p]? := by rw [hq]; rfl
          obtain ⟨v2, h2, _⟩ := HS.out
          have h3 : wr.cell? ⟨p, 0, none⟩ = some v2 := by simp [World.cell?, h2]
          rw [c0] at h3
          rw [← h1, h2] at hp1
          cases h3
          cases hp1
          rfl
        subst e1
        have c1 : w1.cell? ⟨p, 0, none⟩ = some (.slice a H'.length c) := by simp [World.cell?, hp1]
        have ms := meth_swap c1
        have hsw := HSW.out w1 hr1
        have HP1 := Lib.hid hp1
        have HB1 := Lib.hid hB1
        have HBE := Lib.hid hb1
        have HNE := Lib.hid hne
        clear hls ml c0 hq hp1 hr1 hb1 hB1 hne
        go_wp2_with fail
        refine hsw.mono ?_
        rintro e w2 ⟨⟨z, rfl⟩, hr2, hbut⟩
        rw [HBE.out] at hbut
        have HS2 : Hid (Hs w2 base p b (sw H' i k)) := Lib.hid ⟨_, (hbut.block p (lt_some HP1.out) HNE.out).trans HP1.out, hr2, HBE.out, HNE.out⟩
        have HB2 := Lib.hid (HB1.out.trans hbut)
        have HLN2 : Hid ((sw H' i k).length = H.length) := Lib.hid (by rw [sw_len]; exact HLN.out)
        have HPM2 := Lib.hid (HPERM.out.trans HP.out)
        clear hsw hr2 hbut ms c1
        go_wp2_with fail
        go_roundw
        case rel => exact ⟨i, sw H' i k, rfl, hki, HLN2, HS2, HLT, HPM2, HB2⟩
        case measure => simp [intOf] <;> omega
      · have HLT := Lib.hid (HSTOP.out hlt)
        rw [decide_eq_false hlt] at hls
        clear hlt
        go_wp2_with fail
        refine hls.mono ?_
        rintro e w1 ⟨rfl, q, hq⟩
        have HF : Hid (Hs w1 base p b H' ∧ But b w w1) := Lib.hid (by rw [hq]; exact ⟨HS.out, HB.out.trans ⟨rfl, rfl, rfl, Nat.le_refl _, fun _ _ _ => rfl⟩⟩)
        clear hls hq
        go_wp2_with fail
        go_end0
        exact ⟨⟨_, rfl⟩, H', HF.out.1, HP.out, HLT.out, HF.out.2⟩
end Go.Proofs.Ytbflodefmookiaa.Gr
namespace Go.Proofs.Ytbflodefmookiaa.Gr
open Go.RowKit Go.Proofs.Ytbflodefmookiaa

theorem But.drewN {b : Option Nat} {w W : World} (h : But b w W) (q : Nat) : But b w (W.drewN q) := h.trans ⟨rfl, rfl, rfl, Nat.le_refl _, fun _ _ _ => rfl⟩

set_option maxRecDepth 100000 in
set_option maxHeartbeats 16000000 in
theorem down_c {w : World} {base p : Nat} {b : Option Nat} {H : List Nat} {i0 n : Nat} (h : Hs w base p b H) (hu : DnI H n i0) (hn : n ≤ H.length) (hi : i0 ≤ n) (hl : H.length ≤ 1000000) :
    Calls Try.prog 58 #[.iface 96 (.pointer (some ⟨p, 0, none⟩)), .int .i64 i0, .int .i64 n] w fun e w' => (∃ z, e = .returned z) ∧ ∃ H', Hs w' base p b H' ∧ H'.Perm H ∧ Hp H' n ∧ (∀ m, n ≤ m → H'.getD m 0 = H.getD m 0) ∧ But b w w' := by
  have HS := Lib.hid h
  have HU := Lib.hid hu
  clear h hu
  go_enter Try.func58, Try.ntmps58
  go_wp2_with fail
  go_loopw [7, 8, 9, 10] (fun i _ _ _ wr => ∃ (k : Nat) (H' : List Nat), i = .int .i64 k ∧ k ≤ n ∧ Hid (H'.length = H.length) ∧ Hid (Hs wr base p b H') ∧ Hid (DnI H' n k) ∧ Hid (H'.Perm H) ∧ Hid (∀ m, n ≤ m → H'.getD m 0 = H.getD m 0) ∧ Hid (But b w wr)) (fun i _ _ _ _ => n - (intOf i).toNat)
  case atStart => exact ⟨i0, H, rfl, hi, Lib.hid rfl, HS, HU, Lib.hid (List.Perm.refl _), Lib.hid (fun _ _ => rfl), Lib.hid (But.refl _ _)⟩
  case round =>
    clear HS HU
    obtain ⟨k, H', rfl, hk, HLN, HS, HU, HP, HFAR, HB⟩ := hrel
    have hHL := HLN.out
    obtain ⟨v, hp, hrow, hb, hne⟩ := HS.out
    obtain ⟨a, c, rfl⟩ := hrow.1
    have HBE := Lib.hid hb
    have HNE := Lib.hid hne
    have HPB := Lib.hid hp
    have HROW := Lib.hid hrow
    by_cases hend : n ≤ 2 * k + 1
    · have e3 : (n : Int) ≤ 2 * (k : Int) + 1 := by omega
      have e5 : decide ((n : Int) ≤ 2 * (k : Int) + 1) = true := decide_eq_true e3
      have HF := Lib.hid (HU.out.none hend)
      clear hp hrow hb hne hHL
      go_wp2_with fail
      go_ret
      exact ⟨⟨_, rfl⟩, H', HS.out, HP.out, HF.out, HFAR.out, HB.out⟩
    have e3 : ¬ (n : Int) ≤ 2 * (k : Int) + 1 := by omega
    have e5 : decide ((n : Int) ≤ 2 * (k : Int) + 1) = false := decide_eq_false e3
    have e4 : ¬ (2 : Int) * (k : Int) + 1 < 0 := by omega
    have e6 : decide ((2 : Int) * (k : Int) + 1 < 0) = false := decide_eq_false e4
    have hk1 : k < H'.length := by omega
    have hj1 : 2 * k + 1 < H'.length := by omega
    have hj1n : 2 * k + 1 < n := by omega
    have x1 : (((2 * k + 1 : Nat)) : Int) = 2 * (k : Int) + 1 := by omega
    have x2 : (((2 * k + 2 : Nat)) : Int) = 2 * (k : Int) + 1 + 1 := by omega
    have X1 := Lib.hid x1
    have X2 := Lib.hid x2
    clear x1 x2
    have HSWP : Hid (∀ (j : Nat) W, j < H'.length → RowI W base (.slice a H'.length c) H' → Calls Try.prog 117 #[.slice a H'.length c, .int .i64 k, .int .i64 j] W fun e w' => (∃ z, e = .returned z) ∧ RowI w' base (.slice a H'.length c) (sw H' k j) ∧ But (Value.slice a H'.length c).ownBlock W w') := Lib.hid fun j W hj hW => swap_c hW (i := k) (j := j) hk1 hj
    have HLES : Hid (∀ (i j : Nat) W, i < H'.length → j < H'.length → RowI W base (.slice a H'.length c) H' → Calls Try.prog 115 #[.slice a H'.length c, .int .i64 i, .int .i64 j] W fun e w' => e = .returned (.bool (decide (H'.getD i 0 < H'.getD j 0))) ∧ ∃ q, w' = W.drewN q) := Lib.hid fun i j W hi hj hW => less_c hW hi hj
    have hlen0 := hHL
    have c0 : wr.cell? ⟨p, 0, none⟩ = some (.slice a H'.length c) := by simp [World.cell?, hp]
    have hSWL : ∀ j, (sw H' k j).length = H.length := fun j => by rw [sw_len]; exact hHL
    have HSWL := Lib.hid hSWL
    have hnH : n ≤ H'.length := by omega
    have HNH := Lib.hid hnH
    clear hp hrow hb hne hSWL hHL hlen0
    by_cases hj2 : 2 * k + 2 < n
    · have f1 : 2 * (k : Int) + 1 + 1 < (n : Int) := by omega
      have f2 : decide (2 * (k : Int) + 1 + 1 < (n : Int)) = true := decide_eq_true f1
      have hj2l : 2 * k + 2 < H'.length := by omega
      have hl2 := HLES.out (2 * k + 2) (2 * k + 1) wr hj2l hj1 HROW.out
      rw [X1.out, X2.out] at hl2
      have ml := meth_less c0
      by_cases hcmp : H'.getD (2 * k + 2) 0 < H'.getD (2 * k + 1) 0
      · have HLESS : Hid (Less H' n k (2 * k + 2)) := Lib.hid ⟨.inr rfl, hj2, fun _ => by omega, fun _ => Nat.le_refl _⟩
        rw [decide_eq_true hcmp] at hl2
        clear hcmp
        go_wp2_with fail
        refine hl2.mono ?_
        rintro e w1 ⟨rfl, q, hq⟩
        have HPw1 : Hid (w1.heap[p]? = some (.cells #[.slice a H'.length c] 93 (0, 0))) := Lib.hid (by rw [hq]; exact HPB.out)
        have HRw1 : Hid (RowI w1 base (.slice a H'.length c) H') := Lib.hid (by rw [hq]; exact HROW.out)
        have HBw1 : Hid (But b w w1) := Lib.hid (by rw [hq]; exact HB.out.drewN q)
        clear hl2 hq c0
        have c0 : w1.cell? ⟨p, 0, none⟩ = some (.slice a H'.length c) := by simp [World.cell?, HPw1.out]
        clear ml
        have hls := HLES.out (2 * k + 2) k w1 (by omega) hk1 HRw1.out
        rw [X2.out] at hls
        by_cases hlt : H'.getD (2 * k + 2) 0 < H'.getD k 0
        · have hst := HU.out.step HNH.out HLESS.out hlt
          have HST := Lib.hid hst
          rw [decide_eq_true hlt] at hls
          have ml2 := meth_less c0
          clear hlt hst
          go_wp2_with fail
          refine hls.mono ?_
          rintro e u1 ⟨rfl, q, hq⟩
          have HPu1 : Hid (u1.heap[p]? = some (.cells #[.slice a H'.length c] 93 (0, 0))) := Lib.hid (by rw [hq]; exact HPw1.out)
          have HRu1 : Hid (RowI u1 base (.slice a H'.length c) H') := Lib.hid (by rw [hq]; exact HRw1.out)
          have HBu1 : Hid (But b w u1) := Lib.hid (by rw [hq]; exact HBw1.out.drewN q)
          clear hls hq c0
          have c0 : u1.cell? ⟨p, 0, none⟩ = some (.slice a H'.length c) := by simp [World.cell?, HPu1.out]
          have ms := meth_swap c0
          have hsw := HSWP.out (2 * k + 2) u1 (by omega) HRu1.out
          rw [X2.out] at hsw
          clear ml2
          go_wp2_with fail
          refine hsw.mono ?_
          rintro e u2 ⟨⟨z, rfl⟩, hr2, hbut⟩
          rw [HBE.out] at hbut
          have HS2 : Hid (Hs u2 base p b (sw H' k (2 * k + 2))) := Lib.hid ⟨_, (hbut.block p (lt_some HPu1.out) HNE.out).trans HPu1.out, hr2, HBE.out, HNE.out⟩
          have HB2 := Lib.hid (HBu1.out.trans hbut)
          have HPM2 := Lib.hid ((sw_perm H' (i := k) (j := 2 * k + 2) hk1 (by omega)).trans HP.out)
          have HFAR2 : Hid (∀ m, n ≤ m → (sw H' k (2 * k + 2)).getD m 0 = H.getD m 0) := Lib.hid fun m hm => (sw_far (by omega) (by omega) HNH.out hm).trans (HFAR.out m hm)
          have HSL := Lib.hid (HSWL.out (2 * k + 2))
          clear hsw hr2 hbut ms c0
          go_wp2_with fail
          go_roundw
          case rel => exact ⟨2 * k + 2, sw H' k (2 * k + 2), by rw [X2.out], by omega, HSL, HS2, HST, HPM2, HFAR2, HB2⟩
          case measure => simp [intOf] <;> omega
        · have hst := HU.out.stop HLESS.out (by omega)
          have HST := Lib.hid hst
          rw [decide_eq_false hlt] at hls
          have ml2 := meth_less c0
          clear hlt hst
          go_wp2_with fail
          refine hls.mono ?_
          rintro e u1 ⟨rfl, q, hq⟩
          have HPu1 : Hid (u1.heap[p]? = some (.cells #[.slice a H'.length c] 93 (0, 0))) := Lib.hid (by rw [hq]; exact HPw1.out)
          have HRu1 : Hid (RowI u1 base (.slice a H'.length c) H') := Lib.hid (by rw [hq]; exact HRw1.out)
          have HBu1 : Hid (But b w u1) := Lib.hid (by rw [hq]; exact HBw1.out.drewN q)
          clear hls hq c0
          have c0 : u1.cell? ⟨p, 0, none⟩ = some (.slice a H'.length c) := by simp [World.cell?, HPu1.out]
          clear ml2
          go_wp2_with fail
          go_ret
          exact ⟨⟨_, rfl⟩, H', ⟨_, HPu1.out, HRu1.out, HBE.out, HNE.out⟩, HP.out, HST.out, HFAR.out, HBu1.out⟩
      · have HLESS : Hid (Less H' n k (2 * k + 1)) := Lib.hid ⟨.inl rfl, by omega, fun _ => Nat.le_refl _, fun _ => by omega⟩
        rw [decide_eq_false hcmp] at hl2
        clear hcmp
        go_wp2_with fail
        refine hl2.mono ?_
        rintro e w1 ⟨rfl, q, hq⟩
        have HPw1 : Hid (w1.heap[p]? = some (.cells #[.slice a H'.length c] 93 (0, 0))) := Lib.hid (by rw [hq]; exact HPB.out)
        have HRw1 : Hid (RowI w1 base (.slice a H'.length c) H') := Lib.hid (by rw [hq]; exact HROW.out)
        have HBw1 : Hid (But b w w1) := Lib.hid (by rw [hq]; exact HB.out.drewN q)
        clear hl2 hq c0
        have c0 : w1.cell? ⟨p, 0, none⟩ = some (.slice a H'.length c) := by simp [World.cell?, HPw1.out]
        clear ml
        have hls := HLES.out (2 * k + 1) k w1 (by omega) hk1 HRw1.out
        rw [X1.out] at hls
        by_cases hlt : H'.getD (2 * k + 1) 0 < H'.getD k 0
        · have hst := HU.out.step HNH.out HLESS.out hlt
          have HST := Lib.hid hst
          rw [decide_eq_true hlt] at hls
          have ml2 := meth_less c0
          clear hlt hst
          go_wp2_with fail
          refine hls.mono ?_
          rintro e u1 ⟨rfl, q, hq⟩
          have HPu1 : Hid (u1.heap[p]? = some (.cells #[.slice a H'.length c] 93 (0, 0))) := Lib.hid (by rw [hq]; exact HPw1.out)
          have HRu1 : Hid (RowI u1 base (.slice a H'.length c) H') := Lib.hid (by rw [hq]; exact HRw1.out)
          have HBu1 : Hid (But b w u1) := Lib.hid (by rw [hq]; exact HBw1.out.drewN q)
          clear hls hq c0
          have c0 : u1.cell? ⟨p, 0, none⟩ = some (.slice a H'.length c) := by simp [World.cell?, HPu1.out]
          have ms := meth_swap c0
          have hsw := HSWP.out (2 * k + 1) u1 (by omega) HRu1.out
          rw [X1.out] at hsw
          clear ml2
          go_wp2_with fail
          refine hsw.mono ?_
          rintro e u2 ⟨⟨z, rfl⟩, hr2, hbut⟩
          rw [HBE.out] at hbut
          have HS2 : Hid (Hs u2 base p b (sw H' k (2 * k + 1))) := Lib.hid ⟨_, (hbut.block p (lt_some HPu1.out) HNE.out).trans HPu1.out, hr2, HBE.out, HNE.out⟩
          have HB2 := Lib.hid (HBu1.out.trans hbut)
          have HPM2 := Lib.hid ((sw_perm H' (i := k) (j := 2 * k + 1) hk1 (by omega)).trans HP.out)
          have HFAR2 : Hid (∀ m, n ≤ m → (sw H' k (2 * k + 1)).getD m 0 = H.getD m 0) := Lib.hid fun m hm => (sw_far (by omega) (by omega) HNH.out hm).trans (HFAR.out m hm)
          have HSL := Lib.hid (HSWL.out (2 * k + 1))
          clear hsw hr2 hbut ms c0
          go_wp2_with fail
          go_roundw
          case rel => exact ⟨2 * k + 1, sw H' k (2 * k + 1), by rw [X1.out], by omega, HSL, HS2, HST, HPM2, HFAR2, HB2⟩
          case measure => simp [intOf] <;> omega
        · have hst := HU.out.stop HLESS.out (by omega)
          have HST := Lib.hid hst
          rw [decide_eq_false hlt] at hls
          have ml2 := meth_less c0
          clear hlt hst
          go_wp2_with fail
          refine hls.mono ?_
          rintro e u1 ⟨rfl, q, hq⟩
          have HPu1 : Hid (u1.heap[p]? = some (.cells #[.slice a H'.length c] 93 (0, 0))) := Lib.hid (by rw [hq]; exact HPw1.out)
          have HRu1 : Hid (RowI u1 base (.slice a H'.length c) H') := Lib.hid (by rw [hq]; exact HRw1.out)
          have HBu1 : Hid (But b w u1) := Lib.hid (by rw [hq]; exact HBw1.out.drewN q)
          clear hls hq c0
          have c0 : u1.cell? ⟨p, 0, none⟩ = some (.slice a H'.length c) := by simp [World.cell?, HPu1.out]
          clear ml2
          go_wp2_with fail
          go_ret
          exact ⟨⟨_, rfl⟩, H', ⟨_, HPu1.out, HRu1.out, HBE.out, HNE.out⟩, HP.out, HST.out, HFAR.out, HBu1.out⟩
    · have f1 : ¬ 2 * (k : Int) + 1 + 1 < (n : Int) := by omega
      have f2 : decide (2 * (k : Int) + 1 + 1 < (n : Int)) = false := decide_eq_false f1
      have HLESS : Hid (Less H' n k (2 * k + 1)) := Lib.hid ⟨.inl rfl, by omega, fun _ => Nat.le_refl _, fun h => absurd h hj2⟩
      have hls := HLES.out (2 * k + 1) k wr (by omega) hk1 HROW.out
      rw [X1.out] at hls
      by_cases hlt : H'.getD (2 * k + 1) 0 < H'.getD k 0
      · have hst := HU.out.step HNH.out HLESS.out hlt
        have HST := Lib.hid hst
        rw [decide_eq_true hlt] at hls
        have ml2 := meth_less c0
        clear hlt hst
        go_wp2_with fail
        refine hls.mono ?_
        rintro e u1 ⟨rfl, q, hq⟩
        have HPu1 : Hid (u1.heap[p]? = some (.cells #[.slice a H'.length c] 93 (0, 0))) := Lib.hid (by rw [hq]; exact HPB.out)
        have HRu1 : Hid (RowI u1 base (.slice a H'.length c) H') := Lib.hid (by rw [hq]; exact HROW.out)
        have HBu1 : Hid (But b w u1) := Lib.hid (by rw [hq]; exact HB.out.drewN q)
        clear hls hq c0
        have c0 : u1.cell? ⟨p, 0, none⟩ = some (.slice a H'.length c) := by simp [World.cell?, HPu1.out]
        have ms := meth_swap c0
        have hsw := HSWP.out (2 * k + 1) u1 (by omega) HRu1.out
        rw [X1.out] at hsw
        clear ml2
        go_wp2_with fail
        refine hsw.mono ?_
        rintro e u2 ⟨⟨z, rfl⟩, hr2, hbut⟩
        rw [HBE.out] at hbut
        have HS2 : Hid (Hs u2 base p b (sw H' k (2 * k + 1))) := Lib.hid ⟨_, (hbut.block p (lt_some HPu1.out) HNE.out).trans HPu1.out, hr2, HBE.out, HNE.out⟩
        have HB2 := Lib.hid (HBu1.out.trans hbut)
        have HPM2 := Lib.hid ((sw_perm H' (i := k) (j := 2 * k + 1) hk1 (by omega)).trans HP.out)
        have HFAR2 : Hid (∀ m, n ≤ m → (sw H' k (2 * k + 1)).getD m 0 = H.getD m 0) := Lib.hid fun m hm => (sw_far (by omega) (by omega) HNH.out hm).trans (HFAR.out m hm)
        have HSL := Lib.hid (HSWL.out (2 * k + 1))
        clear hsw hr2 hbut ms c0
        go_wp2_with fail
        go_roundw
        case rel => exact ⟨2 * k + 1, sw H' k (2 * k + 1), by rw [X1.out], by omega, HSL, HS2, HST, HPM2, HFAR2, HB2⟩
        case measure => simp [intOf] <;> omega
      · have hst := HU.out.stop HLESS.out (by omega)
        have HST := Lib.hid hst
        rw [decide_eq_false hlt] at hls
        have ml2 := meth_less c0
        clear hlt hst
        go_wp2_with fail
        refine hls.mono ?_
        rintro e u1 ⟨rfl, q, hq⟩
        have HPu1 : Hid (u1.heap[p]? = some (.cells #[.slice a H'.length c] 93 (0, 0))) := Lib.hid (by rw [hq]; exact HPB.out)
        have HRu1 : Hid (RowI u1 base (.slice a H'.length c) H') := Lib.hid (by rw [hq]; exact HROW.out)
        have HBu1 : Hid (But b w u1) := Lib.hid (by rw [hq]; exact HB.out.drewN q)
        clear hls hq c0
        have c0 : u1.cell? ⟨p, 0, none⟩ = some (.slice a H'.length c) := by simp [World.cell?, HPu1.out]
        clear ml2
        go_wp2_with fail
        go_ret
        exact ⟨⟨_, rfl⟩, H', ⟨_, HPu1.out, HRu1.out, HBE.out, HNE.out⟩, HP.out, HST.out, HFAR.out, HBu1.out⟩
end Go.Proofs.Ytbflodefmookiaa.Gr
namespace Go.Proofs.Ytbflodefmookiaa.Gr
open Go.RowKit Go.Proofs.Ytbflodefmookiaa

theorem step_run2 {ops : Array Oper} {o : Oper} {a : Act} {w w' : World} {K : Act → World → Prop} {Q : Exit → Act → World → Prop} {E : Prop} (hgd : o.guard = none) (s x : Operand) {t u : TypeId}
    (ho : o.op = .call { callee := .builtin .append, args := #[s, x], argTypes := #[t, u] }) {v src v' : Value} (hs : a.eval s = v) (hx : a.eval x = src)
    (hr : (Builtin.append_ #[t, u] o.type #[v, src]).run Try.prog w = .ok v' w') (h : K (a.put o.dst v') w') :
    if Region.wanted o (yielded ops a.tmps) = true then Oper.wp Try.prog o a w K Q else E := by
  rw [if_pos (by simp [Region.wanted, hgd])]
  unfold Oper.wp execOp
  simp only [ho, resolve, invoke, builtin, Sem.run_bind, Sem.run_pure, Result.andThen_ok, List.map_toArray, List.map_cons, List.map_nil, hs, hx, hr]
  exact h
theorem set_block {w : World} {p j : Nat} {C : Array Value} {u : Value} {t : TypeId} (h : w.heap[p]? = some (.cells C t (0, 0))) :
    (w.setCell ⟨p, j, none⟩ u).heap[p]? = some (.cells (C.setIfInBounds j u) t (0, 0)) := by
  have hlt := lt_some h
  have h' : w.heap[p] = .cells C t (0, 0) := by simpa [Array.getElem?_eq_getElem hlt] using h
  show (w.heap.modify p _)[p]? = _
  rw [Array.getElem?_eq_getElem (by simpa using hlt), Array.getElem_modify_self, h']
  rfl
theorem set_other {w : World} {p q : Nat} {j : Nat} {v : Value} (h : q ≠ p) : (w.setCell ⟨p, j, none⟩ v).heap[q]? = w.heap[q]? := Below.heap_setCell _ _ _ _ h
theorem owns_kept {w w' : World} {base : Nat} {e : TypeId} {sz : Nat} {v : Value} {n : Nat} {xs : List Value} (h : w.ownsRow base e sz v n xs) (hk : ∀ g, v.ownBlock = some g → w'.heap[g]? = w.heap[g]?) : w'.ownsRow base e sz v n xs := by
  refine ⟨h.1, ?_⟩
  rcases h.2 with h | ⟨g, cap, cur, rfl, hb, hc, hr⟩
  · exact .inl h
  · exact .inr ⟨g, cap, cur, rfl, hb, (hk g rfl).trans hc, hr⟩
theorem owns_block {w : World} {base : Nat} {e : TypeId} {sz : Nat} {v : Value} {n : Nat} {xs : List Value} (h : w.ownsRow base e sz v n xs) {g : Nat} (hg : v.ownBlock = some g) : base ≤ g ∧ ∃ cur, w.heap[g]? = some (.cells cur e (0, 0)) := by
  rcases h.2 with ⟨rfl, _⟩ | ⟨g', cap, cur, rfl, hb, hc, _⟩
  · cases hg
  · cases hg
    exact ⟨hb, cur, hc⟩

theorem RowI.short {w : World} {base : Nat} {a : Option Addr} {c n : Nat} {H : List Nat} (h : RowI w base (.slice a H.length c) H) (hn : n ≤ H.length) (h0 : 0 < H.length) : RowI w base (.slice a n c) (H.take n) := by
  have hl : (H.take n).length = n := by rw [List.length_take]; omega
  refine ⟨⟨a, c, by rw [hl]⟩, ?_⟩
  rw [hl]
  refine ⟨by rw [intV_len, hl, Nat.mul_one], ?_⟩
  rcases h.2.2 with ⟨_, e⟩ | ⟨g, cap, cur, e, hb, hc, h1, h2, h3, h4⟩
  · omega
  · cases e
    refine .inr ⟨g, c, cur, rfl, hb, hc, by omega, h2, h3, ?_⟩
    have h5 : intV (H.take n) = (intV H).take n := by simp [intV]
    rw [h5, ← h4, List.take_take]
    congr 1
    omega

/-- what stands but for the box and the row; where the row lies then -/
structure Chg (p : Nat) (b b' : Option Nat) (w w' : World) : Prop where
  os : w'.os = w.os
  tape : w'.tape = w.tape
  output : w'.output = w.output
  size : w.heap.size ≤ w'.heap.size
  block : ∀ k, k < w.heap.size → k ≠ p → b ≠ some k → w'.heap[k]? = w.heap[k]?
  row : b' = b ∨ ∃ k, b' = some k ∧ w.heap.size ≤ k

set_option maxRecDepth 100000 in
set_option maxHeartbeats 8000000 in
theorem mpop_c {w : World} {base p : Nat} {b : Option Nat} {H : List Nat} (h : Hs w base p b H) (h0 : 0 < H.length) (hl : H.length ≤ 1000000) :
    Calls Try.prog 118 #[.pointer (some ⟨p, 0, none⟩)] w fun e w' => e = .returned (.iface 3 (.int .i64 (H.getD (H.length - 1) 0 : Nat))) ∧ Hs w' base p b (H.take (H.length - 1)) ∧ Chg p b b w w' := by
  obtain ⟨v, hp, hrow, hb, hne⟩ := h
  obtain ⟨a, c, rfl⟩ := hrow.1
  obtain ⟨g, cc, e, hbg, hgl⟩ := hrow.addr h0
  cases e
  have c0 : w.cell? ⟨p, 0, none⟩ = some (.slice (some ⟨g, 0, none⟩) H.length c) := by simp [World.cell?, hp]
  have f0 : w.frozen? ⟨p, 0, none⟩ = false := by simp [World.frozen?, hp]
  have cl : w.cell? ⟨g, H.length - 1, none⟩ = some (.int .i64 (H.getD (H.length - 1) 0 : Nat)) := (hrow.2.cellAt (H.length - 1) (by omega)).trans (intV_at (by omega))
  have hcap : H.length ≤ c := by
    rcases hrow.2.2 with ⟨_, e⟩ | ⟨g', cap, cur, e, _, _, h1, _⟩
    · omega
    · cases e; exact h1
  have hfin : Hs (w.setCell ⟨p, 0, none⟩ (.slice (some ⟨g, 0, none⟩) (H.length - 1) c)) base p b (H.take (H.length - 1)) := by
    refine ⟨.slice (some ⟨g, 0, none⟩) (H.length - 1) c, by simpa using set_block (j := 0) hp, ⟨(hrow.short (by omega) h0).1, owns_kept (hrow.short (by omega) h0).2 fun k hk => set_other fun e => ?_⟩, hb, hne⟩
    subst e
    exact hne (by rw [← hb]; exact hk)
  have hchg : Chg p b b w (w.setCell ⟨p, 0, none⟩ (.slice (some ⟨g, 0, none⟩) (H.length - 1) c)) := ⟨rfl, rfl, rfl, by simp [World.setCell], fun k _ hk _ => set_other hk, .inl rfl⟩
  generalize H.getD (H.length - 1) 0 = x at *
  obtain ⟨n, hn⟩ : ∃ n, H.length = n + 1 := ⟨H.length - 1, by omega⟩
  have HF := Lib.hid hfin
  have HC := Lib.hid hchg
  have hn1 : H.length - 1 = n := by omega
  rw [hn1] at cl HF HC
  rw [hn] at c0 hcap
  clear hfin hchg hrow hb hne hp
  have i0 : ((n : Int) + 1) - 1 = (n : Int) := by omega
  have i1 : (0 : Int) ≤ (n : Int) := by omega
  have i2 : (n : Int) < (n : Int) + 1 := by omega
  have i3 : (n : Int) ≤ (c : Int) := by omega
  have hln := fun W => len_c (w := W) (a := some ⟨g, 0, none⟩) (n := n + 1) (c := c)
  rw [hn1]
  have hn9 : n ≤ 1000000 := by omega
  clear hn hn1 hl h0 hcap
  go_enter Try.func118, Try.ntmps118
  go_wp2_with fail
  refine (hln _).mono ?_
  rintro e w1 ⟨rfl, rfl⟩
  go_wp2_with fail
  go_ret
  exact ⟨rfl, HF.out, HC.out⟩
theorem take_getD {l : List Nat} {n k : Nat} (hk : k < n) : (l.take n).getD k 0 = l.getD k 0 := by
  simp only [List.getD_eq_getElem?_getD, List.getElem?_take]
  rw [if_pos hk]
theorem Hp.take {l : List Nat} {n : Nat} (h : Hp l n) (hn : n ≤ l.length) : Hp (l.take n) (l.take n).length := by
  have hl : (l.take n).length = n := by rw [List.length_take]; omega
  rw [hl]
  intro k h0 hk
  have hp : par k < k := by unfold par; omega
  rw [take_getD hk, take_getD (by omega)]
  exact h k h0 hk
theorem perm_last {l : List Nat} {n : Nat} (hl : l.length = n + 1) : l.Perm (l.getD n 0 :: l.take n) := by
  have h1 : l = l.take n ++ [l.getD n 0] := by
    have h2 : l.getD n 0 = l[n] := by simp [hl]
    rw [h2]
    have := List.take_append_drop n l
    rw [List.drop_eq_getElem_cons (by omega), List.drop_eq_nil_of_le (by omega)] at this
    exact this.symm
  exact (List.Perm.of_eq h1).trans (List.perm_append_comm)

set_option maxRecDepth 100000 in
set_option maxHeartbeats 8000000 in
theorem hpop_c {w : World} {base p : Nat} {b : Option Nat} {H : List Nat} (h : Hs w base p b H) (hh : Hp H H.length) (h0 : 0 < H.length) (hl : H.length ≤ 1000000) :
    Calls Try.prog 48 #[.iface 96 (.pointer (some ⟨p, 0, none⟩))] w fun e w' => e = .returned (.iface 3 (.int .i64 (H.getD 0 0 : Nat))) ∧ ∃ H', Hs w' base p b H' ∧ Hp H' H'.length ∧ H.Perm (H.getD 0 0 :: H') ∧ Chg p b b w w' := by
  obtain ⟨n, hn⟩ : ∃ n, H.length = n + 1 := ⟨H.length - 1, by omega⟩
  have hD := DnI.start hh hn
  obtain ⟨v, hp, hrow, hb, hne⟩ := id h
  obtain ⟨a, c, rfl⟩ := hrow.1
  have c0 : w.cell? ⟨p, 0, none⟩ = some (.slice a H.length c) := by simp [World.cell?, hp]
  have hsw := swap_c hrow (i := 0) (j := n) (by omega) (by omega)
  have hsl : (sw H 0 n).length = H.length := sw_len ..
  have ml := meth_len c0
  have ms := meth_swap c0
  have hln := len_c (w := w) (a := a) (n := H.length) (c := c)
  have HD := Lib.hid hD
  have HPM : Hid ((sw H 0 n).Perm H) := Lib.hid (sw_perm H (by omega) (by omega))
  have HPB := Lib.hid hp
  have HBE := Lib.hid hb
  have HNE := Lib.hid hne
  have HX : Hid (H.getD 0 0 = H.getD 0 0) := Lib.hid rfl
  obtain ⟨m, hm⟩ : ∃ m, H.getD 0 0 = m := ⟨_, rfl⟩
  have HM := Lib.hid hm
  rw [hm]
  obtain ⟨S, hS⟩ : ∃ S, sw H 0 n = S := ⟨_, rfl⟩
  rw [hS] at hsw hsl HD HPM
  have HSL := Lib.hid hsl
  have HN := Lib.hid hn
  have hsw' : Calls Try.prog 117 #[.slice a H.length c, .int .i64 0, .int .i64 n] w fun e w' => (∃ z, e = .returned z) ∧ RowI w' base (.slice a H.length c) S ∧ But (Value.slice a H.length c).ownBlock w w' := hsw
  have i0 : (H.length : Int) - 1 = (n : Int) := by omega
  clear hD hrow hb hne h hh hm hS hsl hn hp hsw
  go_enter Try.func48, Try.ntmps48
  go_wp2_with fail
  refine hln.mono ?_
  rintro e w1 ⟨rfl, rfl⟩
  go_wp2_with fail
  refine hsw'.mono ?_
  rintro e w1 ⟨⟨z, rfl⟩, hr1, hb1⟩
  rw [HBE.out] at hb1
  have hS1 : Hs w1 base p b S := ⟨_, (hb1.block p (lt_some HPB.out) HNE.out).trans HPB.out, hr1, HBE.out, HNE.out⟩
  have hdn := down_c hS1 HD.out.1 (by have := HSL.out; have := HN.out; omega) (Nat.zero_le _) (by have := HSL.out; omega)
  have hdn' : Calls Try.prog 58 #[.iface 96 (.pointer (some ⟨p, 0, none⟩)), .int .i64 0, .int .i64 n] w1 fun e w' => (∃ z, e = .returned z) ∧ ∃ H', Hs w' base p b H' ∧ H'.Perm S ∧ Hp H' n ∧ (∀ m, n ≤ m → H'.getD m 0 = S.getD m 0) ∧ But b w1 w' := hdn
  have HB1 := Lib.hid hb1
  clear hr1 hb1 hS1 hdn hsw' hln ml ms c0
  go_wp2_with fail
  refine hdn'.mono ?_
  rintro e w2 ⟨⟨z, rfl⟩, H2, hS2, hpm2, hp2, hfar, hb2⟩
  have hl2 : H2.length = n + 1 := by rw [hpm2.length_eq, HSL.out, HN.out]
  have hpop := mpop_c hS2 (by omega) (by omega)
  have e2 : H2.getD (H2.length - 1) 0 = m := by
    rw [hl2, Nat.add_sub_cancel, hfar n (Nat.le_refl _), HD.out.2, HM.out]
  rw [e2, hl2, Nat.add_sub_cancel] at hpop
  have HB2 := Lib.hid (HB1.out.trans hb2)
  have HP2 := Lib.hid (hp2.take (by omega))
  have HPM2 : Hid (H.Perm (m :: H2.take n)) := Lib.hid ((HPM.out.symm.trans hpm2.symm).trans (by
    have := perm_last hl2
    rw [← hfar n (Nat.le_refl _)] at HD
    have e3 : H2.getD n 0 = m := by rw [hl2, Nat.add_sub_cancel] at e2; exact e2
    rw [e3] at this
    exact this))
  have mp := meth_pop w2 p
  clear hS2 hpm2 hp2 hfar hb2 hl2 e2 hdn'
  go_wp2_with fail
  refine hpop.mono ?_
  rintro e w3 ⟨rfl, hS3, hc3⟩
  have HF : Hid (Hs w3 base p b (H2.take n) ∧ Chg p b b w w3) := Lib.hid ⟨hS3, hc3.os.trans HB2.out.os, hc3.tape.trans HB2.out.tape, hc3.output.trans HB2.out.output, Nat.le_trans HB2.out.size hc3.size, fun k hk h1 h2 => (hc3.block k (Nat.lt_of_lt_of_le hk HB2.out.size) h1 h2).trans (HB2.out.block k hk h2), .inl rfl⟩
  clear hpop hS3 hc3 mp
  go_wp2_with fail
  go_ret
  exact ⟨rfl, H2.take n, HF.out.1, HP2.out, HPM2.out, HF.out.2⟩

theorem infoInt : (Try.prog.info? 3).map (fun i => (i.zero, i.size, i.bytes)) = some (some (.int .i64 0), 1, 8) := by kernel_rfl
theorem intV_snoc (H : List Nat) (x : Nat) : intV (H ++ [x]) = intV H ++ [Value.int .i64 (x : Int)] := by simp [intV]
/-- a number laid behind numbers of the call's own -/
theorem run_pushI {t : TypeId} (ht : Try.prog.underlying t = some (.slice 3)) {w : World} {base : Nat} {v : Value} {H : List Nat} {x q : Nat} (h : RowI w base v H) (hbw : base ≤ w.heap.size) (hl : H.length ≤ 1000000) (hq : w.heap[q]? = some (.cells #[.int .i64 (x : Int)] 3 (0, 0))) :
    ∃ a' c' w', (Builtin.append_ #[t, t] t #[v, .slice (some ⟨q, 0, none⟩) 1 1]).run Try.prog w = .ok (.slice a' (H ++ [x]).length c') w' ∧ RowI w' base (.slice a' (H ++ [x]).length c') (H ++ [x]) ∧ w.grownBy w' v.ownBlock ∧
      ((Value.slice a' (H ++ [x]).length c').ownBlock = v.ownBlock ∨ (Value.slice a' (H ++ [x]).length c').ownBlock = some w.heap.size) := by
  obtain ⟨i0, hi, hz0, hz1, hz2⟩ := info_parts infoInt
  obtain ⟨v', w', hrun, hown, hg, _, ho⟩ := run_append_own_at (P := Try.prog) w base t t 3 i0 (.int .i64 0) 1 8 ht hi hz0 hz1 hz2 rfl (by decide) _ _ (intV H) h.2 ⟨q, 0, none⟩ 1 1 [.int .i64 (x : Int)] rfl (fun j u hj => by
      rw [Go.WideShapes.add_plain]
      match j, hj with
      | 0, hj => cases hj; simp [World.cell?, hq]) (fun u hu => by simp at hu; subst hu; rfl) (by unfold maxLen; omega) (by omega) hbw
  have e1 : (H ++ [x]).length = H.length + 1 := by simp
  rw [← intV_snoc, ← e1] at hown
  obtain ⟨a', c', rfl⟩ : ∃ a' c', v' = .slice a' (H ++ [x]).length c' := by
    rcases hown.2 with ⟨e, h0⟩ | ⟨g, cap, cur, e, _⟩
    · simp at h0
    · exact ⟨_, _, e⟩
  exact ⟨a', c', w', hrun, ⟨⟨a', c', rfl⟩, hown⟩, hg, ho⟩

theorem assertInt (W : World) (x : Nat) : (Instr.typeAssert (.iface 3 (.int .i64 (x : Int))) 20 3 false).run Try.prog W = .ok (.int .i64 (x : Int)) W := by kernel_rfl

set_option maxRecDepth 100000 in
set_option maxHeartbeats 8000000 in
theorem mpush_c {w : World} {base p : Nat} {b : Option Nat} {H : List Nat} {x : Nat} (h : Hs w base p b H) (hbw : base ≤ w.heap.size) (hl : H.length ≤ 900000) :
    Calls Try.prog 119 #[.pointer (some ⟨p, 0, none⟩), .iface 3 (.int .i64 x)] w fun e w' => (∃ z, e = .returned z) ∧ ∃ b', Hs w' base p b' (H ++ [x]) ∧ Chg p b b' w w' := by
  obtain ⟨v, hp, hrow, hb, hne⟩ := h
  obtain ⟨a, c, rfl⟩ := hrow.1
  have hA : Below w.drew.heap.size w.drew (w.drew.alloc (.cells #[.int .i64 (x : Int)] 3)) := (Below.refl _ _).alloc (Nat.le_refl _) _
  have hpl := lt_some hp
  have hrA : RowI (w.drew.alloc (.cells #[.int .i64 (x : Int)] 3)) base (.slice a H.length c) H := ⟨⟨a, c, rfl⟩, owns_kept (w := w.drew) hrow.2 fun g hg => hA.block g (by
    obtain ⟨_, cur, hc⟩ := owns_block hrow.2 hg
    exact lt_some hc)⟩
  have hpA : (w.drew.alloc (.cells #[.int .i64 (x : Int)] 3)).heap[p]? = some (.cells #[.slice a H.length c] 93 (0, 0)) := (hA.block p hpl).trans hp
  obtain ⟨a', c', W, hrun, hr2, hg, ho⟩ := run_pushI Try.underlying91 hrA (Nat.le_trans hbw hA.size) (by omega) (heap_alloc_new w.drew (.cells #[.int .i64 (x : Int)] 3))
  have hpW : W.heap[p]? = some (.cells #[.slice a H.length c] 93 (0, 0)) := by
    rw [hg.block p (lt_some hpA) (fun e => hne (by rw [← hb]; exact e.symm))]
    exact hpA
  have S00 : w.cell? ⟨p, 0, none⟩ = some (.slice a H.length c) := by simp [World.cell?, hp]
  have S0 : w.drew.cell? ⟨p, 0, none⟩ = some (.slice a H.length c) := S00
  have hta := fun W => assertInt W x
  have S1 : (w.drew.alloc (.cells #[.int .i64 (x : Int)] 3)).cell? ⟨p, 0, none⟩ = some (.slice a H.length c) := by simp [World.cell?, hpA]
  have S2 : W.cell? ⟨p, 0, none⟩ = some (.slice a H.length c) := by simp [World.cell?, hpW]
  have f2 : W.frozen? ⟨p, 0, none⟩ = false := by simp [World.frozen?, hpW]
  have hnb : (Value.slice a' (H ++ [x]).length c').ownBlock ≠ some p := by
    rcases ho with e | e
    · rw [e, hb]; exact hne
    · rw [e]
      intro e2
      have e3 := Option.some.inj e2
      simp at e3
      omega
  have hfin : Hs (W.setCell ⟨p, 0, none⟩ (.slice a' (H ++ [x]).length c')) base p (Value.slice a' (H ++ [x]).length c').ownBlock (H ++ [x]) ∧ Chg p b (Value.slice a' (H ++ [x]).length c').ownBlock w (W.setCell ⟨p, 0, none⟩ (.slice a' (H ++ [x]).length c')) := by
    refine ⟨⟨_, by simpa using set_block (j := 0) hpW, ⟨hr2.1, owns_kept hr2.2 fun k hk => set_other fun e => ?_⟩, rfl, hnb⟩, ⟨hg.os, hg.tape, hg.output, ?_, fun k hk h1 h2 => ?_, ?_⟩⟩
    · subst e
      exact hnb hk
    · have h1 := hA.size
      have h2 := hg.size
      have h3 : (W.setCell ⟨p, 0, none⟩ (.slice a' (H ++ [x]).length c')).heap.size = W.heap.size := by simp [World.setCell]
      have h4 : w.drew.heap.size = w.heap.size := rfl
      omega
    · rw [set_other h1, hg.block k (by have := hA.size; have h4 : w.drew.heap.size = w.heap.size := rfl; omega) (fun e => h2 (by rw [← hb]; exact e.symm))]
      exact hA.block k hk
    · rcases ho with e | e
      · exact .inl (e.trans hb)
      · exact .inr ⟨_, e, hA.size⟩
  have hlx : (H ++ [x]).length = H.length + 1 := by simp
  rw [hlx] at hrun hfin
  have HR := Lib.hid hrun
  have HF := Lib.hid hfin
  clear hlx hp hrow hb hne hA hpl hrA hpA hrun hr2 hg ho hpW hnb hfin
  go_enter Try.func119, Try.ntmps119
  refine Nt.wp_region_N 11 (fun w' => w'.cell? ⟨p, 0, none⟩ = some (.slice a H.length c)) (by kernel_rfl) ?_
  refine Nt.takeT (i := 0) (oi := { dst := some 4, op := Op.move (Operand.tmp 0), type := 96, pos := _, after := #[], guard := Option.none }) (v := ?_) rfl (by kernel_rfl) (by kernel_rfl) (by kernel_rfl) (by kernel_rfl) (fun _ _ _ h => h) (Or.inl ⟨by rfl, ?_⟩) (fun _ => S0) ?_
  rotate_left 1
  · intro w hSw
    try dsimp only at hSw
    go_simp
    first | done | with_reducible rfl
  try simp only [Act.put, List.setIfInBounds_toArray, List.set_cons_zero, List.set_cons_succ]
  refine Nt.takeT (i := 1) (oi := { dst := some 5, op := Op.move (Operand.tmp 0), type := 96, pos := _, after := #[], guard := Option.none }) (v := ?_) rfl (by kernel_rfl) (by kernel_rfl) (by kernel_rfl) (by kernel_rfl) (fun _ _ _ h => h) (Or.inl ⟨by rfl, ?_⟩) (fun _ => S0) ?_
  rotate_left 1
  · intro w hSw
    try dsimp only at hSw
    go_simp
    first | done | with_reducible rfl
  try simp only [Act.put, List.setIfInBounds_toArray, List.set_cons_zero, List.set_cons_succ]
  refine Nt.takeT (i := 2) (oi := { dst := some 6, op := Op.nilCheck (Operand.tmp 5), type := 0, pos := _, after := #[{ on := 1, ground := Ground.data }], guard := Option.none }) (v := ?_) rfl (by kernel_rfl) (by kernel_rfl) (by kernel_rfl) (by kernel_rfl) (fun _ _ _ h => h) (Or.inl ⟨by rfl, ?_⟩) (fun _ => S0) ?_
  rotate_left 1
  · intro w hSw
    try dsimp only at hSw
    go_simp
    first | done | with_reducible rfl
  try simp only [Act.put, List.setIfInBounds_toArray, List.set_cons_zero, List.set_cons_succ]
  refine Nt.takeT (i := 3) (oi := { dst := some 7, op := Op.fieldAddr 93 (Operand.tmp 6) 0, type := 0, pos := _, after := #[{ on := 2, ground := Ground.data }], guard := Option.none }) (v := ?_) rfl (by kernel_rfl) (by kernel_rfl) (by kernel_rfl) (by kernel_rfl) (fun _ _ _ h => h) (Or.inl ⟨by rfl, ?_⟩) (fun _ => S0) ?_
  rotate_left 1
  · intro w hSw
    try dsimp only at hSw
    go_simp
    first | done | with_reducible rfl
  try simp only [Act.put, List.setIfInBounds_toArray, List.set_cons_zero, List.set_cons_succ]
  refine Nt.takeS (i := 4) (oi := { dst := some 8, op := Op.load 91 (Operand.tmp 7), type := 91, pos := _, after := #[{ on := 3, ground := Ground.data }], guard := Option.none }) (v := ?_) rfl (by kernel_rfl) (by kernel_rfl) (by kernel_rfl) (by kernel_rfl) (by kernel_rfl) (by kernel_rfl) (fun _ _ _ h => h) (Or.inl ⟨by rfl, ?_⟩) S0 ?_
  rotate_left 1
  · intro w hSw
    try dsimp only at hSw
    go_simp
    first | done | with_reducible rfl
  try simp only [Act.put, List.setIfInBounds_toArray, List.set_cons_zero, List.set_cons_succ]
  refine Nt.takeT (i := 5) (oi := { dst := some 9, op := Op.move (Operand.tmp 1), type := 20, pos := _, after := #[], guard := Option.none }) (v := ?_) rfl (by kernel_rfl) (by kernel_rfl) (by kernel_rfl) (by kernel_rfl) (fun _ _ _ h => h) (Or.inl ⟨by rfl, ?_⟩) (fun _ => S0) ?_
  rotate_left 1
  · intro w hSw
    try dsimp only at hSw
    go_simp
    first | done | with_reducible rfl
  try simp only [Act.put, List.setIfInBounds_toArray, List.set_cons_zero, List.set_cons_succ]
  refine Nt.takeT (i := 6) (oi := { dst := some 10, op := Op.typeAssert (Operand.tmp 9) 20 3 false, type := 3, pos := _, after := #[{ on := 5, ground := Ground.data }], guard := Option.none }) (v := ?_) rfl (by kernel_rfl) (by kernel_rfl) (by kernel_rfl) (by kernel_rfl) (fun _ _ _ h => h) (Or.inl ⟨by rfl, ?_⟩) (fun _ => S0) ?_
  rotate_left 1
  · intro w hSw
    try dsimp only at hSw
    go_simp
    first | done | with_reducible rfl
  try simp only [Act.put, List.setIfInBounds_toArray, List.set_cons_zero, List.set_cons_succ]
  refine Nt.nextN (i := 7) (by kernel_rfl) rfl (fun K hK => ?_)
  go_simp
  refine hK.out _ _ (fun _ => S1) ?_
  clear hK K
  try simp only [Act.put, List.setIfInBounds_toArray, List.set_cons_zero, List.set_cons_succ]
  refine Nt.nextN (i := 8) (by kernel_rfl) rfl (fun K hK => ?_)
  refine step_run2 rfl (.tmp 8) (.tmp 11) rfl (by simp [Act.eval]) (by simp [Act.eval]) HR.out ?_
  refine hK.out _ _ (fun _ => S2) ?_
  clear hK K
  try simp only [Act.put, List.setIfInBounds_toArray, List.set_cons_zero, List.set_cons_succ]
  refine Nt.nextN (i := 9) (by kernel_rfl) rfl (fun K hK => ?_)
  go_simp
  refine hK.out _ _ (fun _ => S2) ?_
  clear hK K
  try simp only [Act.put, List.setIfInBounds_toArray, List.set_cons_zero, List.set_cons_succ]
  refine Nt.nextN (i := 10) (by kernel_rfl) rfl (fun K hK => ?_)
  go_simp
  refine hK.out _ _ (fun _ => S2) ?_
  clear hK K
  try simp only [Act.put, List.setIfInBounds_toArray, List.set_cons_zero, List.set_cons_succ]
  refine Nt.nextN (i := 11) (by kernel_rfl) rfl (fun K hK => ?_)
  go_simp
  refine hK.out _ _ (fun h => by simp at h) ?_
  clear hK K
  try simp only [Act.put, List.setIfInBounds_toArray, List.set_cons_zero, List.set_cons_succ]
  refine Nt.doneN (by kernel_rfl) ?_ _
  go_wp2_with fail
  go_end0
  exact ⟨⟨_, rfl⟩, _, HF.out.1, HF.out.2⟩

set_option maxRecDepth 100000 in
set_option maxHeartbeats 8000000 in
theorem hpush_c {w : World} {base p : Nat} {b : Option Nat} {H : List Nat} {x : Nat} (h : Hs w base p b H) (hh : Hp H H.length) (hbw : base ≤ w.heap.size) (hl : H.length ≤ 900000) :
    Calls Try.prog 49 #[.iface 96 (.pointer (some ⟨p, 0, none⟩)), .iface 3 (.int .i64 x)] w fun e w' => (∃ z, e = .returned z) ∧ ∃ b' H', Hs w' base p b' H' ∧ Hp H' H'.length ∧ H'.Perm (x :: H) ∧ Chg p b b' w w' := by
  have hpu := mpush_c (x := x) h hbw hl
  have mp := meth_push w p
  have HHH := Lib.hid hh
  clear h hh
  go_enter Try.func49, Try.ntmps49
  go_wp2_with fail
  refine hpu.mono ?_
  rintro e w1 ⟨⟨z, rfl⟩, b1, hS1, hc1⟩
  obtain ⟨v, hp, hrow, hb, hne⟩ := id hS1
  obtain ⟨a, c, rfl⟩ := hrow.1
  have c0 : w1.cell? ⟨p, 0, none⟩ = some (.slice a (H ++ [x]).length c) := by simp only [World.cell?, hp]; rfl
  have hup := up_c hS1 (UpI.start HHH.out) (by simp) (by simp; omega)
  have hln := len_c (w := w1) (a := a) (n := (H ++ [x]).length) (c := c)
  have e1 : ((H ++ [x]).length : Int) - 1 = (H.length : Int) := by simp
  have ml := meth_len c0
  have HC1 := Lib.hid hc1
  have HPM : Hid ((H ++ [x]).Perm (x :: H)) := Lib.hid List.perm_append_comm
  generalize hG : H ++ [x] = G at *
  clear hS1 hp hrow hb hne hc1 hpu mp hG
  go_wp2_with fail
  refine hln.mono ?_
  rintro e w2 ⟨rfl, rfl⟩
  go_wp2_with fail
  refine hup.mono ?_
  rintro e w2 ⟨⟨z, rfl⟩, H2, hS2, hpm, hp2, hb2⟩
  have HF : Hid (Hs w2 base p b1 H2 ∧ H2.Perm (x :: H) ∧ Hp H2 H2.length) := Lib.hid ⟨hS2, hpm.trans HPM.out, hp2⟩
  have HCF : Hid (Chg p b b1 w w2) := Lib.hid ⟨hb2.os.trans HC1.out.os, hb2.tape.trans HC1.out.tape, hb2.output.trans HC1.out.output, Nat.le_trans HC1.out.size hb2.size, fun k hk h1 h2 => (hb2.block k (Nat.lt_of_lt_of_le hk HC1.out.size) (by
    rcases HC1.out.row with e | ⟨q, e, hq⟩
    · rw [e]; exact h2
    · rw [e]; intro e2; have := Option.some.inj e2; omega)).trans (HC1.out.block k hk h1 h2), HC1.out.row⟩
  clear hup hS2 hpm hp2 hb2 hln ml c0
  go_wp2_with fail
  go_end0
  exact ⟨⟨_, rfl⟩, b1, H2, HF.out.1, HF.out.2.2, HF.out.2.1, HCF.out⟩
end Go.Proofs.Ytbflodefmookiaa.Gr
namespace Go.Proofs.Ytbflodefmookiaa.Gr
open Go.RowKit Go.Maps Go.Proofs.Ytbflodefmookiaa

def heldR (v : Value) : Option (DataW Value × List MemPlace) := some (.held v, [])
theorem heldR_inv {v u : Value} {ps : List MemPlace} (h : heldR v = some (.held u, ps)) : v = u := by
  unfold heldR at h
  cases h
  rfl
/-- block m is a map of at most n keys of type k: those of f -/
def Mv (w : World) (k : TypeId) (n m : Nat) (f : Lit → Option Value) : Prop :=
  ∃ D : DataW Value, w.ownsMap Try.prog k heldR m n D ∧ (∀ l, Maps.has D l = (f l).isSome) ∧ ∀ l v, f l = some v → ∀ z, D.atKey l z = .held v
noncomputable def updL (f : Lit → Option Value) (l : Lit) (v : Value) : Lit → Option Value := fun x => @ite _ (x = l) (Classical.propDecidable _) (some v) (f x)
theorem updL_same (f : Lit → Option Value) (l : Lit) (v : Value) : updL f l v l = some v := by
  unfold updL
  rw [@if_pos _ (Classical.propDecidable _) rfl]
theorem updL_ne (f : Lit → Option Value) {l x : Lit} (v : Value) (h : x ≠ l) : updL f l v x = f x := by
  unfold updL
  rw [@if_neg _ (Classical.propDecidable _) h]
section
variable {w w' : World} {k t e : TypeId} {n m : Nat} {f : Lit → Option Value}
theorem Mv.kept (h : Mv w k n m f) (hb : w'.heap[m]? = w.heap[m]?) : Mv w' k n m f := by
  obtain ⟨D, ⟨es, c, hm, r1, r2, r3⟩, r⟩ := h
  exact ⟨D, ⟨es, c, hb.trans hm, r1, r2, r3⟩, r⟩
theorem Mv.lt (h : Mv w k n m f) : m < w.heap.size := by obtain ⟨D, h, _⟩ := h; exact h.lt
theorem Mv.map (h : Mv w k n m f) : ∃ es c, w.heap[m]? = some (.map es c) := by obtain ⟨D, ⟨es, c, h, _⟩, _⟩ := h; exact ⟨es, c, h⟩
theorem Mv.made (w : World) (k : TypeId) : Mv (w.alloc (.map #[] 0)) k 0 w.heap.size (fun _ => none) := ⟨.map [], World.ownsMap_made _ _ _ _, fun _ => rfl, fun _ _ h => by cases h⟩
theorem Mv.look (h : Mv w k n m f) (K : Keyed Try.prog k) (ht : Try.prog.underlying t = some (.map k e)) {z : Value} (hz : (zeroValue e).run Try.prog w = .ok z w) {key : Value} {l : Lit} (hkey : keyOf Try.prog k key = some l) :
    (Instr.lookup t (.map (some m)) key true).run Try.prog w = .ok (.tuple #[(f l).getD z, .bool (f l).isSome]) w := by
  obtain ⟨D, hD, hhas, hat⟩ := h
  obtain ⟨u, ps, hrun, hu⟩ := hD.look_ok K ht hz (show heldR z = some (.held z, []) from rfl) hkey
  rw [hhas] at hrun
  rw [hrun]
  cases hf : f l with
  | none =>
    rw [atKey_of_not_has (D := D) (k := l) (z := .held z) (by rw [hhas, hf]; rfl)] at hu
    rw [heldR_inv hu]
    rfl
  | some v =>
    rw [hat l v hf] at hu
    rw [heldR_inv hu]
    rfl
theorem Mv.look1 (h : Mv w k n m f) (K : Keyed Try.prog k) (ht : Try.prog.underlying t = some (.map k e)) {z : Value} (hz : (zeroValue e).run Try.prog w = .ok z w) {key : Value} {l : Lit} (hkey : keyOf Try.prog k key = some l) :
    (Instr.lookup t (.map (some m)) key false).run Try.prog w = .ok ((f l).getD z) w := by
  obtain ⟨D, hD, hhas, hat⟩ := h
  obtain ⟨u, ps, hrun, hu⟩ := hD.lookup K ht hz (show heldR z = some (.held z, []) from rfl) hkey
  rw [hrun]
  cases hf : f l with
  | none =>
    rw [atKey_of_not_has (D := D) (k := l) (z := .held z) (by rw [hhas, hf]; rfl)] at hu
    rw [heldR_inv hu]
    rfl
  | some v =>
    rw [hat l v hf] at hu
    rw [heldR_inv hu]
    rfl
theorem Mv.put (h : Mv w k n m f) (K : Keyed Try.prog k) (ht : Try.prog.underlying t = some (.map k e)) (hn : n < maxLen) {key : Value} {l : Lit} (hkey : keyOf Try.prog k key = some l) (v : Value) :
    ∃ w', (Instr.mapUpdate t (.map (some m)) key v).run Try.prog w = .ok () w' ∧ Mv w' k (n + 1) m (updL f l v) ∧ w.grownBy w' (some m) ∧ w'.heap.size = w.heap.size := by
  obtain ⟨D, hD, hhas, hat⟩ := h
  obtain ⟨w', hrun, ho, ht2⟩ := hD.store K ht hn hkey (show heldR v = some (.held v, []) from rfl)
  have hk : WideAt.IsKeyLit l := K.key hkey
  refine ⟨w', hrun, ⟨_, ho, fun x => ?_, fun x u hx z => ?_⟩, ht2.grown, ?_⟩
  · by_cases hx : x = l
    · subst hx; rw [has_put_same hD.isMap hk, updL_same]; rfl
    · rw [has_put_other hx, updL_ne _ _ hx, hhas]
  · by_cases hxs : x = l
    · subst hxs
      rw [updL_same] at hx
      cases hx
      exact atKey_put_same hD.isMap hk _ z
    · rw [updL_ne _ _ hxs] at hx
      rw [atKey_put_other hxs]
      exact hat x u hx z
  · obtain ⟨es, c, es', c', _, rfl⟩ := ht2
    simp [Go.ChangeMaps.setBlock]
end
theorem lawI : Keyed Try.prog 3 := int_keyed Try.underlying3
theorem keyI {x : Nat} (hx : x ≤ 1000000) : keyOf Try.prog 3 (.int .i64 (x : Int)) = some (.int .i64 (x : Int)) := Maps.keyOf_int_mk Try.underlying3 (by simp [Lit.wf, IntKind.min, IntKind.max, IntKind.signed, IntKind.bits]; omega)
theorem zeroI (w : World) : (zeroValue 3).run Try.prog w = .ok (.int .i64 0) w := by kernel_rfl
theorem zeroR (w : World) : (zeroValue 37).run Try.prog w = .ok (.slice none 0 0) w := by kernel_rfl

/-- a map with numbers as keys -/
def MvI (w : World) (n m : Nat) (g : Nat → Option Value) : Prop := ∃ f, Mv w 3 n m f ∧ ∀ x : Nat, f (.int .i64 (x : Int)) = g x
section
variable {w w' : World} {t e : TypeId} {n m : Nat} {g : Nat → Option Value}
theorem MvI.kept (h : MvI w n m g) (hb : w'.heap[m]? = w.heap[m]?) : MvI w' n m g := by obtain ⟨f, h1, h2⟩ := h; exact ⟨f, h1.kept hb, h2⟩
theorem MvI.lt (h : MvI w n m g) : m < w.heap.size := by obtain ⟨f, h1, h2⟩ := h; exact h1.lt
theorem MvI.map (h : MvI w n m g) : ∃ es c, w.heap[m]? = some (.map es c) := by obtain ⟨f, h1, h2⟩ := h; exact h1.map
theorem MvI.made (w : World) : MvI (w.alloc (.map #[] 0)) 0 w.heap.size (fun _ => none) := ⟨_, Mv.made w _, fun _ => rfl⟩
theorem MvI.look1 (h : MvI w n m g) (ht : Try.prog.underlying t = some (.map 3 e)) {z : Value} (hz : (zeroValue e).run Try.prog w = .ok z w) {x : Nat} (hx : x ≤ 1000000) :
    (Instr.lookup t (.map (some m)) (.int .i64 (x : Int)) false).run Try.prog w = .ok ((g x).getD z) w := by
  obtain ⟨f, h1, h2⟩ := h
  rw [← h2]
  exact h1.look1 lawI ht hz (keyI hx)
theorem MvI.put (h : MvI w n m g) (ht : Try.prog.underlying t = some (.map 3 e)) (hn : n < maxLen) {x : Nat} (hx : x ≤ 1000000) (v : Value) :
    ∃ w', (Instr.mapUpdate t (.map (some m)) (.int .i64 (x : Int)) v).run Try.prog w = .ok () w' ∧ MvI w' (n + 1) m (fun y => if y = x then some v else g y) ∧ w.grownBy w' (some m) ∧ w'.heap.size = w.heap.size := by
  obtain ⟨f, h1, h2⟩ := h
  obtain ⟨w', hrun, h3, h4, h5⟩ := h1.put lawI ht hn (keyI hx) v
  refine ⟨w', hrun, ⟨_, h3, fun y => ?_⟩, h4, h5⟩
  show _ = if y = x then some v else g y
  by_cases e : y = x
  · subst e
    rw [updL_same, if_pos rfl]
  · have hne : (Lit.int .i64 (y : Int)) ≠ .int .i64 (x : Int) := fun h => e (by
      have h2 : (y : Int) = (x : Int) := by simpa using h
      omega)
    rw [updL_ne _ _ hne, if_neg e, h2]
end
end Go.Proofs.Ytbflodefmookiaa.Gr
