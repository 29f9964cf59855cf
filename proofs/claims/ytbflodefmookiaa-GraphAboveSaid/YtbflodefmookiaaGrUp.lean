/-
  container/heap over a row of numbers: up, down, Pop, Push.
-/
import Derived.Test.YtbflodefmookiaaGrMeth
namespace Go.Proofs.Ytbflodefmookiaa.Gr
open Go.RowKit Go.Proofs.Ytbflodefmookiaa

/-- the numbers that wait, in their box -/
def Hs (w : World) (base p : Nat) (b : Option Nat) (H : List Nat) : Prop := ∃ v, w.heap[p]? = some (.cells #[v] 93 (0, 0)) ∧ RowI w base v H ∧ v.ownBlock = b ∧ b ≠ some p
theorem But.refl (b : Option Nat) (w : World) : But b w w := ⟨rfl, rfl, rfl, Nat.le_refl _, fun _ _ _ => rfl⟩
theorem But.trans {b : Option Nat} {w w1 w2 : World} (h : But b w w1) (k : But b w1 w2) : But b w w2 :=
  ⟨k.os.trans h.os, k.tape.trans h.tape, k.output.trans h.output, Nat.le_trans h.size k.size, fun q hq hne => (k.block q (Nat.lt_of_lt_of_le hq h.size) hne).trans (h.block q hq hne)⟩
theorem lt_some {w : World} {p : Nat} {o : Obj} (h : w.heap[p]? = some o) : p < w.heap.size := by
  rcases Nat.lt_or_ge p w.heap.size with h' | h'
  · exact h'
  · rw [Array.getElem?_eq_none h'] at h; cases h
theorem Hs.cell {w : World} {base p : Nat} {b : Option Nat} {H : List Nat} (h : Hs w base p b H) : ∃ v, w.cell? ⟨p, 0, none⟩ = some v ∧ RowI w base v H ∧ v.ownBlock = b := by
  obtain ⟨v, hp, hr, hb, _⟩ := h
  exact ⟨v, by simp [World.cell?, hp], hr, hb⟩

set_option maxRecDepth 100000 in
set_option maxHeartbeats 8000000 in
theorem up_c {w : World} {base p : Nat} {b : Option Nat} {H : List Nat} {j : Nat} (h : Hs w base p b H) (hu : UpI H H.length j) (hj : j < H.length) (hl : H.length ≤ 1000000) :
    Calls Try.prog 59 #[.iface 96 (.pointer (some ⟨p, 0, none⟩)), .int .i64 j] w fun e w' => (∃ z, e = .returned z) ∧ ∃ H', Hs w' base p b H' ∧ H'.Perm H ∧ Hp H' H'.length ∧ But b w w' := by
  have HS := Lib.hid h
  have HU := Lib.hid hu
  clear h hu
  go_enter Try.func59, Try.ntmps59
  go_wp2_with fail
  go_loopw [1, 4] (fun i _ wr => ∃ (k : Nat) (H' : List Nat), i = .int .i64 k ∧ k < H.length ∧ Hid (H'.length = H.length) ∧ Hid (Hs wr base p b H') ∧ Hid (UpI H' H'.length k) ∧ Hid (H'.Perm H) ∧ Hid (But b w wr)) (fun i _ _ => (intOf i).toNat)
  case atStart => exact ⟨j, H, rfl, hj, Lib.hid rfl, HS, HU, Lib.hid (List.Perm.refl _), Lib.hid (But.refl _ _)⟩
  case round =>
    clear HS HU
    obtain ⟨k, H', rfl, hk, HLN, HS, HU, HP, HB⟩ := hrel
    obtain ⟨v, c0, hrow, hb⟩ := HS.out.cell
    have HROW := Lib.hid hrow
    obtain ⟨a, c, rfl⟩ := hrow.1
    by_cases hk0 : k = 0
    · subst hk0
      have q1 : Int.tdiv ((0 : Int) - 1) 2 = 0 := by decide
      have q2 : Int.tdiv (-1 : Int) 2 = 0 := by decide
      have HF := Lib.hid (HU.out.stop (.inl rfl))
      clear hrow
      go_wp2_with fail
      go_end0
      exact ⟨⟨_, rfl⟩, H', HS.out, HP.out, HF.out, HB.out⟩
    · have hpk : par k < k := by unfold par; omega
      have q1 : Int.tdiv ((k : Int) - 1) 2 = ((par k : Nat) : Int) := by rw [Int.tdiv_eq_ediv_of_nonneg (by omega)]; unfold par; omega
      have hw : IntKind.i64.wrap ((par k : Nat) : Int) = ((par k : Nat) : Int) := by unfold IntKind.wrap; simp [IntKind.signed, IntKind.bits]; omega
      have hHL := HLN.out
      have hls := less_c hrow (i := k) (j := par k) (by omega) (by omega)
      have HSW : Hid (∀ W, RowI W base (.slice a H'.length c) H' → Calls Try.prog 117 #[.slice a H'.length c, .int .i64 (par k : Nat), .int .i64 k] W fun e w' => (∃ z, e = .returned z) ∧ RowI w' base (.slice a H'.length c) (sw H' (par k) k) ∧ But (Value.slice a H'.length c).ownBlock W w') := Lib.hid fun W hW => swap_c hW (i := par k) (j := k) (by omega) (by omega)
      have hd0 : decide (((par k : Nat) : Int) = (k : Int)) = false := decide_eq_false (by omega)
      have hd1 : (((par k : Nat) : Int) == (k : Int)) = false := by rw [beq_eq_false_iff_ne]; omega
      have hstep : H'.getD k 0 < H'.getD (par k) 0 → UpI (sw H' (par k) k) (sw H' (par k) k).length (par k) := fun hlt => by
        rw [sw_len]
        exact HU.out.step rfl (by omega) (by omega) hlt
      have hstop : ¬ H'.getD k 0 < H'.getD (par k) 0 → Hp H' H'.length := fun hlt => HU.out.stop (.inr (by omega))
      have hperm : (sw H' (par k) k).Perm H' := sw_perm H' (by omega) (by omega)
      have HSTEP := Lib.hid hstep
      have HSTOP := Lib.hid hstop
      have HPERM := Lib.hid hperm
      have hki : par k < H.length := by omega
      clear hHL hrow hstep hstop hperm
      generalize par k = i at *
      have ml := meth_less c0
      by_cases hlt : H'.getD k 0 < H'.getD i 0
      · have HLT := Lib.hid (HSTEP.out hlt)
        rw [decide_eq_true hlt] at hls
        clear hlt
        go_wp2_with fail
        refine hls.mono ?_
        rintro e w1 ⟨rfl, q, hq⟩
        have hS1 : Hs w1 base p b H' := by rw [hq]; exact HS.out
        have hB1 : But b w w1 := by rw [hq]; exact HB.out.trans ⟨rfl, rfl, rfl, Nat.le_refl _, fun _ _ _ => rfl⟩
        obtain ⟨v1, hp1, hr1, hb1, hne⟩ := hS1
        have e1 : v1 = .slice a H'.length c := by
          have h1 : wr.heap[p]? = w1.heap[p]? := by rw [hq]; rfl
          obtain ⟨v2, h2, _⟩ := HS.out
          have h3 : wr.cell? ⟨p, 0, none⟩ = some v2 := by simp [World.cell?, h2]
          rw [c0] at h3
          rw [← h1, h2] at hp1
          cases h3
          cases hp1
          rfl
        subst e1
        have c1 : w1.cell? ⟨p, 0, none⟩ = some (.slice a H'.length c) := by simp [World.cell?, hp1]
        have ms := meth_swap c1
        have hsw := HSW.out w1 hr1
        have HP1 := Lib.hid hp1
        have HB1 := Lib.hid hB1
        have HBE := Lib.hid hb1
        have HNE := Lib.hid hne
        clear hls ml c0 hq hp1 hr1 hb1 hB1 hne
        go_wp2_with fail
        refine hsw.mono ?_
        rintro e w2 ⟨⟨z, rfl⟩, hr2, hbut⟩
        rw [HBE.out] at hbut
        have HS2 : Hid (Hs w2 base p b (sw H' i k)) := Lib.hid ⟨_, (hbut.block p (lt_some HP1.out) HNE.out).trans HP1.out, hr2, HBE.out, HNE.out⟩
        have HB2 := Lib.hid (HB1.out.trans hbut)
        have HLN2 : Hid ((sw H' i k).length = H.length) := Lib.hid (by rw [sw_len]; exact HLN.out)
        have HPM2 := Lib.hid (HPERM.out.trans HP.out)
        clear hsw hr2 hbut ms c1
        go_wp2_with fail
        go_roundw
        case rel => exact ⟨i, sw H' i k, rfl, hki, HLN2, HS2, HLT, HPM2, HB2⟩
        case measure => simp [intOf] <;> omega
      · have HLT := Lib.hid (HSTOP.out hlt)
        rw [decide_eq_false hlt] at hls
        clear hlt
        go_wp2_with fail
        refine hls.mono ?_
        rintro e w1 ⟨rfl, q, hq⟩
        have HF : Hid (Hs w1 base p b H' ∧ But b w w1) := Lib.hid (by rw [hq]; exact ⟨HS.out, HB.out.trans ⟨rfl, rfl, rfl, Nat.le_refl _, fun _ _ _ => rfl⟩⟩)
        clear hls hq
        go_wp2_with fail
        go_end0
        exact ⟨⟨_, rfl⟩, H', HF.out.1, HP.out, HLT.out, HF.out.2⟩
end Go.Proofs.Ytbflodefmookiaa.Gr
