/-
  A FILE LOSES WHAT IS NOT SURE OF IT, but for a tail.
-/
import Derived.Test.YtfmelhcpccghdaaGreatMeth
namespace Go.Proofs.YtfmelhcpccghdaaGreat
open Go.RowKit Go.Maps

variable {X : Nat → Prop} {K : Nat} {w : World} {p : Nat} {q : Pl} {d : Ds}

/-- v reads as these numbers -/
def TRow (w : World) (v : Value) (ts : List Int) : Prop :=
  ∃ a cap, v = .slice a ts.length cap ∧ (ts = [] ∨ ∃ b o, a = some ⟨b, o, none⟩ ∧ b < w.heap.size ∧ ∀ j t, ts[j]? = some t → w.cell? ⟨b, o + j, none⟩ = some (.int .i64 t))

set_option maxHeartbeats 2000000 in
theorem tail_c {tv : Value} {ts : List Int} (h : TRow w tv ts) (hl : ts.length ≤ 1000000) {i : Nat} (hi : i ≤ 1000000) :
    Calls Tryz.prog 41 #[tv, .int .i64 i] w fun e w' => e = .returned (.int .i64 (tailOf ts i)) ∧ w = w' := by
  obtain ⟨a, cap, rfl, hc⟩ := h
  rcases hc with rfl | ⟨b, o, rfl, hb, hc⟩
  · go_enter Tryz.func41, Tryz.ntmps41
    go_wp2
    go_ret
    exact ⟨rfl, rfl⟩
  · by_cases h0 : ts = []
    · subst h0
      go_enter Tryz.func41, Tryz.ntmps41
      go_wp2
      go_ret
      exact ⟨rfl, rfl⟩
    · have hpos : 0 < ts.length := by cases ts with | nil => exact absurd rfl h0 | cons a r => simp
      have hlt : i % ts.length < ts.length := Nat.mod_lt _ hpos
      have hcell := hc (i % ts.length) _ (List.getElem?_eq_getElem hlt)
      have he : tailOf ts i = max 0 (ts[i % ts.length]) := by
        unfold tailOf
        rw [if_neg h0]
        simp [List.getD, List.getElem?_eq_getElem hlt]
      have HE := Lib.hid he
      clear hc he h0
      generalize ts[i % ts.length] = T at *
      generalize ts.length = N at *
      have hr : (i : Int).tmod (N : Int) = ((i % N : Nat) : Int) := by rw [Int.tmod_eq_emod_of_nonneg (by omega)]; omega
      have hlt' : ((i % N : Nat) : Int) < (N : Int) := by omega
      generalize i % N = r at *
      have hnn : ((N : Int) == 0) = false := by simp; omega
      go_enter Tryz.func41, Tryz.ntmps41
      go_wp2
      go_ret
      rw [HE.out]
      exact ⟨rfl, rfl⟩

set_option maxHeartbeats 1000000 in
theorem tick_in (h : DkAt X K w p q d) (hK : K ≤ 2000) (hc : d.clock + 1 ≤ 1000 * K + 1) : Calls Tryz.prog 56 #[.pointer (some ⟨p, 0, none⟩)] w fun e w' => e = .returned (.int .i64 d.clock) ∧ Same X w w' ∧ DkAt X K w' p q (ticked d) := by
  obtain ⟨_, c1, _⟩ := h.cells
  have f1 := frozen_of h.root 1
  have hd := h.deeds
  have HH := Lib.hid h
  clear h
  go_enter Tryz.func56, Tryz.ntmps56
  go_wp2
  go_ret
  have h := HH.out
  refine ⟨by go_num, (Same.refl X w).set _ _ h.offp, ?_⟩
  exact h.head (by simp [World.setCell]) (fun k _ hk _ => Below.heap_setCell _ _ _ _ hk) (heap_set_same h.root 1 _) (Nat.le_refl _) rfl rfl rfl rfl hc hd h.quota

theorem lost_lt {d : Ds} {i : Nat} {t : Int} (h : t < ((d.files i).bytes.length : Int) - (d.files i).sure) : lost d i t = setF (ticked d) i ⟨(d.files i).bytes.take ((d.files i).sure + t.toNat), (d.files i).sure + t.toNat, d.clock⟩ := if_pos h
theorem lost_ge {d : Ds} {i : Nat} {t : Int} (h : ¬ t < ((d.files i).bytes.length : Int) - (d.files i).sure) : lost d i t = setF d i ⟨(d.files i).bytes, (d.files i).bytes.length, (d.files i).time⟩ := if_neg h

set_option maxRecDepth 100000 in
set_option maxHeartbeats 8000000 in
theorem lose_at (h : DkAt X K w p q d) (hK : K ≤ 2000) (hc : d.clock + 1 ≤ 1000 * K + 1) {i : Nat} (hi : Ref d i) {t : Int} (ht : 0 ≤ t) :
    Calls Tryz.prog 40 #[.pointer (some ⟨p, 0, none⟩), .pointer (some ⟨i, 0, none⟩), .int .i64 t] w fun e w' => (∃ x, e = .returned x) ∧ Same X w w' ∧ ∃ bv, DkAt X K w' p { q with bv := bv } (lost d i t) := by
  have hf := h.file i hi
  obtain ⟨f0, f1, f2⟩ := hf.cell
  have z0 := frozen_of hf.cells 0
  have z1 := frozen_of hf.cells 1
  obtain ⟨ba, bc, hbv⟩ := row_len hf.row
  rw [hbv] at f0
  have hlen := hf.len
  have hle := hf.le
  have hLc : (d.files i).bytes.length ≤ bc := by
    rcases hf.row.2 with ⟨e, h0⟩ | ⟨g, cap', cur, e, _, _, e2, _⟩
    · omega
    · rw [hbv] at e; cases e; exact e2
  have HD := Lib.hid h
  have HI := Lib.hid hi
  have HBV := Lib.hid hbv
  have hoff := hf.off
  have hrow := hf.row
  have HROW := Lib.hid hrow
  clear h hf hi hbv hrow
  obtain ⟨L, hL⟩ : ∃ L, (d.files i).bytes.length = L := ⟨_, rfl⟩
  obtain ⟨S, hS⟩ : ∃ S, (d.files i).sure = S := ⟨_, rfl⟩
  rw [hL] at f0 hlen hle hLc
  rw [hS] at f1 hle
  have HL := Lib.hid hL
  have HS := Lib.hid hS
  clear hL hS
  have hsub : IntKind.i64.wrap ((L : Int) - (S : Int)) = (L : Int) - (S : Int) := IntWalk.i64_in _ (by omega)
  by_cases hlt : t < (L : Int) - (S : Int)
  · obtain ⟨m, rfl⟩ : ∃ m : Nat, t = (m : Int) := ⟨t.toNat, by omega⟩
    have hlost : lost d i (m : Int) = setF (ticked d) i ⟨(d.files i).bytes.take (S + m), S + m, d.clock⟩ := by
      rw [lost_lt (by rw [HL.out, HS.out]; exact hlt), HS.out, Int.toNat_natCast]
    have HLOST := Lib.hid hlost
    have hd0 : decide ((m : Int) < (L : Int) - (S : Int)) = true := decide_eq_true hlt
    have hadd : IntKind.i64.wrap ((S : Int) + (m : Int)) = ((S + m : Nat) : Int) := by rw [IntWalk.i64_in _ (by omega)]; omega
    have hm1 : ((S + m : Nat) : Int) ≤ (bc : Int) := by omega
    have hm0 : (0 : Int) ≤ ((S + m : Nat) : Int) := by omega
    have hmL : S + m ≤ L := by omega
    have HSM := Lib.hid hmL
    clear hlost hmL ht
    go_enter Tryz.func40, Tryz.ntmps40
    go_wp2_with fail
    go_quiet (fail)
    clear hd0 hsub hlt
    go_wp2_with fail
    go_region
    have e1 : (Value.slice ba (S + m) bc).ownBlock = (q.bv i).ownBlock := by rw [HBV.out]; cases ba <;> rfl
    have hd3 := HD.out.setBytes (i := i) (v := .slice ba (S + m) bc) (bs := (d.files i).bytes.take (S + m)) (w1 := w.drewN (nq + 1)) HI.out ⟨rfl, rfl, rfl, Nat.le_refl _, fun _ _ _ => rfl⟩
      (row_kept (row_cut HROW.out HBV.out (by rw [HL.out]; exact HSM.out)) fun _ _ => rfl) (fun k hk => .inl (by rw [← e1]; exact hk)) (by rw [List.length_take, HL.out, HS.out]; have := HSM.out; omega) (by rw [List.length_take]; have := HL.out; omega)
    have hs3 : Same X w ((w.drewN (nq + 1)).setCell ⟨i, 0, none⟩ (.slice ba (S + m) bc)) := (⟨rfl, rfl, rfl, Nat.le_refl _, fun _ _ _ => rfl⟩ : Same X w (World.drewN w _)).set _ _ hoff
    have HS3 := Lib.hid hs3
    clear f0 f1 f2 z0 z1 e1 hadd hm1 hm0 hs3
    generalize ((w.drewN (nq + 1)).setCell ⟨i, 0, none⟩ (.slice ba (S + m) bc)) = w3 at *
    have htk : Calls Tryz.prog 56 #[.pointer (some ⟨p, 0, none⟩)] w3 fun e w' => e = .returned (.int .i64 d.clock) ∧ Same X w3 w' ∧ DkAt X K w' p { q with bv := upd q.bv i (.slice ba (S + m) bc) } (ticked (setF d i ⟨(d.files i).bytes.take (S + m), (d.files i).sure, (d.files i).time⟩)) := tick_in hd3 hK hc
    clear hd3
    go_wp2_with fail
    refine htk.mono ?_
    rintro e w4 ⟨rfl, hs4, hd4⟩
    have hf4 := hd4.file i HI.out
    have ebv : (upd q.bv i (.slice ba (S + m) bc)) i = .slice ba (S + m) bc := upd_same _ _ _
    obtain ⟨y0, y1, y2⟩ := hf4.cell
    simp only [ebv] at y0
    have yz := frozen_of hf4.cells 2
    have yz1 := frozen_of hf4.cells 1
    have HD4 := Lib.hid hd4
    have HS4 := Lib.hid hs4
    clear hd4 hs4 hf4 htk ebv
    go_wp2
    go_end0
    have h5 := HD4.out.setTime (i := i) (t := d.clock) HI.out
    have e0 : (ticked (setF d i ⟨(d.files i).bytes.take (S + m), (d.files i).sure, (d.files i).time⟩)).files i = ⟨(d.files i).bytes.take (S + m), (d.files i).sure, (d.files i).time⟩ := upd_same _ _ _
    rw [e0, show setF (ticked (setF d i ⟨(d.files i).bytes.take (S + m), (d.files i).sure, (d.files i).time⟩)) i ⟨(d.files i).bytes.take (S + m), (d.files i).sure, d.clock⟩ = setF (ticked d) i ⟨(d.files i).bytes.take (S + m), (d.files i).sure, d.clock⟩ from setF_setF (ticked d) i _ _] at h5
    have e2 : (setF (ticked d) i ⟨(d.files i).bytes.take (S + m), (d.files i).sure, d.clock⟩).files i = ⟨(d.files i).bytes.take (S + m), (d.files i).sure, d.clock⟩ := upd_same _ _ _
    have h6 := h5.setSure (i := i) (s := S + m) HI.out (by rw [e2]; show _ ≤ ((d.files i).bytes.take (S + m)).length; rw [List.length_take, HL.out]; have := HSM.out; omega)
    rw [e2, setF_setF] at h6
    rw [HLOST.out]
    have hs9 : Same X w ((w4.setCell ⟨i, 2, none⟩ (.int .i64 d.clock)).setCell ⟨i, 1, none⟩ (.int .i64 (S + m : Nat))) := ((HS3.out.trans HS4.out).set _ _ hoff).set _ _ hoff
    exact ⟨⟨_, rfl⟩, hs9, ⟨_, h6⟩⟩
  · have hlost : lost d i t = setF d i ⟨(d.files i).bytes, L, (d.files i).time⟩ := by
      rw [lost_ge (by rw [HL.out, HS.out]; exact hlt), HL.out]
    have HLOST := Lib.hid hlost
    have hd0 : decide (t < (L : Int) - (S : Int)) = false := decide_eq_false hlt
    have hfin := HD.out.setSure (i := i) (s := L) HI.out (by rw [HL.out]; exact Nat.le_refl _)
    have HFIN := Lib.hid hfin
    clear hlost hfin
    go_enter Tryz.func40, Tryz.ntmps40
    go_wp2_with fail
    go_quiet (fail)
    clear hd0 hsub hlt
    go_wp2
    go_end0
    rw [HLOST.out]
    exact ⟨⟨_, rfl⟩, (⟨rfl, rfl, rfl, Nat.le_refl _, fun _ _ _ => rfl⟩ : Same X w (World.drewN w _)).set _ _ hoff, ⟨_, HFIN.out.drewN rfl⟩⟩
end Go.Proofs.YtfmelhcpccghdaaGreat
