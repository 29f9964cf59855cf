/-
  Append, AS A DEED.
-/
import Derived.Test.YtfmelhcpccghdaaGreatAppRow
namespace Go.Proofs.YtfmelhcpccghdaaGreat
open Go.RowKit Go.Maps

variable {X : Nat → Prop} {K : Nat} {w : World} {p : Nat} {q : Pl} {d : Ds}

/-- what append tells, and what it leaves -/
def AppendQ (K M : Nat) (d : Ds) (l bs : List UInt8) (n : Int) (d' : Ds) : Prop :=
  (d.now l = none ∧ WriteQ K M d l bs n d') ∨
  ∃ i, d.now l = some i ∧ ((n = 0 ∧ (d.files i).bytes.length + bs.length ≤ 65536 ∧ d' = appended d i bs) ∨ ((n = 3 ∨ n = 7) ∧ d' = d)) ∧
    ((d.files i).bytes.length + bs.length ≤ 65536 → K + 1 ≤ 200 → K * M + ((d.files i).bytes.length + bs.length) ≤ d.quota → n = 0)

set_option maxHeartbeats 4000000 in
theorem doAppend_c {a3 a4 a5 : Nat} (h : DkAt X K w p q d) (hK : K + 2 ≤ 1000) {M : Nat} (hM : M ≤ 65536) (hall : ∀ l i, d.now l = some i → (d.files i).bytes.length ≤ M) {l : List UInt8} (hl : l.length ≤ 1000000) {v : Value} {bs : List UInt8} (hv : BRow w v bs) (hvX : ∀ k, Value.rowBlock v = some k → X k) (hbs : bs.length ≤ 100000000)
    (x3 : X a3) (x4 : X a4) (x5 : X a5)
    (b3 : w.cell? ⟨a3, 0, none⟩ = some (.pointer (some ⟨p, 0, none⟩))) (b4 : w.cell? ⟨a4, 0, none⟩ = some (.string (mk l))) (b5 : w.cell? ⟨a5, 0, none⟩ = some v) :
    Calls Tryz.prog 54 #[.pointer (some ⟨a3, 0, none⟩), .pointer (some ⟨a4, 0, none⟩), .pointer (some ⟨a5, 0, none⟩)] w (Told X (K + 2) w p (AppendQ K M d l bs)) := by
  have hlm : l.length ≤ maxLen := by unfold maxLen; omega
  obtain ⟨va, vc, hve⟩ : ∃ a c, v = .slice a bs.length c := by
    rcases hv with ⟨rfl, rfl⟩ | ⟨a, c, rfl, _⟩
    · exact ⟨_, _, rfl⟩
    · exact ⟨_, _, rfl⟩
  have hbs' : bs.length ≤ 1000000000 := by omega
  obtain ⟨_, _, _, _, _, c5, _, _⟩ := h.cells
  obtain ⟨n0, _, hdir⟩ := h.now
  have hlk : ∀ k, (Instr.lookup 55 (.map (some q.m1)) (.string (mk l)) false).run Tryz.prog (w.drewN k) = .ok (ptr (d.now l)) (w.drewN k) := fun k => (hdir.kept (w' := w.drewN k) rfl).look hlm
  cases hi : d.now l with
  | none =>
    rw [hi, ptr_none] at hlk
    have hw := fun (W : World) (e : W.heap = w.heap) => write_at (h.drewN e) hK hM hall hl (hv.drewN e) hbs'
    have HW := Lib.hid hw
    have HI := Lib.hid hi
    subst hve
    clear h hw hi hdir hall hv hvX
    generalize hN : bs.length = N at *
    go_enter Tryz.func54, Tryz.ntmps54
    go_wp2_with fail
    go_quiet (fail)
    go_wp2_with fail
    refine (HW.out (World.drewN w _) rfl).mono ?_
    rintro e w1 ⟨n, d', rfl, hs, hd, hq⟩
    go_wp2
    go_ret
    exact ⟨n, d', rfl, ⟨hs.os, hs.tape, hs.output, hs.size, hs.block⟩, hd, .inl ⟨HI.out, hq⟩⟩
  | some i =>
    rw [hi, ptr_some] at hlk
    have hr := ref_now hi
    have hf := h.file i hr
    obtain ⟨f0, _, _⟩ := hf.cell
    obtain ⟨ba, bc, hbv⟩ := row_len hf.row
    rw [hbv] at f0
    have hroom := fun (W : World) (e : W.heap = w.heap) => room_at (h.drewN e) (by omega) hM hall hlm (size := (d.files i).bytes.length + bs.length) (by have := hf.len; omega)
    have hlen := hf.len
    have hil := lt_of_some hf.cells
    have l3 := h.inX _ x3
    have l4 := h.inX _ x4
    have l5 := h.inX _ x5
    have hii : i ≠ a3 := by rintro rfl; exact hf.off x3
    have hsum : (((d.files i).bytes.length + bs.length : Nat) : Int) = ((d.files i).bytes.length : Int) + (bs.length : Int) := Int.natCast_add _ _
    simp only [hsum] at hroom
    have HD := Lib.hid h
    have HR := Lib.hid hroom
    have HI := Lib.hid hi
    have HF := Lib.hid hf
    have HV := Lib.hid hv
    have HVX := Lib.hid hvX
    have HRF := Lib.hid hr
    have HBV := Lib.hid hbv
    subst hve
    clear hsum h hroom hi hf hdir hall hv hvX hr hbv
    generalize hN : bs.length = N at *
    have HN := Lib.hid hN
    generalize hFl : (d.files i).bytes.length = L at *
    have HL := Lib.hid hFl
    clear hN hFl
    go_enter Tryz.func54, Tryz.ntmps54
    go_wp2_with fail
    go_quiet (fail)
    go_wp2_with fail
    have hcast : IntKind.i64.wrap ((L : Int) + (N : Int)) = (L : Int) + (N : Int) := IntWalk.i64_in _ (by omega)
    go_region_held3 (fun w' => w'.cell? ⟨a3, 0, none⟩ = some (.pointer (some ⟨p, 0, none⟩)) ∧ w'.cell? ⟨a4, 0, none⟩ = some (.string (mk l)) ∧ w'.cell? ⟨a5, 0, none⟩ = some (.slice va N vc) ∧ w'.cell? ⟨i, 0, none⟩ = some (.slice ba L bc))
      (first | exact ⟨b3, b4, b5, f0⟩ | exact ⟨m3, m4, m5, m0⟩)
      (first
        | (go_at_call 55; refine (HR.out (World.drew (World.drewN w _)) rfl).mono ?_; rintro e w1 ⟨⟨n, rfl, hok⟩, hb1⟩;
            have m3 := (hb1.cell (p := ⟨a3, 0, none⟩) l3).trans b3; have m4 := (hb1.cell (p := ⟨a4, 0, none⟩) l4).trans b4; have m5 := (hb1.cell (p := ⟨a5, 0, none⟩) l5).trans b5; have m0 := (hb1.cell (p := ⟨i, 0, none⟩) hil).trans f0))
    have hB1 : Below w.heap.size w w1 := ⟨hb1.os, hb1.tape, hb1.output, hb1.size, hb1.block⟩
    have hd1 := HD.out.keep hB1
    have HOK := Lib.hid hok
    have HBB := Lib.hid hB1
    have hn := hok.1
    clear hb1 hlk b3 b4 b5 f0 c5 hok
    by_cases hn0 : n = 0
    · subst hn0
      have hf1 := hd1.file i HRF.out
      obtain ⟨_, _, g2⟩ := hf1.cell
      have z0 := frozen_of hf1.cells 0
      have hrow1 : w1.drew.ownsRow 0 5 1 (.slice ba L bc) (d.files i).bytes.length (bytesV (d.files i).bytes) := by rw [← HBV.out]; exact row_kept hf1.row fun _ _ => rfl
      have hsrc : BRow w1.drew (.slice va N vc) bs := (HV.out.below hB1).drewN rfl
      have hbig : (d.files i).bytes.length + bs.length ≤ 1000000000 := by have := HL.out; have := HN.out; omega
      have hio : some i ≠ (Value.slice ba L bc).ownBlock := fun e => by
        rw [← HBV.out] at e
        obtain ⟨cur, hcur⟩ := row_elem hf1.row e.symm
        exact kind_ne hcur hf1.cells (by decide) rfl
      have h3o : some a3 ≠ (Value.slice ba L bc).ownBlock := fun e => by
        rw [← HBV.out] at e
        exact hf1.rowOff a3 e.symm x3
      have i1 : i < w1.heap.size := lt_of_some hf1.cells
      have HD1 := Lib.hid hd1
      have HSRC := Lib.hid hsrc
      clear hd1 hf1 hsrc hn
      go_wp2_with fail
      go_region_law (first
        | (refine step_app rfl (.tmp 36) (.tmp 37) rfl (.slice ba L bc) (d.files i).bytes (by simp [Act.eval]) hrow1 (.slice va N vc) bs (by simp [Act.eval]) HSRC.out hbig ?_; intro a' c' w2 hown2 hg2 hbl2;
            have r0 := hg2.cell m0 hio; have rz := (World.frozen?_of_block (a := ⟨i, 0, none⟩) (hg2.block i i1 hio)).trans z0))
      all_goals
        have hrr := hg2.cell m3 h3o
        have hb3' := set_blk (w := w2) (a := ⟨i, 0, none⟩) (v := .slice a' ((d.files i).bytes.length + bs.length) c') hii hrr
        have hd3 := HD1.out.setBytes (i := i) (v := .slice a' ((d.files i).bytes.length + bs.length) c') (bs := (d.files i).bytes ++ bs) HRF.out (by rw [HBV.out]; exact grown_undrew hg2) hown2 (by rw [HBV.out]; exact hbl2) (by have := (HD1.out.file i HRF.out).le; rw [List.length_append]; omega) (by rw [List.length_append, HL.out, HN.out]; exact HOK.out.2.1 rfl)
        have hs3 : Same X w1 (w2.setCell ⟨i, 0, none⟩ (.slice a' ((d.files i).bytes.length + bs.length) c')) := (Same.of_grown (grown_undrew hg2) (by rw [← HBV.out]; exact (HD1.out.file i HRF.out).rowOff)).set _ _ (HD1.out.file i HRF.out).off
        clear r0 rz hg2 hown2 hbl2 hrr m0 m3 m4 m5 hrow1 z0 g2
        generalize (w2.setCell ⟨i, 0, none⟩ (.slice a' ((d.files i).bytes.length + bs.length) c')) = w3 at *
        have htk : Calls Tryz.prog 56 #[.pointer (some ⟨p, 0, none⟩)] w3 fun e w' => e = .returned (.int .i64 d.clock) ∧ Same X w3 w' ∧ DkAt X (K + 1) w' p { q with bv := upd q.bv i (.slice a' ((d.files i).bytes.length + bs.length) c') } (ticked (setF d i ⟨(d.files i).bytes ++ bs, (d.files i).sure, (d.files i).time⟩)) :=
          (tick_at hd3 (by omega)).mono fun e w' h => ⟨h.1, h.2.1, h.2.2.2.2⟩
        have HS3 := Lib.hid hs3
        clear hs3 hd3 hB1
        go_wp2_with fail
        refine htk.mono ?_
        rintro e w4 ⟨rfl, hs4, hd4⟩
        have hf4 := hd4.file i HRF.out
        have y2 := hf4.cell.2.2
        have yz := frozen_of hf4.cells 2
        have HD4 := Lib.hid hd4
        have HS4 := Lib.hid hs4
        clear hd4 hs4 hf4 htk hb3'
        go_wp2
        go_ret
        have hfin := HD4.out.setTime (i := i) (t := d.clock) HRF.out
        have hB1 : Below w.heap.size w w1 := HBB.out
        have e9 : (setF (ticked (setF d i ⟨(d.files i).bytes ++ bs, (d.files i).sure, (d.files i).time⟩)) i ⟨((ticked (setF d i ⟨(d.files i).bytes ++ bs, (d.files i).sure, (d.files i).time⟩)).files i).bytes, ((ticked (setF d i ⟨(d.files i).bytes ++ bs, (d.files i).sure, (d.files i).time⟩)).files i).sure, d.clock⟩) = appended d i bs := by
          have e0 : (ticked (setF d i ⟨(d.files i).bytes ++ bs, (d.files i).sure, (d.files i).time⟩)).files i = ⟨(d.files i).bytes ++ bs, (d.files i).sure, (d.files i).time⟩ := upd_same _ _ _
          rw [e0]
          exact setF_setF (ticked d) i _ _
        rw [e9] at hfin
        have hoff : ¬ X i := (HD.out.file i HRF.out).off
        refine ⟨0, appended d i bs, rfl, (((Same.of_below hB1).trans HS3.out).trans HS4.out).set _ _ hoff, ⟨_, hfin.mono (by omega)⟩, .inr ⟨i, HI.out, .inl ⟨rfl, by rw [HL.out, HN.out]; exact HOK.out.2.1 rfl, rfl⟩, fun _ _ _ => rfl⟩⟩
    · have hnn : (n != 0) = true := by simpa using hn0
      have HD1 := Lib.hid hd1
      clear hd1
      go_wp2
      go_ret
      refine ⟨n, d, rfl, Same.of_below hB1, ⟨q, HD1.out.mono (by omega)⟩, .inr ⟨i, HI.out, .inr ⟨by omega, rfl⟩, ?_⟩⟩
      rw [HL.out, HN.out]
      exact HOK.out.2.2
end Go.Proofs.YtfmelhcpccghdaaGreat
