/-
  WHAT Cut, Rename, Remove AND SyncDir DO.
-/
import Derived.Test.YtfmelhcpccghdaaGreatOnFile
import Derived.StillTailTactics
import Derived.BigRegion
import Derived.RegionTactic
namespace Go.Proofs.YtfmelhcpccghdaaGreat
open Go.RowKit Go.Maps

variable {X : Nat → Prop} {K : Nat} {w : World} {p : Nat} {q : Pl} {d : Ds}

set_option maxHeartbeats 2000000 in
theorem doRemove_c {a2 a3 : Nat} (h : DkAt X K w p q d) (hK : K < 1000) {l : List UInt8} (hl : l.length ≤ 1000000) (i : Nat)
    (b2 : w.cell? ⟨a2, 0, none⟩ = some (.pointer (some ⟨p, 0, none⟩))) (b3 : w.cell? ⟨a3, 0, none⟩ = some (.string (mk l))) :
    Calls Tryz.prog 67 #[.pointer (some ⟨i, 0, none⟩), .pointer (some ⟨a2, 0, none⟩), .pointer (some ⟨a3, 0, none⟩)] w (Told X (K + 1) w p (fun n d' => n = 0 ∧ d' = changed d ⟨l, [], none⟩)) := by
  have hch : Calls Tryz.prog 60 #[.pointer (some ⟨p, 0, none⟩), .agg #[.string (mk l), .string ⟨#[]⟩, .pointer none]] w fun e w' => (∃ x, e = .returned x) ∧ Same X w w' ∧ Dk X (K + 1) w' p (changed d ⟨l, [], none⟩) := by
    refine (change_at h hK (c := ⟨l, [], none⟩) hl (by simp) (fun i hi => by cases hi)).mono ?_
    rintro e w' ⟨hx, hs, cv, hd⟩
    exact ⟨hx, hs, _, hd⟩
  clear h
  go_enter Tryz.func67, Tryz.ntmps67
  go_wp2_with fail
  refine hch.mono ?_
  rintro e w1 ⟨⟨x, rfl⟩, hs, hd⟩
  go_wp2
  go_ret
  exact ⟨0, _, rfl, hs, hd, rfl, rfl⟩

set_option maxHeartbeats 2000000 in
theorem doRename_c {a2 a3 a4 : Nat} (h : DkAt X K w p q d) (hK : K < 1000) {l m : List UInt8} (hl : l.length ≤ 1000000) (hm : m.length ≤ 1000000) {i : Nat} (hi : Ref d i)
    (b2 : w.cell? ⟨a2, 0, none⟩ = some (.pointer (some ⟨p, 0, none⟩))) (b3 : w.cell? ⟨a3, 0, none⟩ = some (.string (mk l))) (b4 : w.cell? ⟨a4, 0, none⟩ = some (.string (mk m))) :
    Calls Tryz.prog 59 #[.pointer (some ⟨i, 0, none⟩), .pointer (some ⟨a2, 0, none⟩), .pointer (some ⟨a3, 0, none⟩), .pointer (some ⟨a4, 0, none⟩)] w (Told X (K + 1) w p (fun n d' => n = 0 ∧ d' = changed d ⟨l, m, some i⟩)) := by
  have hch : Calls Tryz.prog 60 #[.pointer (some ⟨p, 0, none⟩), .agg #[.string (mk l), .string (mk m), .pointer (some ⟨i, 0, none⟩)]] w fun e w' => (∃ x, e = .returned x) ∧ Same X w w' ∧ Dk X (K + 1) w' p (changed d ⟨l, m, some i⟩) := by
    refine (change_at h hK (c := ⟨l, m, some i⟩) hl hm (fun j hj => ?_)).mono ?_
    · cases hj
      exact ⟨h.file i hi, fun j k hj h1 h2 => h.apart i j k hi hj h1 h2⟩
    · rintro e w' ⟨hx, hs, cv, hd⟩
      exact ⟨hx, hs, _, hd⟩
  clear h hi
  go_enter Tryz.func59, Tryz.ntmps59
  go_wp2_with fail
  refine hch.mono ?_
  rintro e w1 ⟨⟨x, rfl⟩, hs, hd⟩
  go_wp2
  go_ret
  exact ⟨0, _, rfl, hs, hd, rfl, rfl⟩

set_option maxRecDepth 100000 in
set_option maxHeartbeats 2000000 in
theorem doSyncDir_c {a2 : Nat} (h : DkAt X K w p q d) (hK : K ≤ 1000) (b2 : w.cell? ⟨a2, 0, none⟩ = some (.pointer (some ⟨p, 0, none⟩))) :
    Calls Tryz.prog 45 #[.pointer (some ⟨a2, 0, none⟩)] w (Told X K w p (fun n d' => n = 0 ∧ d' = settled d d.changes.length)) := by
  obtain ⟨_, _, _, _, _, _, _, c7⟩ := h.cells
  obtain ⟨a, cap, hcv⟩ := row_len h.chg
  rw [hcv] at c7
  have hst := settle_at (h.drewN (w' := w.drew) rfl) hK d.changes.length
  rw [Int.toNat_natCast] at hst
  clear h hcv
  generalize hN : d.changes.length = N at *
  have HN := Lib.hid hN
  clear hN
  go_enter Tryz.func45, Tryz.ntmps45
  go_wp2_with fail
  go_still_tail 6, (by kernel_rfl)
  change wpList _ _ _ _ _ w.drew
  go_wp2_with fail
  refine hst.mono ?_
  rintro e w1 ⟨⟨x, rfl⟩, hs, hd⟩
  go_wp2
  go_ret
  exact ⟨0, _, rfl, ⟨hs.os, hs.tape, hs.output, hs.size, hs.block⟩, ⟨_, hd⟩, rfl, rfl⟩

/-- a file has its first bytes -/
def CutQ (d : Ds) (i : Nat) (n : Int) (e : Int) (d' : Ds) : Prop :=
  ((n < 0 ∨ ((d.files i).bytes.length : Int) < n) ∧ e = 1 ∧ d' = d) ∨ (0 ≤ n ∧ n ≤ ((d.files i).bytes.length : Int) ∧ e = 0 ∧ d' = cutF d i n.toNat)

theorem bytesV_take (l : List UInt8) (n : Nat) : bytesV (l.take n) = (bytesV l).take n := by simp [bytesV]

theorem row_cut {v : Value} {xs : List UInt8} {a : Option Addr} {n c : Nat} (h : w.ownsRow 0 5 1 v xs.length (bytesV xs)) (hv : v = .slice a n c) {m : Nat} (hm : m ≤ xs.length) : w.ownsRow 0 5 1 (.slice a m c) (xs.take m).length (bytesV (xs.take m)) := by
  have hl : (xs.take m).length = m := by rw [List.length_take]; omega
  rw [hl, bytesV_take]
  rcases h.2 with ⟨e, h0⟩ | ⟨g, cap, cur, e, hb, hg, hle, hmx, hsz, htake⟩
  · rw [hv] at e
    cases e
    have : m = 0 := by omega
    subst this
    exact ⟨by simp, .inl ⟨rfl, rfl⟩⟩
  · rw [hv] at e
    cases e
    refine ⟨by rw [List.length_take, bytesV_length]; omega, .inr ⟨g, c, cur, rfl, hb, hg, by omega, hmx, hsz, ?_⟩⟩
    rw [← htake, List.take_take]
    congr 1
    omega

theorem DkAt.setCut (h : DkAt X K w p q d) {i m r c : Nat} {a : Option Addr} (hi : Ref d i) (hv : q.bv i = .slice a (d.files i).bytes.length c) (hm : m ≤ (d.files i).bytes.length) (hr : min (d.files i).sure m = r) :
    DkAt X K ((w.setCell ⟨i, 0, none⟩ (.slice a m c)).setCell ⟨i, 1, none⟩ (.int .i64 r)) p { q with bv := upd q.bv i (.slice a m c) } (setF d i ⟨(d.files i).bytes.take m, r, (d.files i).time⟩) := by
  have f := h.file i hi
  have e1 : (Value.slice a m c).ownBlock = (q.bv i).ownBlock := by rw [hv]; cases a <;> rfl
  have hrow := row_cut f.row hv hm
  have hlt : ((d.files i).bytes.take m).length = m := by rw [List.length_take]; omega
  refine h.setFile hi (by simp [World.setCell]) (fun k _ hk _ _ => (Below.heap_setCell _ _ _ _ hk).trans (Below.heap_setCell _ _ _ _ hk)) ⟨f.off, heap_set_same (heap_set_same f.cells 0 _) 1 _, row_kept hrow fun k hk => ?_, fun k hk => f.rowOff k (by rw [← e1]; exact hk), by rw [hlt]; show r ≤ m; omega, by rw [hlt]; have := f.len; omega⟩ (fun k hk => .inl (by rw [← e1]; exact hk))
  have hki : k ≠ i := by
    rintro rfl
    rw [e1] at hk
    obtain ⟨cur, hcur⟩ := row_elem f.row hk
    exact kind_ne hcur f.cells (by decide) rfl
  exact (Below.heap_setCell _ _ _ _ hki).trans (Below.heap_setCell _ _ _ _ hki)

set_option maxRecDepth 100000 in
set_option maxHeartbeats 8000000 in
theorem doCut_c {a2 a3 : Nat} (h : DkAt X K w p q d) (hK : K < 1000) {i : Nat} (hi : Ref d i) (n : Int) (x2 : X a2) (x3 : X a3)
    (b2 : w.cell? ⟨a2, 0, none⟩ = some (.int .i64 n)) (b3 : w.cell? ⟨a3, 0, none⟩ = some (.pointer (some ⟨p, 0, none⟩))) :
    Calls Tryz.prog 71 #[.pointer (some ⟨i, 0, none⟩), .pointer (some ⟨a2, 0, none⟩), .pointer (some ⟨a3, 0, none⟩)] w (Told X (K + 1) w p (CutQ d i n)) := by
  have hf := h.file i hi
  obtain ⟨f0, f1, f2⟩ := hf.cell
  have z0 := frozen_of hf.cells 0
  have z1 := frozen_of hf.cells 1
  obtain ⟨ba, bc, hbv⟩ := row_len hf.row
  rw [hbv] at f0
  have hne2 : i ≠ a2 := by rintro rfl; exact hf.off x2
  have hne3 : i ≠ a3 := by rintro rfl; exact hf.off x3
  have hlen := hf.len
  have hle := hf.le
  have hLc : (d.files i).bytes.length ≤ bc := by
    rcases hf.row.2 with ⟨e, h0⟩ | ⟨g, cap', cur, e, _, _, e2, _⟩
    · omega
    · rw [hbv] at e; cases e; exact e2
  have HD := Lib.hid h
  have HI := Lib.hid hi
  have HBV := Lib.hid hbv
  have HROW := Lib.hid hf.row
  have hoff := hf.off
  clear h hf hi hbv
  obtain ⟨L, hL⟩ : ∃ L, (d.files i).bytes.length = L := ⟨_, rfl⟩
  obtain ⟨S, hS⟩ : ∃ S, (d.files i).sure = S := ⟨_, rfl⟩
  rw [hL] at f0 hlen hle hLc
  rw [hS] at f1 hle
  have HL := Lib.hid hL
  have HS := Lib.hid hS
  clear hL hS
  by_cases hn : n < 0
  · have hd0 : decide (n < 0) = true := decide_eq_true hn
    go_enter Tryz.func71, Tryz.ntmps71
    go_wp2_with fail
    go_quiet (fail)
    go_wp2
    go_ret
    exact ⟨1, d, rfl, ⟨rfl, rfl, rfl, Nat.le_refl _, fun _ _ _ => rfl⟩, ⟨q, (HD.out.drewN (w' := World.drewN w _) rfl).mono (by omega)⟩, .inl ⟨.inl hn, rfl, rfl⟩⟩
  have hd0 : decide (n < 0) = false := decide_eq_false hn
  by_cases hg : (L : Int) < n
  · have hd1 : decide ((L : Int) < n) = true := decide_eq_true hg
    go_enter Tryz.func71, Tryz.ntmps71
    go_wp2_with fail
    go_quiet (fail)
    go_wp2
    go_ret
    exact ⟨1, d, rfl, ⟨rfl, rfl, rfl, Nat.le_refl _, fun _ _ _ => rfl⟩, ⟨q, (HD.out.drewN (w' := World.drewN w _) rfl).mono (by omega)⟩, .inl ⟨.inr (by rw [HL.out]; exact hg), rfl, rfl⟩⟩
  have hd1 : decide ((L : Int) < n) = false := decide_eq_false hg
  obtain ⟨m, rfl⟩ : ∃ m : Nat, n = (m : Int) := ⟨n.toNat, by omega⟩
  have hmc : (m : Int) ≤ (bc : Int) := by omega
  have hm0 : (0 : Int) ≤ (m : Int) := by omega
  obtain ⟨r, hr⟩ : ∃ r : Nat, min (S : Int) (m : Int) = (r : Int) := ⟨min S m, by omega⟩
  go_enter Tryz.func71, Tryz.ntmps71
  go_wp2_with fail
  go_quiet (fail)
  go_wp2_with fail
  clear hd0 hd1 hn hg
  go_region
  have hcut := HD.out.setCut (i := i) (m := m) (r := r) (a := ba) (c := bc) HI.out HBV.out (by rw [HL.out]; omega) (by rw [HS.out]; omega)
  have hcut' : DkAt X K (((w.drewN (nq + 1)).setCell ⟨i, 0, none⟩ (.slice ba m bc)).setCell ⟨i, 1, none⟩ (.int .i64 r)) p { q with bv := upd q.bv i (.slice ba m bc) } (setF d i ⟨(d.files i).bytes.take m, r, (d.files i).time⟩) := hcut.drewN rfl
  have hb3 : (((w.drewN (nq + 1)).setCell ⟨i, 0, none⟩ (.slice ba m bc)).setCell ⟨i, 1, none⟩ (.int .i64 r)).cell? ⟨a3, 0, none⟩ = some (.pointer (some ⟨p, 0, none⟩)) := set_blk hne3 (set_blk hne3 b3)
  have hs3 : Same X w (((w.drewN (nq + 1)).setCell ⟨i, 0, none⟩ (.slice ba m bc)).setCell ⟨i, 1, none⟩ (.int .i64 r)) := ((⟨rfl, rfl, rfl, Nat.le_refl _, fun _ _ _ => rfl⟩ : Same X w (w.drewN (nq + 1))).set _ _ hoff).set _ _ hoff
  clear hcut f0 f1 f2 z0 z1 b2 b3
  generalize (((w.drewN (nq + 1)).setCell ⟨i, 0, none⟩ (.slice ba m bc)).setCell ⟨i, 1, none⟩ (.int .i64 r)) = w3 at *
  have htk : Calls Tryz.prog 56 #[.pointer (some ⟨p, 0, none⟩)] w3 fun e w' => e = .returned (.int .i64 d.clock) ∧ Same X w3 w' ∧ DkAt X (K + 1) w' p { q with bv := upd q.bv i (.slice ba m bc) } (ticked (setF d i ⟨(d.files i).bytes.take m, r, (d.files i).time⟩)) :=
    (tick_at hcut' hK).mono fun e w' h => ⟨h.1, h.2.1, h.2.2.2.2⟩
  have HS3 := Lib.hid hs3
  have HRM := Lib.hid hr
  clear hs3 hcut' hr
  go_wp2_with fail
  refine htk.mono ?_
  rintro e w4 ⟨rfl, hs4, hd4⟩
  have hf4 := hd4.file i HI.out
  have y2 := hf4.cell.2.2
  have yz := frozen_of hf4.cells 2
  have HD4 := Lib.hid hd4
  have HS4 := Lib.hid hs4
  clear hd4 hs4 hf4 htk hb3
  go_wp2
  go_ret
  have hfin := HD4.out.setTime (i := i) (t := d.clock) HI.out
  have e9 : (setF (ticked (setF d i ⟨(d.files i).bytes.take m, r, (d.files i).time⟩)) i ⟨((ticked (setF d i ⟨(d.files i).bytes.take m, r, (d.files i).time⟩)).files i).bytes, ((ticked (setF d i ⟨(d.files i).bytes.take m, r, (d.files i).time⟩)).files i).sure, d.clock⟩) = cutF d i m := by
    have e0 : (ticked (setF d i ⟨(d.files i).bytes.take m, r, (d.files i).time⟩)).files i = ⟨(d.files i).bytes.take m, r, (d.files i).time⟩ := upd_same _ _ _
    rw [e0]
    have e1 : min (d.files i).sure m = r := by have := HS.out; have := HRM.out; omega
    unfold cutF
    rw [e1]
    exact setF_setF (ticked d) i _ _
  rw [e9] at hfin
  exact ⟨0, cutF d i m, rfl, (HS3.out.trans HS4.out).set _ _ hoff, ⟨_, hfin⟩, .inr ⟨by omega, by rw [HL.out]; omega, rfl, rfl⟩⟩
end Go.Proofs.YtfmelhcpccghdaaGreat
