/-
  load.
-/
import Derived.Test.YtfmelhcpccghdaaGreatRlDo
namespace Go.Proofs.YtfmelhcpccghdaaGreat.Rl
open Go.RowKit Go.Maps

variable {X : Nat → Prop} {K : Nat} {w : World} {p lp : Nat} {d : Ds} {nm : List UInt8} {k : UInt8}

theorem read_up (h : Dk X K w p d) {l : List UInt8} (hl : l.length ≤ maxLen) (hu : d.up = true) : ∃ M : Int, (M = 0 ∨ M = 6) ∧ Calls Tryz.prog 49 #[.pointer (some ⟨p, 0, none⟩), .string (mk l)] w fun e w' =>
    ∃ u, e = .returned (.tuple #[u, .int .i64 M]) ∧ w'.ownsRow w.heap.size 5 1 u (bytesOf d l).length (bytesV (bytesOf d l)) ∧ Below w.heap.size w w' := by
  unfold bytesOf
  cases hi : d.now l with
  | none => exact ⟨6, .inr rfl, read_none h hl hu hi⟩
  | some i => exact ⟨0, .inl rfl, read_some h hl hu hi⟩

set_option maxRecDepth 100000 in
set_option maxHeartbeats 4000000 in
theorem load_any (h : Dk X K w p d) (hK : K + 3 ≤ 1000) (hX : X lp) (hlog : LogAt w lp p nm k) (hnm : nm.length ≤ 900000) :
    Calls Tryz.prog 25 #[.pointer (some ⟨lp, 0, none⟩)] w fun e w' => ∃ (n : Int) (d' : Ds) (u : Value) (rs : List (List UInt8)) (Y : Nat → Prop), e = .returned (.tuple #[u, .int .i64 n]) ∧ Same X w w' ∧ loadF K nm k d n d' ∧
      (∀ b, X b → Y b) ∧ Dk Y (K + 3) w' p d' ∧ Safe (fun b => w.heap.size ≤ b ∧ Y b) w' u rs ∧ (n = 0 → rs = scanRecs k (bytesOf d nm)) := by
  have hnl : nm.length ≤ maxLen := by unfold maxLen; omega
  have hlt := hlog.lt
  have hcells : ∀ w', Below w.heap.size w w' → w'.cell? ⟨lp, 0, none⟩ = some (.pointer (some ⟨p, 0, none⟩)) ∧ w'.cell? ⟨lp, 1, none⟩ = some (.string (mk nm)) ∧ w'.cell? ⟨lp, 2, none⟩ = some (.int .u8 k.toNat) := fun w' hb => hlog.below hb
  obtain ⟨c0, c1, c2⟩ := hlog
  cases hu : d.up with
  | false =>
    have hr : Calls Tryz.prog 49 #[.pointer (some ⟨p, 0, none⟩), .string (mk nm)] w.drew fun e w' => ∃ ua un uc, e = .returned (.tuple #[.slice ua un uc, .int .i64 8]) ∧ Below w.heap.size w w' ∧ w'.cell? ⟨lp, 0, none⟩ = some (.pointer (some ⟨p, 0, none⟩)) ∧ w'.cell? ⟨lp, 1, none⟩ = some (.string (mk nm)) ∧ w'.cell? ⟨lp, 2, none⟩ = some (.int .u8 k.toNat) := (read_down (dk_drew h) (l := nm) hu).mono fun e w' ⟨u, h1, h2, h3⟩ => by
      obtain ⟨ua, uc, rfl⟩ := row_len h2
      have hb : Below w.heap.size w w' := ⟨h3.os, h3.tape, h3.output, h3.size, h3.block⟩
      exact ⟨_, _, _, h1, hb, hcells w' hb⟩
    have H := Lib.hid h
    have HU := Lib.hid hu
    clear h hu hcells
    go_enter Tryz.func25, Tryz.ntmps25
    go_wp2_with fail
    go_region_held3 (fun w' => w'.cell? ⟨lp, 0, none⟩ = some (.pointer (some ⟨p, 0, none⟩)) ∧ w'.cell? ⟨lp, 1, none⟩ = some (.string (mk nm)) ∧ w'.cell? ⟨lp, 2, none⟩ = some (.int .u8 k.toNat))
      (first | exact ⟨c0, c1, c2⟩ | exact ⟨m0, m1, m2⟩ | fail)
      (first | (go_at_call 49; (with_reducible refine hr.mono ?_); rintro e w1 ⟨ua, un, uc, rfl, hb1, m0, m1, m2⟩))
    go_wp2
    go_ret2
    exact ⟨8, d, .slice none 0 0, [], X, rfl, Same.of_below hb1, .inl ⟨HU.out, rfl, rfl⟩, fun _ hb => hb, (H.out.keep hb1).mono (by omega), fun w' _ => (rows_nil 0 w').mat, fun e => absurd e (by decide)⟩
  | true =>
    obtain ⟨M, hM, hr0⟩ := read_up (dk_drew h) hnl hu
    obtain ⟨B, hB⟩ : ∃ B, bytesOf d nm = B := ⟨_, rfl⟩
    have hBl : B.length ≤ 65536 := by
      rw [← hB]; unfold bytesOf
      cases hi : d.now nm with
      | none => simp
      | some i => exact dk_len h _ _ hi
    rw [hB] at hr0 ⊢
    have hr : Calls Tryz.prog 49 #[.pointer (some ⟨p, 0, none⟩), .string (mk nm)] w.drew fun e w' => ∃ ua un uc, e = .returned (.tuple #[.slice ua un uc, .int .i64 M]) ∧ Bt w' ua un uc B ∧ Below w.heap.size w w' ∧ w'.cell? ⟨lp, 0, none⟩ = some (.pointer (some ⟨p, 0, none⟩)) ∧ w'.cell? ⟨lp, 1, none⟩ = some (.string (mk nm)) ∧ w'.cell? ⟨lp, 2, none⟩ = some (.int .u8 k.toNat) := hr0.mono fun e w' ⟨u, h1, h2, h3⟩ => by
      obtain ⟨ua, uc, rfl⟩ := row_len h2
      have hb : Below w.heap.size w w' := ⟨h3.os, h3.tape, h3.output, h3.size, h3.block⟩
      exact ⟨_, _, _, h1, Bt.owned h2, hb, hcells w' hb⟩
    have H := Lib.hid h
    have HU := Lib.hid hu
    have HBB := Lib.hid hB
    have HBL := Lib.hid hBl
    have HC := Lib.hid hcells
    have hM1 : (M != 0 && M != 6) = false := by rcases hM with rfl | rfl <;> rfl
    clear h hu hcells hB hBl hr0
    go_enter Tryz.func25, Tryz.ntmps25
    go_wp2_with fail
    go_region_held3 (fun w' => w'.cell? ⟨lp, 0, none⟩ = some (.pointer (some ⟨p, 0, none⟩)) ∧ w'.cell? ⟨lp, 1, none⟩ = some (.string (mk nm)) ∧ w'.cell? ⟨lp, 2, none⟩ = some (.int .u8 k.toNat))
      (first | exact ⟨c0, c1, c2⟩ | exact ⟨m0, m1, m2⟩ | fail)
      (first | (go_at_call 49; (with_reducible refine hr.mono ?_); rintro e w1 ⟨ua, un, uc, rfl, hbt, hb1, m0, m1, m2⟩))
    have HUN := Lib.hid hbt.len
    have hsc := scan_c k hbt (by rw [HUN.out]; have := HBL.out; omega)
    rcases hM with rfl | rfl
    · go_wp2_with fail
      refine hsc.mono ?_
      rintro e w2 ⟨u, rfl, hrows, hb2⟩
      clear hsc hr
      have hb12 : Below w.heap.size w w2 := hb1.trans (hb2.mono hb1.size)
      obtain ⟨n0, n1, n2⟩ := HC.out w2 hb12
      have HDK := Lib.hid (H.out.since hb12)
      have HSF : Hid (Safe (fun b => w.heap.size ≤ b ∧ Since X w w2 b) w2 u (scanRecs k B)) := Lib.hid (Rows.safe hrows (fun b h1 h2 => ⟨Nat.le_trans hb1.size h1, .inr ⟨Nat.le_trans hb1.size h1, h2⟩⟩))
      have HB12 := Lib.hid hb12
      have hs2 := hb12.size
      clear hrows hb2 hb1 hb12 hbt m0 m1 m2
      by_cases ho : okHead k B
      · have hse : scanErr k B = 0 := by unfold scanErr; rw [if_pos ho]
        rw [hse]
        have HSE := Lib.hid hse
        have HO := Lib.hid ho
        clear hse ho
        obtain ⟨E, hE⟩ : ∃ E, scanEnd k B = E := ⟨_, rfl⟩
        rw [hE]
        by_cases h0 : E = 0
        · subst h0
          have HE := Lib.hid hE
          clear hE
          have hhd : Calls Tryz.prog 31 #[.int .u8 k.toNat] w2.drew fun e w' => ∃ a c, e = .returned (.slice a 8 c) ∧ Hid (w'.ownsRow w2.heap.size 5 1 (.slice a 8 c) 8 (bytesV (head k)) ∧ Below w2.heap.size w2 w') ∧ w'.cell? ⟨lp, 0, none⟩ = some (.pointer (some ⟨p, 0, none⟩)) ∧ w'.cell? ⟨lp, 1, none⟩ = some (.string (mk nm)) ∧ w'.cell? ⟨lp, 2, none⟩ = some (.int .u8 k.toNat) := (head_c k w2.drew).mono fun e w' ⟨a, c, h1, h2, h3⟩ => by
            have hb : Below w2.heap.size w2 w' := ⟨h3.os, h3.tape, h3.output, h3.size, h3.block⟩
            exact ⟨a, c, h1, Lib.hid ⟨h2, hb⟩, HC.out w' (HB12.out.trans (hb.mono hs2))⟩
          have hwr : ∀ (w5 : World) (a : Option Addr) (c : Nat), Hid (w5.ownsRow w2.heap.size 5 1 (.slice a 8 c) 8 (bytesV (head k)) ∧ Below w2.heap.size w2 w5) → Calls Tryz.prog 18 #[.pointer (some ⟨p, 0, none⟩), .string (mk nm), .slice a 8 c] w5 fun e w' => ∃ m d', e = .returned (.int .i64 m) ∧ Hid (Same X w w' ∧ Dk X (K + 3) w' p d' ∧ writeF K nm (head k) d m d') ∧ w'.cell? ⟨lp, 0, none⟩ = some (.pointer (some ⟨p, 0, none⟩)) ∧ w'.cell? ⟨lp, 1, none⟩ = some (.string (mk nm)) ∧ w'.cell? ⟨lp, 2, none⟩ = some (.int .u8 k.toNat) := fun w5 a c hF => by
            obtain ⟨ho5, hb5⟩ := hF.out
            have hB5 : Below w.heap.size w w5 := HB12.out.trans (hb5.mono hs2)
            refine (write_d (H.out.since hB5) hK (l := nm) (by omega) (v := .slice a 8 c) (bs := head k) (row_bytes ho5) (own_row_since (owns_mono1 ho5 hs2)) (by rw [head_length]; omega)).mono ?_
            rintro e w' hT
            obtain ⟨m, d', h1, h2, h3, h4⟩ := Told.weak hT (fun k hk => Or.inl hk) (Same.of_below hB5)
            exact ⟨m, d', h1, Lib.hid ⟨h2, h3, h4⟩, (h2.cell (p := ⟨lp, 0, none⟩) hlt hX).trans c0, (h2.cell (p := ⟨lp, 1, none⟩) hlt hX).trans c1, (h2.cell (p := ⟨lp, 2, none⟩) hlt hX).trans c2⟩
          go_wp2_with fail
          go_region_held3 (fun w' => w'.cell? ⟨lp, 0, none⟩ = some (.pointer (some ⟨p, 0, none⟩)) ∧ w'.cell? ⟨lp, 1, none⟩ = some (.string (mk nm)) ∧ w'.cell? ⟨lp, 2, none⟩ = some (.int .u8 k.toNat))
            (first | exact ⟨n0, n1, n2⟩ | exact ⟨m0, m1, m2⟩ | exact ⟨q0, q1, q2⟩ | fail)
            (first
              | (go_at_call 31; (with_reducible refine hhd.mono ?_); rintro e w5 ⟨ha, hc, rfl, hF, m0, m1, m2⟩)
              | (go_at_call 18; (with_reducible refine (hwr _ _ _ hF).mono ?_); rintro e w6 ⟨m6, d6, rfl, hT, q0, q1, q2⟩))
          go_wp2
          go_ret2
          have hz := scan_zero HE.out HO.out
          exact ⟨m6, d6, .slice none 0 0, [], X, rfl, hT.out.1, .inr ⟨HU.out, .inr (.inl ⟨by rw [HBB.out]; exact HSE.out, by rw [HBB.out]; exact HE.out, hT.out.2.2⟩)⟩, fun _ hb => hb, hT.out.2.1, fun w' _ => (rows_nil 0 w').mat, fun _ => hz.2.symm⟩
        · have HE := Lib.hid hE
          have hEn : E ≤ un := by rw [HUN.out, ← hE]; exact (scan_some (by rw [hE]; exact h0) HO.out).1
          have hE6 : E ≤ 65536 := by have := HUN.out; have := HBL.out; omega
          clear hE
          have hz0 : ((E : Int) == 0) = false := by simp; omega
          by_cases hlt2 : E < un
          · have hct : Calls Tryz.prog 51 #[.pointer (some ⟨p, 0, none⟩), .string (mk nm), .int .i64 (E : Int)] w2.drew fun e w' => ∃ m d', e = .returned (.int .i64 m) ∧ Hid (Same (Since X w w2) w2 w' ∧ Dk (Since X w w2) (K + 3) w' p d' ∧ cutDF nm E d m d') ∧ w'.cell? ⟨lp, 0, none⟩ = some (.pointer (some ⟨p, 0, none⟩)) ∧ w'.cell? ⟨lp, 1, none⟩ = some (.string (mk nm)) ∧ w'.cell? ⟨lp, 2, none⟩ = some (.int .u8 k.toNat) := (cut_d (dk_drew HDK.out) (by omega) (l := nm) (by omega) (E : Int)).mono fun e w' hT => by
              obtain ⟨m, d', h1, h2, h3, h4⟩ := hT
              have h2' : Same (Since X w w2) w2 w' := ⟨h2.os, h2.tape, h2.output, h2.size, h2.block⟩
              have hl2 : lp < w2.heap.size := Nat.lt_of_lt_of_le hlt hs2
              exact ⟨m, d', h1, Lib.hid ⟨h2', h3.mono (by omega), h4⟩, (h2'.cell (p := ⟨lp, 0, none⟩) hl2 (.inl hX)).trans n0, (h2'.cell (p := ⟨lp, 1, none⟩) hl2 (.inl hX)).trans n1, (h2'.cell (p := ⟨lp, 2, none⟩) hl2 (.inl hX)).trans n2⟩
            go_wp2_with fail
            go_region_held3 (fun w' => w'.cell? ⟨lp, 0, none⟩ = some (.pointer (some ⟨p, 0, none⟩)) ∧ w'.cell? ⟨lp, 1, none⟩ = some (.string (mk nm)) ∧ w'.cell? ⟨lp, 2, none⟩ = some (.int .u8 k.toNat))
              (first | exact ⟨n0, n1, n2⟩ | exact ⟨q0, q1, q2⟩ | fail)
              (first
                | (go_at_call 51; (with_reducible refine hct.mono ?_); rintro e w6 ⟨m6, d6, rfl, hT, q0, q1, q2⟩))
            go_wp2
            go_ret2
            exact ⟨m6, d6, u, scanRecs k B, Since X w w2, rfl, (Same.of_below HB12.out).trans (hT.out.1.mono fun b _ hb => .inl hb), .inr ⟨HU.out, .inr (.inr (.inl ⟨by rw [HBB.out]; exact HSE.out, by rw [HBB.out, HE.out]; exact h0, by rw [HBB.out, HE.out, ← HUN.out]; exact hlt2, by rw [HBB.out, HE.out]; exact hT.out.2.2⟩))⟩, fun _ hb => .inl hb, hT.out.2.1, HSF.out.same (hT.out.1.mono fun b _ hb => hb.2), fun _ => rfl⟩
          · go_wp2_with fail
            go_ret2
            exact ⟨0, d, u, scanRecs k B, Since X w w2, rfl, Same.of_below HB12.out, .inr ⟨HU.out, .inr (.inr (.inr ⟨by rw [HBB.out]; exact HSE.out, by rw [HBB.out, HE.out]; exact h0, by rw [HBB.out, HE.out, ← HUN.out]; exact hlt2, rfl, rfl⟩))⟩, fun _ hb => .inl hb, HDK.out.mono (by omega), HSF.out, fun _ => rfl⟩
      · have hse : scanErr k B = 9 := by unfold scanErr; rw [if_neg ho]
        rw [hse]
        have HSE := Lib.hid hse
        clear hse ho
        go_wp2
        go_ret2
        exact ⟨9, d, .slice none 0 0, [], X, rfl, Same.of_below HB12.out, .inr ⟨HU.out, .inl ⟨by rw [HBB.out, HSE.out]; decide, by rw [HBB.out, HSE.out]; rfl, rfl⟩⟩, fun _ hb => hb, (H.out.keep HB12.out).mono (by omega), fun w' _ => (rows_nil 0 w').mat, fun e => absurd e (by decide)⟩
    · go_wp2_with fail
      refine hsc.mono ?_
      rintro e w2 ⟨u, rfl, hrows, hb2⟩
      clear hsc hr
      have hb12 : Below w.heap.size w w2 := hb1.trans (hb2.mono hb1.size)
      obtain ⟨n0, n1, n2⟩ := HC.out w2 hb12
      have HDK := Lib.hid (H.out.since hb12)
      have HSF : Hid (Safe (fun b => w.heap.size ≤ b ∧ Since X w w2 b) w2 u (scanRecs k B)) := Lib.hid (Rows.safe hrows (fun b h1 h2 => ⟨Nat.le_trans hb1.size h1, .inr ⟨Nat.le_trans hb1.size h1, h2⟩⟩))
      have HB12 := Lib.hid hb12
      have hs2 := hb12.size
      clear hrows hb2 hb1 hb12 hbt m0 m1 m2
      by_cases ho : okHead k B
      · have hse : scanErr k B = 0 := by unfold scanErr; rw [if_pos ho]
        rw [hse]
        have HSE := Lib.hid hse
        have HO := Lib.hid ho
        clear hse ho
        obtain ⟨E, hE⟩ : ∃ E, scanEnd k B = E := ⟨_, rfl⟩
        rw [hE]
        by_cases h0 : E = 0
        · subst h0
          have HE := Lib.hid hE
          clear hE
          have hhd : Calls Tryz.prog 31 #[.int .u8 k.toNat] w2.drew fun e w' => ∃ a c, e = .returned (.slice a 8 c) ∧ Hid (w'.ownsRow w2.heap.size 5 1 (.slice a 8 c) 8 (bytesV (head k)) ∧ Below w2.heap.size w2 w') ∧ w'.cell? ⟨lp, 0, none⟩ = some (.pointer (some ⟨p, 0, none⟩)) ∧ w'.cell? ⟨lp, 1, none⟩ = some (.string (mk nm)) ∧ w'.cell? ⟨lp, 2, none⟩ = some (.int .u8 k.toNat) := (head_c k w2.drew).mono fun e w' ⟨a, c, h1, h2, h3⟩ => by
            have hb : Below w2.heap.size w2 w' := ⟨h3.os, h3.tape, h3.output, h3.size, h3.block⟩
            exact ⟨a, c, h1, Lib.hid ⟨h2, hb⟩, HC.out w' (HB12.out.trans (hb.mono hs2))⟩
          have hwr : ∀ (w5 : World) (a : Option Addr) (c : Nat), Hid (w5.ownsRow w2.heap.size 5 1 (.slice a 8 c) 8 (bytesV (head k)) ∧ Below w2.heap.size w2 w5) → Calls Tryz.prog 18 #[.pointer (some ⟨p, 0, none⟩), .string (mk nm), .slice a 8 c] w5 fun e w' => ∃ m d', e = .returned (.int .i64 m) ∧ Hid (Same X w w' ∧ Dk X (K + 3) w' p d' ∧ writeF K nm (head k) d m d') ∧ w'.cell? ⟨lp, 0, none⟩ = some (.pointer (some ⟨p, 0, none⟩)) ∧ w'.cell? ⟨lp, 1, none⟩ = some (.string (mk nm)) ∧ w'.cell? ⟨lp, 2, none⟩ = some (.int .u8 k.toNat) := fun w5 a c hF => by
            obtain ⟨ho5, hb5⟩ := hF.out
            have hB5 : Below w.heap.size w w5 := HB12.out.trans (hb5.mono hs2)
            refine (write_d (H.out.since hB5) hK (l := nm) (by omega) (v := .slice a 8 c) (bs := head k) (row_bytes ho5) (own_row_since (owns_mono1 ho5 hs2)) (by rw [head_length]; omega)).mono ?_
            rintro e w' hT
            obtain ⟨m, d', h1, h2, h3, h4⟩ := Told.weak hT (fun k hk => Or.inl hk) (Same.of_below hB5)
            exact ⟨m, d', h1, Lib.hid ⟨h2, h3, h4⟩, (h2.cell (p := ⟨lp, 0, none⟩) hlt hX).trans c0, (h2.cell (p := ⟨lp, 1, none⟩) hlt hX).trans c1, (h2.cell (p := ⟨lp, 2, none⟩) hlt hX).trans c2⟩
          go_wp2_with fail
          go_region_held3 (fun w' => w'.cell? ⟨lp, 0, none⟩ = some (.pointer (some ⟨p, 0, none⟩)) ∧ w'.cell? ⟨lp, 1, none⟩ = some (.string (mk nm)) ∧ w'.cell? ⟨lp, 2, none⟩ = some (.int .u8 k.toNat))
            (first | exact ⟨n0, n1, n2⟩ | exact ⟨m0, m1, m2⟩ | exact ⟨q0, q1, q2⟩ | fail)
            (first
              | (go_at_call 31; (with_reducible refine hhd.mono ?_); rintro e w5 ⟨ha, hc, rfl, hF, m0, m1, m2⟩)
              | (go_at_call 18; (with_reducible refine (hwr _ _ _ hF).mono ?_); rintro e w6 ⟨m6, d6, rfl, hT, q0, q1, q2⟩))
          go_wp2
          go_ret2
          have hz := scan_zero HE.out HO.out
          exact ⟨m6, d6, .slice none 0 0, [], X, rfl, hT.out.1, .inr ⟨HU.out, .inr (.inl ⟨by rw [HBB.out]; exact HSE.out, by rw [HBB.out]; exact HE.out, hT.out.2.2⟩)⟩, fun _ hb => hb, hT.out.2.1, fun w' _ => (rows_nil 0 w').mat, fun _ => hz.2.symm⟩
        · have HE := Lib.hid hE
          have hEn : E ≤ un := by rw [HUN.out, ← hE]; exact (scan_some (by rw [hE]; exact h0) HO.out).1
          have hE6 : E ≤ 65536 := by have := HUN.out; have := HBL.out; omega
          clear hE
          have hz0 : ((E : Int) == 0) = false := by simp; omega
          by_cases hlt2 : E < un
          · have hct : Calls Tryz.prog 51 #[.pointer (some ⟨p, 0, none⟩), .string (mk nm), .int .i64 (E : Int)] w2.drew fun e w' => ∃ m d', e = .returned (.int .i64 m) ∧ Hid (Same (Since X w w2) w2 w' ∧ Dk (Since X w w2) (K + 3) w' p d' ∧ cutDF nm E d m d') ∧ w'.cell? ⟨lp, 0, none⟩ = some (.pointer (some ⟨p, 0, none⟩)) ∧ w'.cell? ⟨lp, 1, none⟩ = some (.string (mk nm)) ∧ w'.cell? ⟨lp, 2, none⟩ = some (.int .u8 k.toNat) := (cut_d (dk_drew HDK.out) (by omega) (l := nm) (by omega) (E : Int)).mono fun e w' hT => by
              obtain ⟨m, d', h1, h2, h3, h4⟩ := hT
              have h2' : Same (Since X w w2) w2 w' := ⟨h2.os, h2.tape, h2.output, h2.size, h2.block⟩
              have hl2 : lp < w2.heap.size := Nat.lt_of_lt_of_le hlt hs2
              exact ⟨m, d', h1, Lib.hid ⟨h2', h3.mono (by omega), h4⟩, (h2'.cell (p := ⟨lp, 0, none⟩) hl2 (.inl hX)).trans n0, (h2'.cell (p := ⟨lp, 1, none⟩) hl2 (.inl hX)).trans n1, (h2'.cell (p := ⟨lp, 2, none⟩) hl2 (.inl hX)).trans n2⟩
            go_wp2_with fail
            go_region_held3 (fun w' => w'.cell? ⟨lp, 0, none⟩ = some (.pointer (some ⟨p, 0, none⟩)) ∧ w'.cell? ⟨lp, 1, none⟩ = some (.string (mk nm)) ∧ w'.cell? ⟨lp, 2, none⟩ = some (.int .u8 k.toNat))
              (first | exact ⟨n0, n1, n2⟩ | exact ⟨q0, q1, q2⟩ | fail)
              (first
                | (go_at_call 51; (with_reducible refine hct.mono ?_); rintro e w6 ⟨m6, d6, rfl, hT, q0, q1, q2⟩))
            go_wp2
            go_ret2
            exact ⟨m6, d6, u, scanRecs k B, Since X w w2, rfl, (Same.of_below HB12.out).trans (hT.out.1.mono fun b _ hb => .inl hb), .inr ⟨HU.out, .inr (.inr (.inl ⟨by rw [HBB.out]; exact HSE.out, by rw [HBB.out, HE.out]; exact h0, by rw [HBB.out, HE.out, ← HUN.out]; exact hlt2, by rw [HBB.out, HE.out]; exact hT.out.2.2⟩))⟩, fun _ hb => .inl hb, hT.out.2.1, HSF.out.same (hT.out.1.mono fun b _ hb => hb.2), fun _ => rfl⟩
          · go_wp2_with fail
            go_ret2
            exact ⟨0, d, u, scanRecs k B, Since X w w2, rfl, Same.of_below HB12.out, .inr ⟨HU.out, .inr (.inr (.inr ⟨by rw [HBB.out]; exact HSE.out, by rw [HBB.out, HE.out]; exact h0, by rw [HBB.out, HE.out, ← HUN.out]; exact hlt2, rfl, rfl⟩))⟩, fun _ hb => .inl hb, HDK.out.mono (by omega), HSF.out, fun _ => rfl⟩
      · have hse : scanErr k B = 9 := by unfold scanErr; rw [if_neg ho]
        rw [hse]
        have HSE := Lib.hid hse
        clear hse ho
        go_wp2
        go_ret2
        exact ⟨9, d, .slice none 0 0, [], X, rfl, Same.of_below HB12.out, .inr ⟨HU.out, .inl ⟨by rw [HBB.out, HSE.out]; decide, by rw [HBB.out, HSE.out]; rfl, rfl⟩⟩, fun _ hb => hb, (H.out.keep HB12.out).mono (by omega), fun w' _ => (rows_nil 0 w').mat, fun e => absurd e (by decide)⟩
end Go.Proofs.YtfmelhcpccghdaaGreat.Rl

/-! Open. -/
namespace Go.Proofs.YtfmelhcpccghdaaGreat.Rl
open Go.RowKit Go.Maps

variable {X : Nat → Prop} {K : Nat} {w : World} {p lp : Nat} {d : Ds} {nm : List UInt8} {k : UInt8}

set_option maxRecDepth 100000 in
set_option maxHeartbeats 4000000 in
theorem openCl_c {bl br : Nat} {v0 : Value} (h : Dk X K w p d) (hK : K + 3 ≤ 1000) (hX : X lp) (hlog : LogAt w lp p nm k) (hnm : nm.length ≤ 900000) (hbl : X bl) (hbr : X br)
    (c0 : w.cell? ⟨bl, 0, none⟩ = some (.pointer (some ⟨lp, 0, none⟩))) (c1 : w.cell? ⟨br, 0, none⟩ = some v0) (f1 : w.frozen? ⟨br, 0, none⟩ = false) :
    Calls Tryz.prog 24 #[.pointer (some ⟨bl, 0, none⟩), .pointer (some ⟨br, 0, none⟩)] w fun e w' => ∃ (n : Int) (d' : Ds) (u : Value) (rs : List (List UInt8)) (Y : Nat → Prop), e = .returned (.int .i64 n) ∧ Same (fun b => X b ∧ b ≠ br) w w' ∧ loadF K nm k d n d' ∧
      (∀ b, X b → Y b) ∧ Dk Y (K + 3) w' p d' ∧ w'.cell? ⟨br, 0, none⟩ = some u ∧ Safe (fun b => Y b ∧ w.heap.size ≤ b) w' u rs ∧ (n = 0 → rs = scanRecs k (bytesOf d nm)) := by
  have hl : Calls Tryz.prog 25 #[.pointer (some ⟨lp, 0, none⟩)] w fun e w' => ∃ (n : Int) (d' : Ds) (u : Value) (rs : List (List UInt8)) (Y : Nat → Prop), e = .returned (.tuple #[u, .int .i64 n]) ∧ Hid (Same X w w' ∧ loadF K nm k d n d' ∧
      (∀ b, X b → Y b) ∧ Dk Y (K + 3) w' p d' ∧ Safe (fun b => w.heap.size ≤ b ∧ Y b) w' u rs ∧ (n = 0 → rs = scanRecs k (bytesOf d nm))) ∧ w'.cell? ⟨bl, 0, none⟩ = some (.pointer (some ⟨lp, 0, none⟩)) ∧ w'.cell? ⟨br, 0, none⟩ = some v0 ∧ w'.frozen? ⟨br, 0, none⟩ = false ∧ ∃ ua un uc, u = .slice ua un uc := (load_any h hK hX hlog hnm).mono fun e w' ⟨n, d', u, rs, Y, h1, h2, h3, h4, h5, h6, h7⟩ => by
    have hbs := h2.block br (Pk.lt_of_cell c1) hbr
    obtain ⟨ua, uc, hu, _⟩ := h6.mat
    exact ⟨n, d', u, rs, Y, h1, Lib.hid ⟨h2, h3, h4, h5, h6, h7⟩, (h2.cell (p := ⟨bl, 0, none⟩) (Pk.lt_of_cell c0) hbl).trans c0, (h2.cell (p := ⟨br, 0, none⟩) (Pk.lt_of_cell c1) hbr).trans c1, (World.frozen?_of_block (a := ⟨br, 0, none⟩) hbs).trans f1, _, _, _, hu⟩
  have hltr := Pk.lt_of_cell c1
  have HX := Lib.hid hbr
  have hin := Lib.hid (dk_in h)
  clear h hlog c1 f1
  go_enter Tryz.func24, Tryz.ntmps24
  go_wp2_with fail
  refine hl.mono ?_
  rintro e w1 ⟨n, d', u, rs, Y, rfl, hT, b0, b1, g1, ua, un, uc, rfl⟩
  clear hl
  go_wp2
  go_ret
  obtain ⟨h2, h3, h4, h5, h6, h7⟩ := hT.out
  have hs1 := h2.size
  have hltr' : br < w.heap.size := hltr
  refine ⟨n, d', .slice ua un uc, rs, Y, rfl, ?_, h3, h4, ?_, set_same b1, ?_, h7⟩
  · exact (h2.mono fun b _ hb => hb.1).set _ _ (fun hb => hb.2 rfl)
  · exact h5.frame (by simp [World.setCell]) (fun b hb hY => Below.heap_setCell _ _ _ _ (fun e => hY (by rw [e]; exact h4 _ HX.out))) (fun _ _ hy => hy) (fun b hb => by have := dk_in h5 b hb; simpa [World.setCell] using this)
  · intro w' hs
    refine h6 w' ?_
    exact ((Same.refl _ w1).set ⟨br, 0, none⟩ (.slice ua un uc) (X := fun b => w.heap.size ≤ b ∧ Y b) (fun hb => by have := hb.1; simp only at this; omega)).trans (hs.mono fun b _ hb => ⟨hb.2, hb.1⟩)

set_option maxRecDepth 100000 in
set_option maxHeartbeats 4000000 in
theorem open_any (h : Dk X K w p d) (hK : K + 5 ≤ 1000) (hnm : nm.length ≤ 900000) (k : UInt8) :
    Calls Tryz.prog 7 #[.pointer (some ⟨p, 0, none⟩), .string (mk nm), .int .u8 k.toNat] w fun e w' => ∃ (n : Int) (d' : Ds) (rs : List (List UInt8)) (Y : Nat → Prop), Same X w w' ∧ openF (K + 2) nm (newN nm) k d n d' rs ∧ (∀ b, X b → Y b) ∧ Dk Y (K + 5) w' p d' ∧
      ((n ≠ 0 ∧ e = .returned (.tuple #[.pointer none, .slice none 0 0, .int .i64 n])) ∨
       (n = 0 ∧ ∃ lp u, e = .returned (.tuple #[.pointer (some ⟨lp, 0, none⟩), u, .int .i64 0]) ∧ Y lp ∧ w.heap.size ≤ lp ∧ LogAt w' lp p nm k ∧ Safe (fun b => Y b ∧ w.heap.size ≤ b) w' u rs)) := by
  have hcl := clone_c (mk nm) w (by rw [mk_size]; omega)
  have H := Lib.hid h
  clear h
  go_enter Tryz.func7, Tryz.ntmps7
  go_wp2_with fail
  refine hcl.mono ?_
  rintro e w1 ⟨rfl, hb1⟩
  clear hcl
  have HB1 := Lib.hid hb1
  clear hb1
  go_wp2_with fail
  obtain ⟨b, hb⟩ : ∃ b, w1.heap.size = b := ⟨_, rfl⟩
  rw [hb]
  obtain ⟨W0, hW0⟩ : ∃ W, (((w1.alloc (.cells #[.pointer (some ⟨p, 0, none⟩), .string (mk nm), .int .u8 k.toNat] 61)).alloc (.cells #[.pointer (some ⟨b, 0, none⟩)] 27)).alloc (.cells #[.slice none 0 0] 28)).alloc (.cells #[.func (.func 23) #[.pointer (some ⟨b, 0, none⟩)] #[], .func (.func 24) #[] #[.pointer (some ⟨b + 1, 0, none⟩), .pointer (some ⟨b + 1 + 1, 0, none⟩)]] 36) = W := ⟨_, rfl⟩
  have h0 : Below w1.heap.size w1 W0 := by rw [← hW0]; exact (((below_alloc w1 _).alloc (by simp) _).alloc (by simp; omega) _).alloc (by simp; omega) _
  have hz : W0.heap.size = b + 1 + 1 + 1 + 1 := by rw [← hW0]; simp [hb]
  have g0 : W0.heap[b]? = some (.cells #[.pointer (some ⟨p, 0, none⟩), .string (mk nm), .int .u8 k.toNat] 61 (0, 0)) := by
    rw [← hW0, Below.heap_alloc _ _ _ (by simp; omega), Below.heap_alloc _ _ _ (by simp; omega), Below.heap_alloc _ _ _ (by simp; omega), ← hb]; exact heap_alloc_new _ _
  have g1 : W0.heap[b + 1]? = some (.cells #[.pointer (some ⟨b, 0, none⟩)] 27 (0, 0)) := by
    rw [← hW0, Below.heap_alloc _ _ _ (by simp; omega), Below.heap_alloc _ _ _ (by simp; omega)]
    have := heap_alloc_new (w1.alloc (.cells #[.pointer (some ⟨p, 0, none⟩), .string (mk nm), .int .u8 k.toNat] 61)) (.cells #[.pointer (some ⟨b, 0, none⟩)] 27)
    rwa [World.size_alloc, hb] at this
  have g2 : W0.heap[b + 1 + 1]? = some (.cells #[.slice none 0 0] 28 (0, 0)) := by
    rw [← hW0, Below.heap_alloc _ _ _ (by simp; omega)]
    have := heap_alloc_new ((w1.alloc (.cells #[.pointer (some ⟨p, 0, none⟩), .string (mk nm), .int .u8 k.toNat] 61)).alloc (.cells #[.pointer (some ⟨b, 0, none⟩)] 27)) (.cells #[.slice none 0 0] 28)
    rwa [World.size_alloc, World.size_alloc, hb] at this
  have g3 : W0.heap[b + 1 + 1 + 1]? = some (.cells #[.func (.func 23) #[.pointer (some ⟨b, 0, none⟩)] #[], .func (.func 24) #[] #[.pointer (some ⟨b + 1, 0, none⟩), .pointer (some ⟨b + 1 + 1, 0, none⟩)]] 36 (0, 0)) := by
    rw [← hW0]
    have := heap_alloc_new (((w1.alloc (.cells #[.pointer (some ⟨p, 0, none⟩), .string (mk nm), .int .u8 k.toNat] 61)).alloc (.cells #[.pointer (some ⟨b, 0, none⟩)] 27)).alloc (.cells #[.slice none 0 0] 28)) (.cells #[.func (.func 23) #[.pointer (some ⟨b, 0, none⟩)] #[], .func (.func 24) #[] #[.pointer (some ⟨b + 1, 0, none⟩), .pointer (some ⟨b + 1 + 1, 0, none⟩)]] 36)
    rwa [World.size_alloc, World.size_alloc, World.size_alloc, hb] at this
  have hBW : Below w.heap.size w W0 := HB1.out.trans (h0.mono HB1.out.size)
  have hwb : w.heap.size ≤ b := by rw [← hb]; exact HB1.out.size
  have hlog0 : LogAt W0 b p nm k := ⟨by simp only [World.cell?, g0]; rfl, by simp only [World.cell?, g0]; rfl, by simp only [World.cell?, g0]; rfl⟩
  have hl0 : W0.cell? ⟨b + 1, 0, none⟩ = some (.pointer (some ⟨b, 0, none⟩)) := by simp only [World.cell?, g1]; rfl
  have hr0 : W0.cell? ⟨b + 1 + 1, 0, none⟩ = some (.slice none 0 0) := by simp only [World.cell?, g2]; rfl
  have ha0 : W0.cell? ⟨b + 1 + 1 + 1, 0, none⟩ = some (.func (.func 23) #[.pointer (some ⟨b, 0, none⟩)] #[]) := by simp only [World.cell?, g3]; rfl
  have ha1 : W0.cell? ⟨b + 1 + 1 + 1, 1, none⟩ = some (.func (.func 24) #[] #[.pointer (some ⟨b + 1, 0, none⟩), .pointer (some ⟨b + 1 + 1, 0, none⟩)]) := by simp only [World.cell?, g3]; rfl
  have hfz := frozen_of g2 0
  obtain ⟨Y0, hY0⟩ : ∃ Y, Since X w W0 = Y := ⟨_, rfl⟩
  have hdk0 : Dk Y0 K W0 p d := by rw [← hY0]; exact H.out.since hBW
  have hin : ∀ x, w.heap.size ≤ x → x < W0.heap.size → Y0 x := fun x h1 h2 => by rw [← hY0]; exact .inr ⟨h1, h2⟩
  have hXY : ∀ x, X x → Y0 x := fun x hx => by rw [← hY0]; exact .inl hx
  have y0 : Y0 b := hin _ hwb (by omega)
  have y1 : Y0 (b + 1) := hin _ (by omega) (by omega)
  have y2 : Y0 (b + 1 + 1) := hin _ (by omega) (by omega)
  have y3 : Y0 (b + 1 + 1 + 1) := hin _ (by omega) (by omega)
  have hint := inTurn_c (w := W0) (a := b + 1 + 1 + 1) (n := 2) (c := 2)
    (R := fun j W => (j = 0 ∧ W = W0) ∨ (j = 1 ∧ Same Y0 W0 W ∧ ∃ d1, Dk Y0 (K + 2) W p d1 ∧ dropF (newN nm) d 0 d1) ∨
      (j = 2 ∧ Same (fun x => Y0 x ∧ x ≠ b + 1 + 1) W0 W ∧ ∃ d' rs u Y, openF (K + 2) nm (newN nm) k d 0 d' rs ∧ (∀ x, Y0 x → Y x) ∧ Dk Y (K + 5) W p d' ∧ W.cell? ⟨b + 1 + 1, 0, none⟩ = some u ∧ Safe (fun x => Y x ∧ w.heap.size ≤ x) W u rs))
    (E := fun m W => Same (fun x => Y0 x ∧ x ≠ b + 1 + 1) W0 W ∧ ∃ d' rs Y, openF (K + 2) nm (newN nm) k d m d' rs ∧ (∀ x, Y0 x → Y x) ∧ Dk Y (K + 5) W p d') (by omega)
    (fun j W hj hR => by
      rcases hR with ⟨rfl, rfl⟩ | ⟨rfl, hs, d1, hd1, hq1⟩ | ⟨rfl, _⟩
      · refine ⟨_, _, _, ha0, fun W' => rfl, (dropSpare_any hdk0 (by omega) y0 hlog0 hnm).mono ?_⟩
        rintro e W' ⟨m, d', h1, h2, h3, h4⟩
        exact ⟨m, h1, fun hm => .inr (.inl ⟨rfl, h2, d', h3, hm ▸ h4⟩), fun hm => ⟨h2.mono fun x _ hx => hx.1, d', [], Y0, .inl ⟨hm, h4⟩, fun _ hx => hx, h3.mono (by omega)⟩⟩
      · have hc := fun (q : Addr) (hq : q.block < W0.heap.size) (hy : Y0 q.block) => hs.cell hq hy
        refine ⟨_, _, _, (hc ⟨b + 1 + 1 + 1, 1, none⟩ (by show b + 1 + 1 + 1 < _; omega) y3).trans ha1, fun W' => rfl, (openCl_c hd1 (by omega) y0 (hlog0.same hs y0) hnm y1 y2 ((hc ⟨b + 1, 0, none⟩ (by show b + 1 < _; omega) y1).trans hl0) ((hc ⟨b + 1 + 1, 0, none⟩ (by show b + 1 + 1 < _; omega) y2).trans hr0) ((World.frozen?_of_block (a := ⟨b + 1 + 1, 0, none⟩) (hs.block (b + 1 + 1) (by omega) y2)).trans hfz)).mono ?_⟩
        rintro e W' ⟨m, d', u, rs, Y, h1, h2, h3, h4, h5, h6, h7, h8⟩
        have hs2 : Same (fun x => Y0 x ∧ x ≠ b + 1 + 1) W0 W' := (hs.mono fun x _ hx => hx.1).trans h2
        have hop : openF (K + 2) nm (newN nm) k d m d' rs := .inr ⟨d1, hq1, h3, h8⟩
        have hsz : w.heap.size ≤ W.heap.size := Nat.le_trans hBW.size hs.size
        exact ⟨m, h1, fun hm => .inr (.inr ⟨rfl, hs2, d', rs, u, Y, hm ▸ hop, h4, h5, h6, h7.more fun x hx => ⟨hx.1, Nat.le_trans hsz hx.2⟩⟩), fun hm => ⟨hs2, d', rs, Y, hop, h4, h5⟩⟩
      · omega) (.inl ⟨rfl, rfl⟩)
  rw [hW0]
  have HALL := Lib.hid (And.intro hlog0 (And.intro hl0 hXY))
  have HZ := Lib.hid (And.intro hz (And.intro y0 (And.intro y1 hwb)))
  have HBW := Lib.hid hBW
  clear hlog0 hl0 hr0 ha0 ha1 hfz hdk0 hin hXY y0 y1 y2 y3 g0 g1 g2 g3 hz h0 hBW hY0 hW0 hwb hb
  go_wp2_with fail
  refine hint.mono ?_
  rintro e w3 ⟨m, rfl, hR, hE⟩
  clear hint
  have HR := Lib.hid hR
  have HE := Lib.hid hE
  clear hR hE
  by_cases hm : m = 0
  · subst hm
    rcases HR.out rfl with ⟨h, _⟩ | ⟨h, _⟩ | ⟨_, hs, d', rs, u, Y, hop, hy, hdk, hu, hsf⟩
    · omega
    · omega
    · obtain ⟨hz, y0, y1, hwb⟩ := HZ.out
      obtain ⟨hlog0, hl0, hXY⟩ := HALL.out
      have hl3 : w3.cell? ⟨b + 1, 0, none⟩ = some (.pointer (some ⟨b, 0, none⟩)) := (hs.cell (p := ⟨b + 1, 0, none⟩) (by show b + 1 < _; omega) ⟨y1, by simp⟩).trans hl0
      have hlog3 : LogAt w3 b p nm k := hlog0.same hs ⟨y0, by omega⟩
      obtain ⟨ua, uc, rfl, _⟩ := hsf.mat
      generalize hrl : rs.length = rl at *
      have HF := Lib.hid (And.intro hs (And.intro hop (And.intro hy (And.intro hdk (And.intro hsf hlog3)))))
      have HW := Lib.hid (And.intro hXY (And.intro y0 hwb))
      clear hs hop hy hdk hsf hlog3 hlog0 hl0 hXY y0 y1 hwb hz hrl
      go_wp2_with fail
      go_region_held3 (fun w' => w'.cell? ⟨b + 1, 0, none⟩ = some (.pointer (some ⟨b, 0, none⟩)) ∧ w'.cell? ⟨b + 1 + 1, 0, none⟩ = some (.slice ua rl uc))
        (first | exact ⟨hl3, hu⟩ | fail) (fail)
      go_wp2
      go_ret3
      obtain ⟨hs, hop, hy, hdk, hsf, hlog3⟩ := HF.out
      obtain ⟨hXY, y0, hwb⟩ := HW.out
      exact ⟨0, d', rs, Y, ((Same.of_below HBW.out).trans (hs.mono fun x hx1 hx => ⟨hXY x hx, fun e => by have := dk_in H.out x hx; omega⟩)).drew, hop, fun x hx => hy x (hXY x hx), dk_drew hdk, .inr ⟨rfl, b, _, rfl, hy _ y0, hwb, hlog3, hsf.same (Same.refl _ w3).drew⟩⟩
  · obtain ⟨hs, d', rs, Y, hop, hy, hdk⟩ := HE.out hm
    have hz2 : (m != 0) = true := by simp [hm]
    have HM := Lib.hid hm
    have HF := Lib.hid (And.intro hs (And.intro hop (And.intro hy hdk)))
    clear hm hs hop hy hdk
    go_wp2
    go_ret3
    obtain ⟨hs, hop, hy, hdk⟩ := HF.out
    obtain ⟨hlog0, hl0, hXY⟩ := HALL.out
    obtain ⟨hz, y0, y1, hwb⟩ := HZ.out
    exact ⟨m, d', rs, Y, (Same.of_below HBW.out).trans (hs.mono fun x hx1 hx => ⟨hXY x hx, fun e => by have := dk_in H.out x hx; omega⟩), hop, fun x hx => hy x (hXY x hx), hdk, .inl ⟨HM.out, rfl⟩⟩
end Go.Proofs.YtfmelhcpccghdaaGreat.Rl
