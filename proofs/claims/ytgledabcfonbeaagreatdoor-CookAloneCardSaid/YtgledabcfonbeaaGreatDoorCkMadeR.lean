/-
  The document's verbs, walked, where they do not fail.
-/
import Derived.Test.YtgledabcfonbeaaGreatDoorCkPutsR
import Derived.Test.YtgledabcfonbeaaGreatDoorCkJ16
namespace Go.Proofs.YtgledabcfonbeaaGreatDoor.Df
open Go.RowKit Go.Maps Go.Proofs.YtgledabcfonbeaaGreatDoor

/-- names in a row of the call's own, or none -/
def OS (W : World) (fa : Option Addr) (fc : Nat) (f : List Bs) : Prop := Strs W (.slice fa f.length fc) f ∧ (f = [] ∨ ∃ (g : Nat) (cur : Array Value) (fz : Nat × Nat), fa = some ⟨g, 0, none⟩ ∧ W.heap[g]? = some (.cells cur 9 fz))
def MaQ (w : World) (b : Bs) (f : List Bs) (e : Ending) (w' : World) : Prop :=
  ∃ (u : Option Addr) (k : Nat) (fa : Option Addr) (fc : Nat), e = .returned (.tuple #[.slice u b.length k, .slice fa f.length fc, .bool true]) ∧ OV w' (.slice u b.length k) b ∧ OS w' fa fc f ∧ Below w.heap.size w w'
theorem strs_none (w : World) : OS w none 0 [] := ⟨⟨none, 0, rfl, Nat.le_refl _, .inl rfl⟩, .inl rfl⟩
theorem owns_os {w : World} {base : Nat} {fa : Option Addr} {fc : Nat} {f : List Bs} (h : w.ownsRow base 9 1 (.slice fa f.length fc) f.length (strV f)) : OS w fa fc f := by
  refine ⟨owns_strs h, ?_⟩
  rcases h.2 with ⟨e1, e2⟩ | ⟨g, cap, cur, e1, _⟩
  · exact .inl (List.eq_nil_of_length_eq_zero e2)
  · injection e1 with e1
    subst e1
    obtain ⟨_, cur2, hc⟩ := owns_block h (g := g) rfl
    exact .inr ⟨g, cur2, _, rfl, hc⟩
theorem Strs.lt {w : World} {v : Value} {K : List Bs} (h : Strs w v K) {j : Nat} {x : Bs} (hx : K[j]? = some x) : ∃ g off c, v = .slice (some ⟨g, off, none⟩) K.length c ∧ g < w.heap.size ∧ w.cell? ⟨g, off + j, none⟩ = some (.string (mk x)) := by
  obtain ⟨a, c, rfl, -, hrow⟩ := h
  rcases hrow with h | ⟨g, off, rfl, hg, hcell⟩
  · rw [h] at hx; cases hx
  · exact ⟨g, off, c, rfl, hg, hcell j x hx⟩
/-- a byte laid behind bytes -/
theorem push_b {W : World} {base : Nat} {a : Option Addr} {c : Nat} {b : Bs} (x : UInt8) (h : W.ownsRow base 5 1 (.slice a b.length c) b.length (bytesV b)) (hB : base ≤ W.heap.size) (hl : b.length ≤ 100000) :
    ∃ a' c' W', (Builtin.append_ #[24, 24] 24 #[.slice a b.length c, .slice (some ⟨W.heap.size, 0, none⟩) 1 1]).run Tryz.prog (W.alloc (.cells #[.int .u8 (x.toNat : Int)] 5)) = .ok (.slice a' (b ++ [x]).length c') W' ∧ W'.ownsRow base 5 1 (.slice a' (b ++ [x]).length c') (b ++ [x]).length (bytesV (b ++ [x])) ∧ (∀ w, Below base w W → base = w.heap.size → Below base w W') := by
  have hA := below_alloc W (.cells #[.int .u8 (x.toNat : Int)] 5)
  have hby : Byt (W.alloc (.cells #[.int .u8 (x.toNat : Int)] 5)) (.slice (some ⟨W.heap.size, 0, none⟩) ([x] : Bs).length 1) [x] := byt_block (heap_alloc_new _ _) rfl rfl (Nat.le_refl _)
  obtain ⟨a', c', W', hrun, hown, hg⟩ := run_appB (owns_below h hA) (Nat.le_trans hB hA.size) hby (by simp; omega)
  refine ⟨a', c', W', hrun, hown, fun w hw hb => ?_⟩
  have h1 := hw.trans (hA.mono hB)
  exact h1.trans ⟨hg.os, hg.tape, hg.output, hg.size, fun q hq => hg.block q (Nat.lt_of_lt_of_le hq (by have := h1.size; subst hb; exact this)) (fun e => by
    have := (owns_block h (g := q) e.symm).1
    omega)⟩

set_option maxRecDepth 100000 in
set_option maxHeartbeats 16000000 in
theorem made_cat {w : World} {A decl : List Bs} {av dv fv : Value} {L : List Fl} {U : List Value} (hA : Strs w av A) (hal : A.length ≤ 1000) (hd : Strs w dv decl) (hdl : decl.length ≤ 1000000) (hf : Fls w fv L U) (hln : L.length ≤ 1000000) (hFb : ∀ x ∈ L, x.2.length ≤ 200) {all : Bs} (hall : allO decl (fileL L) A [] = some all) :
    Calls Tryz.prog 27 #[.string ⟨#[99, 97, 116]⟩, av, dv, fv] w (MaQ w all []) := by
  have HA := Lib.hid hA
  have HD := Lib.hid hd
  have HF := Lib.hid hf
  have HALL := Lib.hid hall
  obtain ⟨aa, ac, rfl, -, -⟩ := hA
  obtain ⟨da, dc, rfl, -, -⟩ := hd
  obtain ⟨-, fa, fc, rfl, -, -⟩ := hf
  clear hall
  go_enter Tryz.func27, Tryz.ntmps27
  go_wp2_with fail
  go_loopw [13, 14] (fun o i wr => ∃ (j : Nat) (acc : Bs) (oa : Option Addr) (oc : Nat), j ≤ A.length ∧ i = .int .i64 j ∧ o = .slice oa acc.length oc ∧ Hid (allO decl (fileL L) (A.take j) [] = some acc) ∧ Hid (acc.length ≤ 200 * j) ∧ Hid (wr.ownsRow w.heap.size 5 1 (.slice oa acc.length oc) acc.length (bytesV acc)) ∧ Hid (Below w.heap.size w wr)) (fun _ i _ => A.length - (intOf i).toNat)
  case atStart => exact ⟨0, [], none, 0, Nat.zero_le _, rfl, rfl, Lib.hid rfl, Lib.hid (Nat.le_refl _), Lib.hid (World.ownsRow_nil _ _ _ _), Lib.hid (Below.refl _ _)⟩
  case round =>
    obtain ⟨j, acc, oa, oc, hj, rfl, rfl, hAC, hAL, hO, hB⟩ := hrel
    by_cases hlt : j < A.length
    · obtain ⟨a, hx⟩ : ∃ a, A[j]? = some a := ⟨_, List.getElem?_eq_getElem hlt⟩
      obtain ⟨own, hFo, hcon, hnx⟩ := all_at HALL.out hx hAC.out
      obtain ⟨g, off, c9, e, hg, hc⟩ := (HA.out.below hB.out).lt hx
      cases e
      have hi0 : (0 : Int) ≤ (j : Int) := by omega
      have hi1 : (j : Int) < (A.length : Int) := by omega
      have cf := refFindS_c (HF.out.below hB.out) hln hFo
      have HNX := Lib.hid hnx
      have hal2 := hAL.out
      clear hx hFo hnx
      go_wp2_with fail
      refine cf.mono ?_
      rintro e w1 ⟨⟨kk, u, rfl, hLk, hUk⟩, rfl⟩
      obtain ⟨g2, off2, c2, ua, uc, -, -, hU2, -, -, hbu⟩ := (HF.out.below hB.out).at hLk
      obtain rfl : u = .slice ua own.length uc := Option.some.inj (hUk.symm.trans hU2)
      have hol := hFb _ (List.mem_of_getElem? hLk)
      have hol2 : own.length ≤ 200 := hol
      have cin := in_c a (HD.out.below hB.out) hdl
      rw [hcon] at cin
      have HBU := Lib.hid hbu
      clear cf hLk hUk hU2 hbu hcon
      go_wp2_with fail
      refine cin.mono ?_
      rintro e w2 ⟨rfl, hb2⟩
      have hB2 := hB.out.trans (hb2.mono hB.out.size)
      obtain ⟨a1, c1, W1, hrun, hown, hgr⟩ := run_appB (owns_below hO.out hb2) hB2.size (HBU.out.below hb2) (by omega)
      have HB1 := Lib.hid (grown_below (v := .slice oa acc.length oc) hB2 hgr (fun g hg => (owns_block hO.out hg).1))
      have HRUN := Lib.hid hrun
      have HO1 := Lib.hid hown
      obtain ⟨acc2, hacc2⟩ : ∃ acc2, acc ++ own = acc2 := ⟨_, rfl⟩
      have hl2 : acc2.length = acc.length + own.length := by rw [← hacc2, List.length_append]
      rw [hacc2] at HRUN HO1 HNX
      have HL2 : Hid (acc2.length ≤ 200 * (j + 1)) := Lib.hid (by omega)
      clear cin hb2 hB2 hrun hown hgr hacc2 hl2 HBU hc
      go_wp2_with (at_builtin; refine wpList_run rfl (.tmp 93) (.tmp 94) rfl rfl rfl HRUN.out ?_)
      go_roundw
      case rel => exact ⟨j + 1, acc2, a1, c1, by omega, by go_num, rfl, HNX, HL2, HO1, HB1⟩
      case measure => simp [intOf] <;> omega
    · obtain rfl : j = A.length := by omega
      have hac := hAC.out
      rw [List.take_length] at hac
      obtain rfl : acc = all := Option.some.inj (hac.symm.trans HALL.out)
      clear hac
      go_wp2_with fail
      go_ret3
      exact ⟨oa, oc, none, 0, rfl, owns_ov hO.out, strs_none _, hB.out⟩

set_option maxRecDepth 100000 in
set_option maxHeartbeats 16000000 in
theorem made_rev {w : World} {A decl : List Bs} {av dv fv : Value} {L : List Fl} {U : List Value} (hA : Strs w av A) (hal : A.length ≤ 1000) (hd : Strs w dv decl) (hdl : decl.length ≤ 1000000) (hf : Fls w fv L U) (hln : L.length ≤ 1000000) (hFb : ∀ x ∈ L, x.2.length ≤ 200) (hA1 : A.length = 1) {all : Bs} (hall : allO decl (fileL L) A [] = some all) :
    Calls Tryz.prog 27 #[.string ⟨#[114, 101, 118]⟩, av, dv, fv] w (MaQ w all.reverse []) := by
  have HA := Lib.hid hA
  have HD := Lib.hid hd
  have HF := Lib.hid hf
  have HALL := Lib.hid hall
  obtain ⟨aa, ac, rfl, -, -⟩ := hA
  obtain ⟨da, dc, rfl, -, -⟩ := hd
  obtain ⟨-, fa, fc, rfl, -, -⟩ := hf
  clear hall
  have hA2 : ((A.length : Int) != 1) = false := by rw [hA1]; rfl
  have HA1 := Lib.hid hA1
  clear hA1
  go_enter Tryz.func27, Tryz.ntmps27
  go_wp2_with fail
  go_loopw [13, 14] (fun o i wr => ∃ (j : Nat) (acc : Bs) (oa : Option Addr) (oc : Nat), j ≤ A.length ∧ i = .int .i64 j ∧ o = .slice oa acc.length oc ∧ Hid (allO decl (fileL L) (A.take j) [] = some acc) ∧ Hid (acc.length ≤ 200 * j) ∧ Hid (wr.ownsRow w.heap.size 5 1 (.slice oa acc.length oc) acc.length (bytesV acc)) ∧ Hid (Below w.heap.size w wr)) (fun _ i _ => A.length - (intOf i).toNat)
  case atStart => exact ⟨0, [], none, 0, Nat.zero_le _, rfl, rfl, Lib.hid rfl, Lib.hid (Nat.le_refl _), Lib.hid (World.ownsRow_nil _ _ _ _), Lib.hid (Below.refl _ _)⟩
  case round =>
    obtain ⟨j, acc, oa, oc, hj, rfl, rfl, hAC, hAL, hO, hB⟩ := hrel
    by_cases hlt : j < A.length
    · obtain ⟨a, hx⟩ : ∃ a, A[j]? = some a := ⟨_, List.getElem?_eq_getElem hlt⟩
      obtain ⟨own, hFo, hcon, hnx⟩ := all_at HALL.out hx hAC.out
      obtain ⟨g, off, c9, e, hg, hc⟩ := (HA.out.below hB.out).lt hx
      cases e
      have hi0 : (0 : Int) ≤ (j : Int) := by omega
      have hi1 : (j : Int) < (A.length : Int) := by omega
      have cf := refFindS_c (HF.out.below hB.out) hln hFo
      have HNX := Lib.hid hnx
      have hal2 := hAL.out
      clear hx hFo hnx
      go_wp2_with fail
      refine cf.mono ?_
      rintro e w1 ⟨⟨kk, u, rfl, hLk, hUk⟩, rfl⟩
      obtain ⟨g2, off2, c2, ua, uc, -, -, hU2, -, -, hbu⟩ := (HF.out.below hB.out).at hLk
      obtain rfl : u = .slice ua own.length uc := Option.some.inj (hUk.symm.trans hU2)
      have hol := hFb _ (List.mem_of_getElem? hLk)
      have hol2 : own.length ≤ 200 := hol
      have cin := in_c a (HD.out.below hB.out) hdl
      rw [hcon] at cin
      have HBU := Lib.hid hbu
      clear cf hLk hUk hU2 hbu hcon
      go_wp2_with fail
      refine cin.mono ?_
      rintro e w2 ⟨rfl, hb2⟩
      have hB2 := hB.out.trans (hb2.mono hB.out.size)
      obtain ⟨a1, c1, W1, hrun, hown, hgr⟩ := run_appB (owns_below hO.out hb2) hB2.size (HBU.out.below hb2) (by omega)
      have HB1 := Lib.hid (grown_below (v := .slice oa acc.length oc) hB2 hgr (fun g hg => (owns_block hO.out hg).1))
      have HRUN := Lib.hid hrun
      have HO1 := Lib.hid hown
      obtain ⟨acc2, hacc2⟩ : ∃ acc2, acc ++ own = acc2 := ⟨_, rfl⟩
      have hl2 : acc2.length = acc.length + own.length := by rw [← hacc2, List.length_append]
      rw [hacc2] at HRUN HO1 HNX
      have HL2 : Hid (acc2.length ≤ 200 * (j + 1)) := Lib.hid (by omega)
      clear cin hb2 hB2 hrun hown hgr hacc2 hl2 HBU hc
      go_wp2_with (at_builtin; refine wpList_run rfl (.tmp 93) (.tmp 94) rfl rfl rfl HRUN.out ?_)
      go_roundw
      case rel => exact ⟨j + 1, acc2, a1, c1, by omega, by go_num, rfl, HNX, HL2, HO1, HB1⟩
      case measure => simp [intOf] <;> omega
    · obtain rfl : j = A.length := by omega
      have hac := hAC.out
      rw [List.take_length] at hac
      obtain rfl : acc = all := Option.some.inj (hac.symm.trans HALL.out)
      clear hac
      have hal3 := hAL.out
      have hone : acc.length ≤ 200 := by have h1 := HA1.out; rw [h1] at hal3; omega
      have HACC := Lib.hid (owns_byt hO.out)
      have HP0 : Hid (([] : Bs) = acc.reverse.take 0) := Lib.hid (by simp)
      go_wp2_with fail
      obtain ⟨w0, rfl⟩ : ∃ w0, w0 = wr := ⟨wr, rfl⟩
      go_loopw [17, 18] (fun o i wq => ∃ (j : Nat) (P : Bs) (oa2 : Option Addr) (oc2 : Nat), j ≤ acc.length ∧ i = .int .i64 ((acc.length : Int) - 1 - j) ∧ o = .slice oa2 P.length oc2 ∧ Hid (P = acc.reverse.take j) ∧ Hid (wq.ownsRow w0.heap.size 5 1 (.slice oa2 P.length oc2) P.length (bytesV P)) ∧ Hid (Below w0.heap.size w0 wq)) (fun _ i _ => (intOf i + 1).toNat)
      case atStart => exact ⟨0, [], none, 0, Nat.zero_le _, by simp, rfl, HP0, Lib.hid (World.ownsRow_nil _ _ _ _), Lib.hid (Below.refl _ _)⟩
      case round =>
        obtain ⟨j, P, oa2, oc2, hj2, rfl, rfl, hP, hO2, hB2⟩ := hrel
        by_cases hlt2 : j < acc.length
        · obtain ⟨i, hi⟩ : ∃ i, acc.length - 1 - j = i := ⟨_, rfl⟩
          have hii : (acc.length : Int) - 1 - (j : Int) = (i : Int) := by omega
          obtain ⟨x, hx⟩ : ∃ x, acc[i]? = some x := ⟨_, List.getElem?_eq_getElem (by omega)⟩
          have hrx : acc.reverse[j]? = some x := by rw [List.getElem?_reverse (by omega), hi]; exact hx
          have hPl : P.length ≤ 100000 := by rw [hP.out, List.length_take]; omega
          obtain ⟨a9, c9, e, -, -, hrow⟩ := HACC.out.below hB2.out
          cases e
          obtain ⟨g, off, rfl, hc⟩ : ∃ g off, oa = some ⟨g, off, none⟩ ∧ wr.cell? ⟨g, off + i, none⟩ = some (.int .u8 (x.toNat : Int)) := by
            rcases hrow with h | ⟨g, off, e, _, hcell⟩
            · rw [h] at hlt2; exact absurd hlt2 (Nat.not_lt_zero _)
            · exact ⟨g, off, e, hcell i x hx⟩
          obtain ⟨a1, c1, W1, hrun, hown, hbe⟩ := push_b x hO2.out hB2.out.size hPl
          have HRUN := Lib.hid hrun
          have HO1 := Lib.hid hown
          have HB1 := Lib.hid (hbe w0 hB2.out rfl)
          obtain ⟨P2, hP2⟩ : ∃ P2, P ++ [x] = P2 := ⟨_, rfl⟩
          rw [hP2] at HRUN HO1
          have HPN : Hid (P2 = acc.reverse.take (j + 1)) := Lib.hid (by rw [← hP2, hP.out, List.take_add_one, hrx]; rfl)
          have hi0 : (0 : Int) ≤ (i : Int) := by omega
          have hi1 : (i : Int) < (acc.length : Int) := by omega
          rw [hii]
          clear hrun hown hbe hP2 hx hrx hrow hPl hi
          go_wp2_with (at_builtin; refine wpList_run rfl (.tmp 106) (.tmp 111) rfl rfl rfl HRUN.out ?_)
          go_roundw
          case rel => exact ⟨j + 1, P2, a1, c1, by omega, val_eq (by omega), rfl, HPN, HO1, HB1⟩
          case measure => simp [intOf] <;> omega
        · obtain rfl : j = acc.length := by omega
          have hm1 : (acc.length : Int) - 1 - (acc.length : Int) = -1 := by omega
          rw [hm1]
          go_wp2_with fail
          go_ret3
          obtain rfl : P = acc.reverse := by
            have := hP.out
            rw [List.take_of_length_le (by rw [List.length_reverse]; exact Nat.le_refl _)] at this
            exact this
          exact ⟨oa2, oc2, none, 0, rfl, owns_ov hO2.out, strs_none _, hB.out.trans (hB2.out.mono hB.out.size)⟩

set_option maxRecDepth 100000 in
set_option maxHeartbeats 16000000 in
theorem made_sum {w : World} {A decl : List Bs} {av dv fv : Value} {L : List Fl} {U : List Value} (hA : Strs w av A) (hal : A.length ≤ 1000) (hd : Strs w dv decl) (hdl : decl.length ≤ 1000000) (hf : Fls w fv L U) (hln : L.length ≤ 1000000) (hFb : ∀ x ∈ L, x.2.length ≤ 200) (hA1 : A ≠ []) {all : Bs} (hall : allO decl (fileL L) A [] = some all) :
    Calls Tryz.prog 27 #[.string ⟨#[115, 117, 109]⟩, av, dv, fv] w (MaQ w (hashT all) []) := by
  have HA := Lib.hid hA
  have HD := Lib.hid hd
  have HF := Lib.hid hf
  have HALL := Lib.hid hall
  obtain ⟨aa, ac, rfl, -, -⟩ := hA
  obtain ⟨da, dc, rfl, -, -⟩ := hd
  obtain ⟨-, fa, fc, rfl, -, -⟩ := hf
  clear hall
  have hA2 : ((A.length : Int) == 0) = false := by have := List.length_pos_iff.2 hA1; rw [beq_eq_false_iff_ne]; omega
  clear hA1
  go_enter Tryz.func27, Tryz.ntmps27
  go_wp2_with fail
  go_loopw [13, 14] (fun o i wr => ∃ (j : Nat) (acc : Bs) (oa : Option Addr) (oc : Nat), j ≤ A.length ∧ i = .int .i64 j ∧ o = .slice oa acc.length oc ∧ Hid (allO decl (fileL L) (A.take j) [] = some acc) ∧ Hid (acc.length ≤ 200 * j) ∧ Hid (wr.ownsRow w.heap.size 5 1 (.slice oa acc.length oc) acc.length (bytesV acc)) ∧ Hid (Below w.heap.size w wr)) (fun _ i _ => A.length - (intOf i).toNat)
  case atStart => exact ⟨0, [], none, 0, Nat.zero_le _, rfl, rfl, Lib.hid rfl, Lib.hid (Nat.le_refl _), Lib.hid (World.ownsRow_nil _ _ _ _), Lib.hid (Below.refl _ _)⟩
  case round =>
    obtain ⟨j, acc, oa, oc, hj, rfl, rfl, hAC, hAL, hO, hB⟩ := hrel
    by_cases hlt : j < A.length
    · obtain ⟨a, hx⟩ : ∃ a, A[j]? = some a := ⟨_, List.getElem?_eq_getElem hlt⟩
      obtain ⟨own, hFo, hcon, hnx⟩ := all_at HALL.out hx hAC.out
      obtain ⟨g, off, c9, e, hg, hc⟩ := (HA.out.below hB.out).lt hx
      cases e
      have hi0 : (0 : Int) ≤ (j : Int) := by omega
      have hi1 : (j : Int) < (A.length : Int) := by omega
      have cf := refFindS_c (HF.out.below hB.out) hln hFo
      have HNX := Lib.hid hnx
      have hal2 := hAL.out
      clear hx hFo hnx
      go_wp2_with fail
      refine cf.mono ?_
      rintro e w1 ⟨⟨kk, u, rfl, hLk, hUk⟩, rfl⟩
      obtain ⟨g2, off2, c2, ua, uc, -, -, hU2, -, -, hbu⟩ := (HF.out.below hB.out).at hLk
      obtain rfl : u = .slice ua own.length uc := Option.some.inj (hUk.symm.trans hU2)
      have hol := hFb _ (List.mem_of_getElem? hLk)
      have hol2 : own.length ≤ 200 := hol
      have cin := in_c a (HD.out.below hB.out) hdl
      rw [hcon] at cin
      have HBU := Lib.hid hbu
      clear cf hLk hUk hU2 hbu hcon
      go_wp2_with fail
      refine cin.mono ?_
      rintro e w2 ⟨rfl, hb2⟩
      have hB2 := hB.out.trans (hb2.mono hB.out.size)
      obtain ⟨a1, c1, W1, hrun, hown, hgr⟩ := run_appB (owns_below hO.out hb2) hB2.size (HBU.out.below hb2) (by omega)
      have HB1 := Lib.hid (grown_below (v := .slice oa acc.length oc) hB2 hgr (fun g hg => (owns_block hO.out hg).1))
      have HRUN := Lib.hid hrun
      have HO1 := Lib.hid hown
      obtain ⟨acc2, hacc2⟩ : ∃ acc2, acc ++ own = acc2 := ⟨_, rfl⟩
      have hl2 : acc2.length = acc.length + own.length := by rw [← hacc2, List.length_append]
      rw [hacc2] at HRUN HO1 HNX
      have HL2 : Hid (acc2.length ≤ 200 * (j + 1)) := Lib.hid (by omega)
      clear cin hb2 hB2 hrun hown hgr hacc2 hl2 HBU hc
      go_wp2_with (at_builtin; refine wpList_run rfl (.tmp 93) (.tmp 94) rfl rfl rfl HRUN.out ?_)
      go_roundw
      case rel => exact ⟨j + 1, acc2, a1, c1, by omega, by go_num, rfl, HNX, HL2, HO1, HB1⟩
      case measure => simp [intOf] <;> omega
    · obtain rfl : j = A.length := by omega
      have hac := hAC.out
      rw [List.take_length] at hac
      obtain rfl : acc = all := Option.some.inj (hac.symm.trans HALL.out)
      clear hac
      have ch := refHash_c (owns_byt hO.out) (by have := hAL.out; omega)
      have cx := refHex_c (hashN acc) (hash_lt acc) wr
      obtain ⟨hx, hhx⟩ : ∃ hx, hexF 16 (hashN acc) [] = hx := ⟨_, rfl⟩
      have HT : Hid (hashT acc = hx ++ [10]) := Lib.hid (by rw [← hexF_hash, hhx])
      have hlen : hx.length + 1 = 17 := by
        have h1 := hashT_len acc
        rw [HT.out, List.length_append] at h1
        exact h1
      rw [hhx] at cx
      have hc2 : mk hx ++ ⟨#[10]⟩ = mk (hx ++ [10]) := mk_append _ [10]
      have hz2 : ¬ 9223372036854775807 < (mk hx).size + (⟨#[10]⟩ : ByteArray).size := by
        rw [mk_size]
        have h1 : (⟨#[10]⟩ : ByteArray).size = 1 := rfl
        omega
      obtain ⟨s2, hs2⟩ : ∃ s2, hx ++ [10] = s2 := ⟨_, rfl⟩
      rw [hs2] at hc2
      have HTS : Hid (hashT acc = s2) := Lib.hid (HT.out.trans hs2)
      obtain ⟨cap, w7, hcv, hov, hb7⟩ := conv_mk wr s2
      have HOV := Lib.hid hov
      have HB7 := Lib.hid (hB.out.trans (hb7.mono hB.out.size))
      have HL : Hid (s2.length = (hashT acc).length) := Lib.hid (by rw [HTS.out])
      clear hs2 hhx hov hb7
      go_wp2_with fail
      refine ch.mono ?_
      rintro e w1 ⟨rfl, rfl⟩
      clear ch
      go_wp2_with fail
      refine cx.mono ?_
      rintro e w1 ⟨rfl, rfl⟩
      clear cx
      go_wp2_with fail
      go_ret3
      rw [HTS.out]
      exact ⟨_, cap, none, 0, rfl, HOV.out, strs_none _, HB7.out⟩

set_option maxRecDepth 100000 in
set_option maxHeartbeats 16000000 in
theorem made_inc {w : World} {A decl : List Bs} {av dv fv : Value} {L : List Fl} {U : List Value} (hA : Strs w av A) (hal : A.length ≤ 1000) (hd : Strs w dv decl) (hdl : decl.length ≤ 1000000) (hf : Fls w fv L U) (hln : L.length ≤ 1000000) (hFb : ∀ x ∈ L, x.2.length ≤ 200) (hA1 : A.length = 1) {all : Bs} (hall : allO decl (fileL L) A [] = some all) {t : Kst} (ht : putO (fileL L) 10 all ⟨[], 0, []⟩ = some t) :
    Calls Tryz.prog 27 #[.string ⟨#[105, 110, 99]⟩, av, dv, fv] w (MaQ w t.whole t.found) := by
  have HA := Lib.hid hA
  have HD := Lib.hid hd
  have HF := Lib.hid hf
  have HALL := Lib.hid hall
  obtain ⟨aa, ac, rfl, -, -⟩ := hA
  obtain ⟨da, dc, rfl, -, -⟩ := hd
  obtain ⟨-, fa, fc, rfl, -, -⟩ := hf
  clear hall
  have hA2 : ((A.length : Int) != 1) = false := by rw [hA1]; rfl
  have HA1 := Lib.hid hA1
  clear hA1
  have HPUT := Lib.hid ht
  clear ht
  go_enter Tryz.func27, Tryz.ntmps27
  go_wp2_with fail
  go_loopw [13, 14] (fun o i wr => ∃ (j : Nat) (acc : Bs) (oa : Option Addr) (oc : Nat), j ≤ A.length ∧ i = .int .i64 j ∧ o = .slice oa acc.length oc ∧ Hid (allO decl (fileL L) (A.take j) [] = some acc) ∧ Hid (acc.length ≤ 200 * j) ∧ Hid (wr.ownsRow w.heap.size 5 1 (.slice oa acc.length oc) acc.length (bytesV acc)) ∧ Hid (Below w.heap.size w wr)) (fun _ i _ => A.length - (intOf i).toNat)
  case atStart => exact ⟨0, [], none, 0, Nat.zero_le _, rfl, rfl, Lib.hid rfl, Lib.hid (Nat.le_refl _), Lib.hid (World.ownsRow_nil _ _ _ _), Lib.hid (Below.refl _ _)⟩
  case round =>
    obtain ⟨j, acc, oa, oc, hj, rfl, rfl, hAC, hAL, hO, hB⟩ := hrel
    by_cases hlt : j < A.length
    · obtain ⟨a, hx⟩ : ∃ a, A[j]? = some a := ⟨_, List.getElem?_eq_getElem hlt⟩
      obtain ⟨own, hFo, hcon, hnx⟩ := all_at HALL.out hx hAC.out
      obtain ⟨g, off, c9, e, hg, hc⟩ := (HA.out.below hB.out).lt hx
      cases e
      have hi0 : (0 : Int) ≤ (j : Int) := by omega
      have hi1 : (j : Int) < (A.length : Int) := by omega
      have cf := refFindS_c (HF.out.below hB.out) hln hFo
      have HNX := Lib.hid hnx
      have hal2 := hAL.out
      clear hx hFo hnx
      go_wp2_with fail
      refine cf.mono ?_
      rintro e w1 ⟨⟨kk, u, rfl, hLk, hUk⟩, rfl⟩
      obtain ⟨g2, off2, c2, ua, uc, -, -, hU2, -, -, hbu⟩ := (HF.out.below hB.out).at hLk
      obtain rfl : u = .slice ua own.length uc := Option.some.inj (hUk.symm.trans hU2)
      have hol := hFb _ (List.mem_of_getElem? hLk)
      have hol2 : own.length ≤ 200 := hol
      have cin := in_c a (HD.out.below hB.out) hdl
      rw [hcon] at cin
      have HBU := Lib.hid hbu
      clear cf hLk hUk hU2 hbu hcon
      go_wp2_with fail
      refine cin.mono ?_
      rintro e w2 ⟨rfl, hb2⟩
      have hB2 := hB.out.trans (hb2.mono hB.out.size)
      obtain ⟨a1, c1, W1, hrun, hown, hgr⟩ := run_appB (owns_below hO.out hb2) hB2.size (HBU.out.below hb2) (by omega)
      have HB1 := Lib.hid (grown_below (v := .slice oa acc.length oc) hB2 hgr (fun g hg => (owns_block hO.out hg).1))
      have HRUN := Lib.hid hrun
      have HO1 := Lib.hid hown
      obtain ⟨acc2, hacc2⟩ : ∃ acc2, acc ++ own = acc2 := ⟨_, rfl⟩
      have hl2 : acc2.length = acc.length + own.length := by rw [← hacc2, List.length_append]
      rw [hacc2] at HRUN HO1 HNX
      have HL2 : Hid (acc2.length ≤ 200 * (j + 1)) := Lib.hid (by omega)
      clear cin hb2 hB2 hrun hown hgr hacc2 hl2 HBU hc
      go_wp2_with (at_builtin; refine wpList_run rfl (.tmp 93) (.tmp 94) rfl rfl rfl HRUN.out ?_)
      go_roundw
      case rel => exact ⟨j + 1, acc2, a1, c1, by omega, by go_num, rfl, HNX, HL2, HO1, HB1⟩
      case measure => simp [intOf] <;> omega
    · obtain rfl : j = A.length := by omega
      have hac := hAC.out
      rw [List.take_length] at hac
      obtain rfl : acc = all := Option.some.inj (hac.symm.trans HALL.out)
      clear hac
      have hbl := hAL.out
      have hA3 : acc.length ≤ 1000000 := by have h1 := HA1.out; rw [h1] at hbl; omega
      obtain ⟨W1, hW1⟩ : ∃ W, wr.alloc (.cells #[.int .i64 0] 3) = W := ⟨_, rfl⟩
      have b1 : Below wr.heap.size wr W1 := by rw [← hW1]; exact below_alloc _ _
      have n1 : W1.heap[wr.heap.size]? = some (.cells #[.int .i64 0] 3 (0, 0)) := by rw [← hW1]; exact heap_alloc_new _ _
      have hlow : ∀ W, Lw W1.heap.size wr.heap.size wr.heap.size W1 W → Below wr.heap.size wr W := fun W hW => ⟨hW.os.trans b1.os, hW.tape.trans b1.tape, hW.output.trans b1.output, Nat.le_trans b1.size hW.size, fun q hq => (hW.low q (Nat.lt_of_lt_of_le hq b1.size) (by omega) (by omega)).trans (b1.block q hq)⟩
      have cp := puts_all (L := L) (U := U) (fv := .slice fa L.length fc) (B := W1.heap.size) (p := wr.heap.size) hln (fun x hx => by have := hFb x hx; omega) 10 (Nat.le_refl _) W1 (.slice oa acc.length oc) acc none 0 none 0 ⟨[], 0, []⟩ t (lt_some n1) (Nat.le_refl _) (fun W hW => (HF.out.below hB.out).below (hlow W hW)) (fun W hW => (owns_byt hO.out).below (hlow W hW)) hA3 ⟨World.ownsRow_nil _ _ _ _, World.ownsRow_nil _ _ _ _, n1, ⟨rfl, rfl, rfl, Nat.le_refl _, fun _ _ _ _ => rfl⟩⟩ ⟨by simp, by simp, by simp⟩ HPUT.out
      have cp2 : Calls Tryz.prog 41 #[.slice fa L.length fc, .slice none 0 0, .slice oa acc.length oc, .int .i64 0, .slice none 0 0, .pointer (some ⟨wr.heap.size, 0, none⟩)] W1 (PtQ W1 W1.heap.size wr.heap.size t) := cp
      have HLOW := Lib.hid hlow
      clear cp b1 n1 hlow
      subst hW1
      go_wp2_with fail
      refine cp2.mono ?_
      rintro e w3 ⟨oa2, oc2, fa2, fc2, rfl, ho, hfd, -, hl⟩
      have HB3 := Lib.hid (hB.out.trans ((HLOW.out _ hl).mono hB.out.size))
      have HO3 := Lib.hid ho
      have HF3 := Lib.hid hfd
      clear cp2 ho hfd hl
      go_wp2_with fail
      go_ret3
      exact ⟨oa2, oc2, fa2, fc2, rfl, owns_ov HO3.out, owns_os HF3.out, HB3.out⟩

set_option maxRecDepth 100000 in
set_option maxHeartbeats 16000000 in
theorem made_put {w : World} {A decl : List Bs} {av dv fv : Value} {L : List Fl} {U : List Value} (hA : Strs w av A) (hal : A.length ≤ 1000) (hax : ∀ x ∈ A, x.length ≤ 1000) (hd : Strs w dv decl) (hf : Fls w fv L U) :
    Calls Tryz.prog 27 #[.string ⟨#[112, 117, 116]⟩, av, dv, fv] w (MaQ w (joinS A ++ [10]) []) := by
  have HA := Lib.hid hA
  have HAX := Lib.hid hax
  have HZ : Hid (Value.string ⟨#[]⟩ = .string (mk (joinS (A.take 0)))) := Lib.hid rfl
  obtain ⟨aa, ac, rfl, -, -⟩ := hA
  obtain ⟨da, dc, rfl, -, -⟩ := hd
  obtain ⟨-, fa, fc, rfl, -, -⟩ := hf
  clear hax
  go_enter Tryz.func27, Tryz.ntmps27
  go_wp2_with fail
  go_loop [11, 12] (fun s i => ∃ (j : Nat) (P : Bs), j ≤ A.length ∧ i = .int .i64 j ∧ s = .string (mk P) ∧ Hid (P = joinS (A.take j)) ∧ Hid (P.length ≤ 1001 * j)) (fun _ i => A.length - (intOf i).toNat)
  case atStart => exact ⟨0, [], Nat.zero_le _, rfl, rfl, Lib.hid rfl, Lib.hid (Nat.le_refl _)⟩
  case round =>
    obtain ⟨j, P, hj, rfl, rfl, hP, hPl⟩ := hrel
    by_cases hlt : j < A.length
    · obtain ⟨a, hx⟩ : ∃ a, A[j]? = some a := ⟨_, List.getElem?_eq_getElem hlt⟩
      obtain ⟨g, off, c9, e, hg, hc⟩ := HA.out.lt hx
      cases e
      have hal2 := HAX.out a (List.mem_of_getElem? hx)
      have hi0 : (0 : Int) ≤ (j : Int) := by omega
      have hi1 : (j : Int) < (A.length : Int) := by omega
      have htk : A.take (j + 1) = A.take j ++ [a] := by rw [List.take_add_one, hx]; rfl
      have hl := hPl.out
      have z1 := mk_size P
      have z2 := mk_size a
      by_cases h0 : j = 0
      · subst h0
        rw [Nat.add_zero] at hc
        have HP2 : Hid (a = joinS (A.take (0 + 1))) := Lib.hid (by rw [htk, List.take_zero, List.nil_append, joinS_one])
        have e0 : P = [] := List.eq_nil_of_length_eq_zero (by omega)
        subst e0
        have e1 : mk ([] : Bs) ++ mk a = mk a := mk_append [] a
        have e2 : mk ([] : Bs) = ⟨#[]⟩ := rfl
        have s1 : ¬ 9223372036854775807 < (mk ([] : Bs)).size + (mk a).size := by rw [z2]; show ¬ _ < 0 + _; omega
        have HL2 : Hid (a.length ≤ 1001 * (0 + 1)) := Lib.hid (by omega)
        clear hx htk hal2 e2
        go_wp2_with fail
        go_round
        case rel => exact ⟨0 + 1, a, by omega, by go_num, rfl, HP2, HL2⟩
        case measure => simp [intOf] <;> omega
      · have hne : A.take j ≠ [] := by
          intro e
          have := congrArg List.length e
          rw [List.length_take, List.length_nil] at this
          omega
        have HP2 : Hid (P ++ [32] ++ a = joinS (A.take (j + 1))) := Lib.hid (by rw [htk, joinS_snoc a _ hne, ← hP.out]; simp)
        have e1 : mk P ++ ⟨#[32]⟩ = mk (P ++ [32]) := mk_append P [32]
        have e2 : mk (P ++ [32]) ++ mk a = mk (P ++ [32] ++ a) := mk_append _ _
        have z3 : (mk (P ++ [32])).size = P.length + 1 := by rw [mk_size, List.length_append]; rfl
        have z4 : (⟨#[32]⟩ : ByteArray).size = 1 := rfl
        have s1 : ¬ 9223372036854775807 < (mk P).size + (⟨#[32]⟩ : ByteArray).size := by rw [z1, z4]; omega
        have s2 : ¬ 9223372036854775807 < (mk (P ++ [32])).size + (mk a).size := by rw [z3, z2]; omega
        obtain ⟨P2, hP2⟩ : ∃ P2, P ++ [32] ++ a = P2 := ⟨_, rfl⟩
        have HL2 : Hid (P2.length ≤ 1001 * (j + 1)) := Lib.hid (by rw [← hP2, List.length_append, List.length_append]; show _ + 1 + _ ≤ _; omega)
        rw [hP2] at HP2 e2
        obtain ⟨P3, hP3⟩ : ∃ P3, P ++ [32] = P3 := ⟨_, rfl⟩
        rw [hP3] at e1 e2 s2
        have hi2 : (0 : Int) < (j : Int) := by omega
        clear hx htk hal2 hP2 hP3 hne z3 h0
        go_wp2_with fail
        go_round
        case rel => exact ⟨j + 1, P2, by omega, by go_num, rfl, HP2, HL2⟩
        case measure => simp [intOf] <;> omega
    · obtain rfl : j = A.length := by omega
      have HJ : Hid (P = joinS A) := Lib.hid (by rw [hP.out, List.take_length])
      have hl := hPl.out
      have hc2 : mk P ++ ⟨#[10]⟩ = mk (P ++ [10]) := mk_append _ [10]
      have hz2 : ¬ 9223372036854775807 < (mk P).size + (⟨#[10]⟩ : ByteArray).size := by
        rw [mk_size]
        have h1 : (⟨#[10]⟩ : ByteArray).size = 1 := rfl
        omega
      obtain ⟨s2, hs2⟩ : ∃ s2, P ++ [10] = s2 := ⟨_, rfl⟩
      rw [hs2] at hc2
      have HTS : Hid (joinS A ++ [10] = s2) := Lib.hid (by rw [← HJ.out]; exact hs2)
      obtain ⟨cap, w7, hcv, hov, hb7⟩ := conv_mk w s2
      have HOV := Lib.hid hov
      have HB7 := Lib.hid hb7
      clear hs2 hov hb7
      go_wp2_with fail
      go_ret3
      rw [HTS.out]
      exact ⟨_, cap, none, 0, rfl, HOV.out, strs_none _, HB7.out⟩

theorem made_all {w : World} {A decl : List Bs} {verb : Bs} {av dv fv : Value} {L : List Fl} {U : List Value} (hA : Strs w av A) (hal : A.length ≤ 1000) (hax : ∀ x ∈ A, x.length ≤ 1000) (hd : Strs w dv decl) (hdl : decl.length ≤ 1000000) (hf : Fls w fv L U) (hln : L.length ≤ 1000000) (hFb : ∀ x ∈ L, x.2.length ≤ 200) {b : Bs} {f : List Bs} (h : doneO hashT decl (fileL L) verb A = some (b, f)) :
    Calls Tryz.prog 27 #[.string (mk verb), av, dv, fv] w (MaQ w b f) := by
  rcases done_cases h with ⟨rfl, h1, rfl⟩ | ⟨rfl, a, x, rfl, h1, rfl, rfl⟩ | ⟨rfl, hne, x, h1, rfl, rfl⟩ | ⟨rfl, rfl, rfl⟩ | ⟨rfl, a, x, t, rfl, h1, h2, rfl, rfl⟩
  · exact made_cat hA hal hd hdl hf hln hFb h1
  · exact made_rev hA hal hd hdl hf hln hFb rfl h1
  · exact made_sum hA hal hd hdl hf hln hFb hne h1
  · exact made_put hA hal hax hd hf
  · exact made_inc hA hal hd hdl hf hln hFb rfl h1 h2
end Go.Proofs.YtgledabcfonbeaaGreatDoor.Df
