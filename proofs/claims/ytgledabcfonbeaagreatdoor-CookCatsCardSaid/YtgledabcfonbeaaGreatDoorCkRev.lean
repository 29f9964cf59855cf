/-
  slices.Reverse at bytes of the call's own.
-/
import Derived.Test.YtgledabcfonbeaaGreatDoorCkVerb
namespace Go.Proofs.YtgledabcfonbeaaGreatDoor.Df
open Go.RowKit Go.Maps Go.Proofs.YtgledabcfonbeaaGreatDoor

/-- the first i and the last i of r have changed places -/
def revI (r : Bs) (i : Nat) : Bs := (List.range r.length).map fun k => if k < i ∨ r.length - i ≤ k then r.getD (r.length - 1 - k) 0 else r.getD k 0
theorem revI_len (r : Bs) (i : Nat) : (revI r i).length = r.length := by simp [revI]
theorem revI_at {r : Bs} {i k : Nat} (hk : k < r.length) : (revI r i)[k]? = some (if k < i ∨ r.length - i ≤ k then r.getD (r.length - 1 - k) 0 else r.getD k 0) := by
  unfold revI
  rw [List.getElem?_map, List.getElem?_range hk]
  rfl
theorem revI_zero (r : Bs) : revI r 0 = r := by
  refine List.ext_getElem? fun k => ?_
  by_cases hk : k < r.length
  · rw [revI_at hk, if_neg (by omega), List.getElem?_eq_getElem hk, List.getD_eq_getElem?_getD, List.getElem?_eq_getElem hk]
    rfl
  · rw [List.getElem?_eq_none (by rw [revI_len]; omega), List.getElem?_eq_none (by omega)]
theorem revI_end (r : Bs) {i : Nat} (h : r.length ≤ 2 * i + 1) : revI r i = r.reverse := by
  refine List.ext_getElem? fun k => ?_
  by_cases hk : k < r.length
  · rw [revI_at hk, List.getElem?_reverse hk, List.getElem?_eq_getElem (by omega)]
    by_cases hc : k < i ∨ r.length - i ≤ k
    · rw [if_pos hc, List.getD_eq_getElem?_getD, List.getElem?_eq_getElem (by omega)]
      rfl
    · rw [if_neg hc, List.getD_eq_getElem?_getD, List.getElem?_eq_getElem hk]
      have : r.length - 1 - k = k := by omega
      simp only [this]
      rfl
  · rw [List.getElem?_eq_none (by rw [revI_len]; omega), List.getElem?_eq_none (by rw [List.length_reverse]; omega)]
theorem revI_step (r : Bs) {i : Nat} (h : 2 * i + 1 < r.length) : ((revI r i).set i (r.getD (r.length - 1 - i) 0)).set (r.length - 1 - i) (r.getD i 0) = revI r (i + 1) := by
  refine List.ext_getElem? fun k => ?_
  by_cases hk : k < r.length
  · rw [revI_at hk, List.getElem?_set, List.getElem?_set, revI_at hk, List.length_set, revI_len]
    by_cases h1 : r.length - 1 - i = k
    · rw [if_pos h1, if_pos (by omega), if_pos (by omega)]
      congr 2
      omega
    · rw [if_neg h1]
      by_cases h2 : i = k
      · rw [if_pos h2, if_pos (by omega), if_pos (by omega), h2]
      · rw [if_neg h2]
        congr 1
        by_cases hc : k < i ∨ r.length - i ≤ k
        · rw [if_pos hc, if_pos (by omega)]
        · rw [if_neg hc, if_neg (by omega)]
  · rw [List.getElem?_eq_none (by rw [List.length_set, List.length_set, revI_len]; omega), List.getElem?_eq_none (by rw [revI_len]; omega)]
theorem bytesV_set (r : Bs) (k : Nat) (b : UInt8) : (bytesV r).set k (.int .u8 (b.toNat : Int)) = bytesV (r.set k b) := by
  unfold bytesV
  rw [List.map_set]

set_option maxRecDepth 100000 in
set_option maxHeartbeats 8000000 in
theorem reverse_c {W : World} {base : Nat} {a : Option Addr} {c : Nat} {r : Bs} (h : W.ownsRow base 5 1 (.slice a r.length c) r.length (bytesV r)) (hl : r.length ≤ 1000000) :
    Calls Tryz.prog 63 #[.slice a r.length c] W fun e w' => e = .returned (.tuple #[]) ∧ w'.ownsRow base 5 1 (.slice a r.length c) r.length (bytesV r.reverse) ∧ W.grownBy w' (Value.slice a r.length c).ownBlock := by
  have HO := Lib.hid h
  have HR0 : Hid (W.ownsRow base 5 1 (.slice a r.length c) r.length (bytesV (revI r 0))) := Lib.hid (by rw [revI_zero]; exact h)
  clear h
  go_enter Tryz.func63, Tryz.ntmps63
  go_wp2_with fail
  go_loopw [2, 3] (fun i j wr => ∃ k : Nat, 2 * k ≤ r.length + 1 ∧ i = .int .i64 (k : Int) ∧ j = .int .i64 ((r.length : Int) - 1 - k) ∧ Hid (wr.ownsRow base 5 1 (.slice a r.length c) r.length (bytesV (revI r k))) ∧ Hid (W.grownBy wr (Value.slice a r.length c).ownBlock)) (fun i _ _ => r.length - (intOf i).toNat)
  case atStart => exact ⟨0, by omega, rfl, by simp, HR0, Lib.hid ⟨rfl, rfl, rfl, Nat.le_refl _, fun _ _ _ => rfl⟩⟩
  case round =>
    obtain ⟨k, hk, rfl, rfl, hR, hG⟩ := hrel
    by_cases hlt : 2 * k + 1 < r.length
    · have hlt2 : (k : Int) < (r.length : Int) - 1 - (k : Int) := by omega
      obtain ⟨jj, hjj⟩ : ∃ jj : Nat, (r.length : Int) - 1 - (k : Int) = (jj : Int) := ⟨r.length - 1 - k, by omega⟩
      have hjn : jj = r.length - 1 - k := by omega
      rw [hjj] at hlt2 ⊢
      have hval := hR.out.2
      obtain ⟨g, rfl⟩ : ∃ g, a = some ⟨g, 0, none⟩ := by
        rcases hval with ⟨e1, e2⟩ | ⟨g, cap, cur, e1, _⟩
        · omega
        · injection e1 with e1
          exact ⟨g, e1⟩
      clear hval
      have hst : ((revI r k).set k (r.getD jj 0)).set jj (r.getD k 0) = revI r (k + 1) := by rw [hjn]; exact revI_step r hlt
      have ck : wr.cell? ⟨g, k, none⟩ = some (.int .u8 ((r.getD k 0).toNat : Int)) := by
        refine (hR.out.cellAt k (by omega)).trans ?_
        unfold bytesV
        rw [List.getElem?_map, revI_at (by omega), if_neg (by omega)]
        rfl
      have cj : wr.cell? ⟨g, jj, none⟩ = some (.int .u8 ((r.getD jj 0).toNat : Int)) := by
        refine (hR.out.cellAt jj (by omega)).trans ?_
        unfold bytesV
        rw [List.getElem?_map, revI_at (by omega), if_neg (by omega)]
        rfl
      have zk := hR.out.frozenAt k
      have zj := hR.out.frozenAt jj
      generalize r.getD k 0 = x at *
      generalize r.getD jj 0 = y at *
      obtain ⟨h1, hg1⟩ := hR.out.stored k (.int .u8 (y.toNat : Int))
      obtain ⟨h2, hg2⟩ := h1.stored jj (.int .u8 (x.toNat : Int))
      rw [bytesV_set, bytesV_set, hst] at h2
      have cj2 : (wr.setCell ⟨g, k, none⟩ (.int .u8 (y.toNat : Int))).cell? ⟨g, jj, none⟩ = some (.int .u8 (y.toNat : Int)) := by
        rw [World.cell?_setCell_other _ _ _ _ (by intro e; injection e with _ e; omega)]
        exact cj
      have zj2 := h1.frozenAt jj
      have HS2 : Hid (((wr.setCell ⟨g, k, none⟩ (.int .u8 (y.toNat : Int))).setCell ⟨g, jj, none⟩ (.int .u8 (x.toNat : Int))).drew.ownsRow base 5 1 (.slice (some ⟨g, 0, none⟩) r.length c) r.length (bytesV (revI r (k + 1)))) := Lib.hid h2
      have HG2 : Hid (W.grownBy ((wr.setCell ⟨g, k, none⟩ (.int .u8 (y.toNat : Int))).setCell ⟨g, jj, none⟩ (.int .u8 (x.toNat : Int))).drew (Value.slice (some ⟨g, 0, none⟩) r.length c).ownBlock) := Lib.hid (by
        have hG := hG.out
        exact ⟨hG.os, hG.tape, hG.output, by show W.heap.size ≤ ((wr.setCell ⟨g, k, none⟩ _).setCell ⟨g, jj, none⟩ _).heap.size; rw [World.size_setCell, World.size_setCell]; exact hG.size, fun q hq hne => by
          have hqg : q ≠ g := fun e => hne (by rw [e]; rfl)
          exact ((set_other hqg).trans (set_other hqg)).trans (hG.block q hq hne)⟩)
      have hk0 : (0 : Int) ≤ (k : Int) := by omega
      have hk1 : (k : Int) < (r.length : Int) := by omega
      have hj0 : (0 : Int) ≤ (jj : Int) := by omega
      have hj1 : (jj : Int) < (r.length : Int) := by omega
      have HJ := Lib.hid hjj
      clear hst h1 h2 hg1 hg2 hjj hjn
      go_wp2_with fail
      go_region
      go_wp2_with fail
      go_roundw
      case rel =>
        have hq := HJ.out
        exact ⟨k + 1, by omega, by go_num, congrArg (Value.int .i64) (by omega), HS2, HG2⟩
      case measure => simp [intOf] <;> omega
    · have hlt2 : ¬ (k : Int) < (r.length : Int) - 1 - (k : Int) := by omega
      have HE : Hid (revI r k = r.reverse) := Lib.hid (revI_end r (by omega))
      go_wp2_with fail
      go_end0
      rw [← HE.out]
      exact ⟨rfl, hR.out, hG.out⟩
end Go.Proofs.YtgledabcfonbeaaGreatDoor.Df
