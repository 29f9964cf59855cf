/-
  A DEED: it counts, unless the disk is down, or goes down; its names are looked at; then what is to be done is done.
-/
import Derived.Test.YtfmelhcpccghdaaGreatSettle
namespace Go.Proofs.YtfmelhcpccghdaaGreat
open Go.RowKit Go.Maps

variable {X : Nat → Prop} {K : Nat} {w : World} {p : Nat} {q : Pl} {d : Ds}

/-- a row of names -/
def NRow (X : Nat → Prop) (w : World) (v : Value) (ns : List (List UInt8)) : Prop :=
  (v = .slice none 0 0 ∧ ns = []) ∨ ∃ g cap, v = .slice (some ⟨g, 0, none⟩) ns.length cap ∧ X g ∧ g < w.heap.size ∧ ∀ j l, ns[j]? = some l → w.cell? ⟨g, j, none⟩ = some (.string (mk l))

theorem NRow.same {v : Value} {ns : List (List UInt8)} {w' : World} (h : NRow X w v ns) (hs : Same X w w') : NRow X w' v ns := by
  rcases h with h | ⟨g, cap, rfl, hx, hl, hc⟩
  · exact .inl h
  · exact .inr ⟨g, cap, rfl, hx, Nat.lt_of_lt_of_le hl hs.size, fun j l hj => (hs.cell (p := ⟨g, j, none⟩) hl hx).trans (hc j l hj)⟩

def DeedQ (d : Ds) (ns : List (List UInt8)) (Q : Int → Ds → Prop) (n : Int) (d' : Ds) : Prop :=
  (d.up = false ∧ n = 8 ∧ d' = d) ∨ (d.up = true ∧ d.left = 0 ∧ n = 8 ∧ d' = { d with up := false }) ∨
  (d.up = true ∧ d.left ≠ 0 ∧ (∃ l ∈ ns, rightL l = false) ∧ n = 5 ∧ d' = spent d) ∨ (d.up = true ∧ d.left ≠ 0 ∧ (∀ l ∈ ns, rightL l = true) ∧ Q n d')

theorem spent_at {l' : Int} (h : DkAt X K w p q d) (hl : l' = if 0 < d.left then d.left - 1 else d.left) {w' : World} (hs : w'.heap.size = w.heap.size) (hb : ∀ k, k ≠ p → w'.heap[k]? = w.heap[k]?)
    (hr : w'.heap[p]? = some (.cells (rootC { d with left := l', deeds := d.deeds + 1 } q) 58 (0, 0))) : DkAt X (K + 1) w' p q (spent d) := by
  subst hl
  exact h.head (by omega) (fun k _ hk _ => hb k hk) hr (Nat.le_succ _) rfl rfl rfl rfl (by have := h.clock; show d.clock ≤ _; omega) (by have := h.deeds; show d.deeds + 1 ≤ _; omega) ⟨h.quota.1, by have := h.quota.2; show -9223372036854775808 ≤ (if 0 < d.left then d.left - 1 else d.left) ∧ (if 0 < d.left then d.left - 1 else d.left) ≤ 9223372036854775807; split <;> omega⟩

set_option maxRecDepth 100000 in
set_option maxHeartbeats 4000000 in
theorem deed_at {F : Nat} {cs : Array Value} {nv : Value} {ns : List (List UInt8)} {Q : Int → Ds → Prop} {K2 : Nat} (h : DkAt X K w p q d) (hK : K < 1000) (hK2 : K + 1 ≤ K2) (hn : NRow X w nv ns) (hns : ∀ l ∈ ns, l.length ≤ 1000000) (hcnt : ns.length ≤ 1000) (hcf : ∀ W, Sem.run Tryz.prog (callFunc F cs) W = .ok (.enter F cs) W)
    (hdo : ∀ w1, Same X w w1 → DkAt X (K + 1) w1 p q (spent d) → Calls Tryz.prog F cs w1 (Told X K2 w1 p Q)) :
    Calls Tryz.prog 42 #[.pointer (some ⟨p, 0, none⟩), .func (.func F) #[] cs, nv] w (Told X K2 w p (DeedQ d ns Q)) := by
  have hdn := down_at h
  obtain ⟨_, _, c2, c3, c4, _, _, _⟩ := h.cells
  have f2 := frozen_of h.root 2
  have f3 := frozen_of h.root 3
  have f4 := frozen_of h.root 4
  have hdd := h.deeds
  have hlb := h.quota.2.1
  have hub := h.quota.2.2
  have HD := Lib.hid h
  have HN := Lib.hid hn
  have HNS := Lib.hid hns
  have HDO := Lib.hid hdo
  have HCF := Lib.hid hcf
  clear h hn hns hdo hcf
  obtain ⟨na, ncap, rfl⟩ : ∃ a cap, nv = .slice a ns.length cap := by
    rcases HN.out with ⟨rfl, rfl⟩ | ⟨g, cap, rfl, _⟩
    · exact ⟨_, _, rfl⟩
    · exact ⟨_, _, rfl⟩
  generalize hL : ns.length = L at *
  have HL := Lib.hid hL
  clear hL
  cases hu : d.up with
  | false =>
    rw [hu] at hdn
    have HU := Lib.hid hu
    clear hu
    go_enter Tryz.func42, Tryz.ntmps42
    go_wp2_with (go_at_call 13; refine hdn.mono ?_; rintro e w' ⟨rfl, rfl⟩)
    go_ret
    exact ⟨8, d, rfl, Same.refl _ _, ⟨q, HD.out.mono (by omega)⟩, .inl ⟨HU.out, rfl, rfl⟩⟩
  | true =>
    rw [hu] at hdn
    have HU := Lib.hid hu
    clear hu
    by_cases hz : d.left = 0
    · have HZ := Lib.hid hz
      rw [hz] at c4
      clear hz
      go_enter Tryz.func42, Tryz.ntmps42
      go_wp2_with (go_at_call 13; refine hdn.mono ?_; rintro e w' ⟨rfl, rfl⟩)
      go_ret
      refine ⟨8, { d with up := false }, rfl, (Same.refl X w).set _ _ HD.out.offp, ⟨q, ?_⟩, .inr (.inl ⟨HU.out, HZ.out, rfl, rfl⟩)⟩
      exact HD.out.head (by simp [World.setCell]) (fun k _ hk _ => Below.heap_setCell _ _ _ _ hk) (heap_set_same HD.out.root 3 _) (by omega) rfl rfl rfl rfl (by have := HD.out.clock; show d.clock ≤ _; omega) (by show d.deeds ≤ _; omega) HD.out.quota
    · have hzz : (d.left == 0) = false := by simpa using hz
      have HZ := Lib.hid hz
      clear hz
      obtain ⟨w1, hw1⟩ : ∃ W, W = (if 0 < d.left then (w.setCell ⟨p, 4, none⟩ (.int .i64 (d.left - 1))) else w).setCell ⟨p, 2, none⟩ (.int .i64 ((d.deeds : Int) + 1)) := ⟨_, rfl⟩
      have key : Same X w w1 ∧ DkAt X (K + 1) w1 p q (spent d) := by
        subst hw1
        by_cases hp : 0 < d.left
        · rw [if_pos hp]
          refine ⟨((Same.refl X w).set _ _ HD.out.offp).set _ _ HD.out.offp, spent_at HD.out (l' := d.left - 1) (if_pos hp).symm (by simp [World.setCell]) (fun k hk => (Below.heap_setCell _ _ _ _ hk).trans (Below.heap_setCell _ _ _ _ hk)) ?_⟩
          exact heap_set_same (heap_set_same HD.out.root 4 _) 2 _
        · rw [if_neg hp]
          refine ⟨(Same.refl X w).set _ _ HD.out.offp, spent_at HD.out (l' := d.left) (if_neg hp).symm (by simp [World.setCell]) (fun k hk => Below.heap_setCell _ _ _ _ hk) ?_⟩
          exact heap_set_same HD.out.root 2 _
      have HW1 := Lib.hid hw1
      have HKEY := Lib.hid key
      clear hw1 key
      have hW : (w.setCell ⟨p, 4, none⟩ (.int .i64 (d.left - 1))).setCell ⟨p, 2, none⟩ (.int .i64 ((d.deeds : Int) + 1)) = w1 ∨ ¬ 0 < d.left := by
        by_cases hp : 0 < d.left
        · exact .inl (by rw [HW1.out, if_pos hp])
        · exact .inr hp
      have hW' : w.setCell ⟨p, 2, none⟩ (.int .i64 ((d.deeds : Int) + 1)) = w1 ∨ 0 < d.left := by
        by_cases hp : 0 < d.left
        · exact .inr hp
        · exact .inl (by rw [HW1.out, if_neg hp])
      have HWA := Lib.hid hW
      have HWB := Lib.hid hW'
      clear hW hW'
      by_cases hp : 0 < d.left
      all_goals
        first
          | (have hdp : decide (0 < d.left) = true := decide_eq_true hp
             have hW := HWA.out.resolve_right (fun h => h hp)
             have HW := Lib.hid hW
             clear hW
             go_enter Tryz.func42, Tryz.ntmps42
             go_wp2_with (go_at_call 13; refine hdn.mono ?_; rintro e w' ⟨rfl, rfl⟩)
             rw [HW.out])
          | (have hdp : decide (0 < d.left) = false := decide_eq_false hp
             have hW := HWB.out.resolve_right hp
             have HW := Lib.hid hW
             clear hW
             go_enter Tryz.func42, Tryz.ntmps42
             go_wp2_with (go_at_call 13; refine hdn.mono ?_; rintro e w' ⟨rfl, rfl⟩)
             rw [HW.out])
        clear HW c2 c3 c4 f2 f3 f4 hzz hdn hdd hlb hub
        go_loopw [40] (fun i wr => ∃ j : Nat, j ≤ L ∧ i = .int .i64 j ∧ Below w1.heap.size w1 wr ∧ Hid (∀ k l, k < j → ns[k]? = some l → rightL l = true)) (fun i _ => L - (intOf i).toNat)
        case atStart => exact ⟨0, Nat.zero_le _, rfl, Below.refl _ _, Lib.hid (fun k l hk => by omega)⟩
        case round =>
          obtain ⟨j, hj, rfl, hbr, hR⟩ := hrel
          by_cases hlt : j < L
          · obtain ⟨l, hl⟩ : ∃ l, ns[j]? = some l := ⟨ns[j]'(by have := HL.out; omega), List.getElem?_eq_getElem (by have := HL.out; omega)⟩
            have hmem : l ∈ ns := List.mem_of_getElem? hl
            have hll := HNS.out l hmem
            obtain ⟨g, rfl, hc⟩ : ∃ g, na = some ⟨g, 0, none⟩ ∧ wr.cell? ⟨g, j, none⟩ = some (.string (mk l)) := by
              rcases (HN.out.same HKEY.out.1) with ⟨_, e⟩ | ⟨g, cap, e, hx, hgl, hc⟩
              · rw [e] at hl; simp at hl
              · cases e; exact ⟨g, rfl, (hbr.cell (p := ⟨g, j, none⟩) hgl).trans (hc j l hl)⟩
            have hrc := right_c l (by omega) wr
            have HLL := Lib.hid hl
            have HMM := Lib.hid hmem
            clear hl hmem hll
            cases hr : rightL l with
            | true =>
              rw [hr] at hrc
              have HRR := Lib.hid hr
              clear hr
              go_wp2_with (go_at_call 65; refine hrc.mono ?_; rintro e w3 ⟨rfl, hb3⟩)
              go_roundw
              case rel =>
                refine ⟨j + 1, by omega, by go_num, hbr.trans (hb3.mono hbr.size), Lib.hid (fun k l' hk hl' => ?_)⟩
                by_cases hkj : k = j
                · subst hkj
                  rw [HLL.out] at hl'
                  cases hl'
                  exact HRR.out
                · exact hR.out k l' (by omega) hl'
              case measure => simp [intOf]; omega
            | false =>
              rw [hr] at hrc
              have HRR := Lib.hid hr
              clear hr
              go_wp2_with (go_at_call 65; refine hrc.mono ?_; rintro e w3 ⟨rfl, hb3⟩)
              go_ret
              refine ⟨5, spent d, rfl, HKEY.out.1.trans ((Same.of_below hbr).trans (Same.of_below hb3)), ⟨q, ((HKEY.out.2.keep hbr).keep hb3).mono hK2⟩, .inr (.inr (.inl ⟨HU.out, HZ.out, ⟨l, HMM.out, HRR.out⟩, rfl, rfl⟩))⟩
          · obtain rfl : j = L := by omega
            have hcall := HDO.out wr (HKEY.out.1.trans (Same.of_below hbr)) (HKEY.out.2.keep hbr)
            go_wp2_with fail
            rw [HCF.out wr, Oper.upon_enter]
            refine hcall.mono ?_
            rintro e w4 ⟨n, d', rfl, hs4, hd4, hq4⟩
            go_wp2
            go_ret
            refine ⟨n, d', rfl, (HKEY.out.1.trans (Same.of_below hbr)).trans hs4, hd4, .inr (.inr (.inr ⟨HU.out, HZ.out, fun l hl => ?_, hq4⟩))⟩
            obtain ⟨k, hk, rfl⟩ := List.mem_iff_getElem.1 hl
            exact hR.out k _ (by have := HL.out; omega) (List.getElem?_eq_getElem hk)

theorem cf38 (cs : Array Value) (W : World) : Sem.run Tryz.prog (callFunc 43 cs) W = .ok (.enter 43 cs) W := by kernel_rfl
end Go.Proofs.YtfmelhcpccghdaaGreat
