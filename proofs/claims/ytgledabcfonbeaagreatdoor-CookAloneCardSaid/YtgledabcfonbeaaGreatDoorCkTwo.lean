/-
  verbs, cut, names that are paths, and differ.
-/
import Derived.Test.YtgledabcfonbeaaGreatDoorCkJ5
namespace Go.Proofs.YtgledabcfonbeaaGreatDoor.Df
open Go.RowKit Go.Maps Go.Proofs.YtgledabcfonbeaaGreatDoor

/-! ### what each verb does -/
def verbF : Bs → Option Nat :=
  upd (upd (upd (upd (upd (upd (fun _ => none) [99, 97, 116] (some 46)) [114, 101, 118] (some 47)) [115, 117, 109] (some 48)) [112, 117, 116] (some 49)) [105, 110, 99] (some 50)) [102, 97, 105, 108] (some 51)

set_option maxRecDepth 100000 in
set_option maxHeartbeats 4000000 in
theorem verbs_c (w : World) : Calls Tryz.prog 33 #[] w fun e w' => ∃ m, e = .returned (.map (some m)) ∧ Fi w' 6 m verbF ∧ w.heap.size ≤ m ∧ Below w.heap.size w w' := by
  have hmk := @run_makeMap Tryz.prog
  obtain ⟨w0, hw0⟩ : ∃ W, w.alloc (.map #[] 0) = W := ⟨_, rfl⟩
  have hb0 : Below w.heap.size w w0 := by rw [← hw0]; exact below_alloc _ _
  have h0 : Fi w0 0 w.heap.size (fun _ => none) := by rw [← hw0]; exact Fi.made w
  obtain ⟨m, hm⟩ : ∃ m, w.heap.size = m := ⟨_, rfl⟩
  rw [hm] at h0
  have up : ∀ {W W' : World}, Below w.heap.size w W → W.grownBy W' (some m) → Below w.heap.size w W' := fun {W W'} hB hg => hB.trans ⟨hg.os, hg.tape, hg.output, hg.size, fun q hq => hg.block q (by have := hB.size; omega) (fun e => by have := Option.some.inj e; omega)⟩
  obtain ⟨w1, r1, h1, g1, -⟩ := h0.put (by unfold maxLen; omega) (s := [99, 97, 116]) (by unfold maxLen; simp) 46
  obtain ⟨w2, r2, h2, g2, -⟩ := h1.put (by unfold maxLen; omega) (s := [114, 101, 118]) (by unfold maxLen; simp) 47
  obtain ⟨w3, r3, h3, g3, -⟩ := h2.put (by unfold maxLen; omega) (s := [115, 117, 109]) (by unfold maxLen; simp) 48
  obtain ⟨w4, r4, h4, g4, -⟩ := h3.put (by unfold maxLen; omega) (s := [112, 117, 116]) (by unfold maxLen; simp) 49
  obtain ⟨w5, r5, h5, g5, -⟩ := h4.put (by unfold maxLen; omega) (s := [105, 110, 99]) (by unfold maxLen; simp) 50
  obtain ⟨w6, r6, h6, g6, -⟩ := h5.put (by unfold maxLen; omega) (s := [102, 97, 105, 108]) (by unfold maxLen; simp) 51
  have hb6 := up (up (up (up (up (up hb0 g1) g2) g3) g4) g5) g6
  have H6 := Lib.hid h6
  have HB := Lib.hid hb6
  have HM := Lib.hid hm
  have p1 : (Instr.mapUpdate 78 (.map (some m)) (.string ⟨#[99, 97, 116]⟩) (.func (.func 46) #[] #[])).run Tryz.prog w0 = .ok () w1 := r1
  have p2 : (Instr.mapUpdate 78 (.map (some m)) (.string ⟨#[114, 101, 118]⟩) (.func (.func 47) #[] #[])).run Tryz.prog w1 = .ok () w2 := r2
  have p3 : (Instr.mapUpdate 78 (.map (some m)) (.string ⟨#[115, 117, 109]⟩) (.func (.func 48) #[] #[])).run Tryz.prog w2 = .ok () w3 := r3
  have p4 : (Instr.mapUpdate 78 (.map (some m)) (.string ⟨#[112, 117, 116]⟩) (.func (.func 49) #[] #[])).run Tryz.prog w3 = .ok () w4 := r4
  have p5 : (Instr.mapUpdate 78 (.map (some m)) (.string ⟨#[105, 110, 99]⟩) (.func (.func 50) #[] #[])).run Tryz.prog w4 = .ok () w5 := r5
  have p6 : (Instr.mapUpdate 78 (.map (some m)) (.string ⟨#[102, 97, 105, 108]⟩) (.func (.func 51) #[] #[])).run Tryz.prog w5 = .ok () w6 := r6
  clear hb0 h0 up h1 h2 h3 h4 h5 h6 g1 g2 g3 g4 g5 g6 r1 r2 r3 r4 r5 r6 hb6
  go_enter Tryz.func33, Tryz.ntmps33
  go_wp2_with fail
  go_ret
  exact ⟨m, rfl, H6.out, Nat.le_of_eq HM.out, HB.out⟩

/-! ### words, parted at a sign -/
def cutW (s : Bs) : List Bs → List Bs × List Bs × Bool
  | [] => ([], [], false)
  | x :: r => if x = s then ([], r, true) else (x :: (cutW s r).1, (cutW s r).2.1, (cutW s r).2.2)
theorem cutW_idx (s : Bs) : ∀ (K : List Bs) (i : Nat), (Lib.idxFromS (K.map mk) (mk s) i = -1 ∧ cutW s K = (K, [], false)) ∨ ∃ k, Lib.idxFromS (K.map mk) (mk s) i = ((i + k : Nat) : Int) ∧ k < K.length ∧ cutW s K = (K.take k, K.drop (k + 1), true)
  | [], i => .inl ⟨rfl, rfl⟩
  | x :: r, i => by
    by_cases h : x = s
    · subst h
      exact .inr ⟨0, by simp [Lib.idxFromS], by simp, by simp [cutW]⟩
    · have hne : mk x ≠ mk s := fun e => h (mk_inj e)
      rcases cutW_idx s r (i + 1) with ⟨h1, h2⟩ | ⟨k, h1, h2, h3⟩
      · refine .inl ⟨by rw [List.map_cons, Lib.idxFromS, if_neg hne]; exact h1, ?_⟩
        rw [cutW, if_neg h, h2]
      · refine .inr ⟨k + 1, ?_, by simp; omega, ?_⟩
        · rw [List.map_cons, Lib.idxFromS, if_neg hne, h1]
          congr 1
          omega
        · rw [cutW, if_neg h, h3]
          simp

theorem index_c {w : World} {v : Value} {K : List Bs} (s : Bs) (h : Strs w v K) (hl : K.length ≤ 1000000) :
    Calls Tryz.prog 45 #[v, .string (mk s)] w fun e w' => e = .returned (.int .i64 (Lib.idxOfS (K.map mk) (mk s))) ∧ w' = w := by
  obtain ⟨a, c, rfl, hc, hrow⟩ := h
  rcases hrow with rfl | ⟨g, off, rfl, hg, hcell⟩
  · exact shslicesIndexstringempty a c (mk s) w
  · have := shslicesIndexstring g off K.length c (K.map mk) (mk s) w (by simp) (by omega) (fun j hj => by
      rw [List.length_map] at hj
      rw [hcell j _ (List.getElem?_eq_getElem hj)]
      simp [List.getD, hj])
    rw [List.take_of_length_le (by simp)] at this
    exact this

/-- what cut hands back -/
def CuQ (w : World) (v : Value) (r : List Bs × List Bs × Bool) (e : Ending) (w' : World) : Prop :=
  ∃ va vb, e = .returned (.tuple #[va, vb, .bool r.2.2]) ∧ Strs w va r.1 ∧ Strs w vb r.2.1 ∧ (∃ n, w' = w.drewN n) ∧ va.ownBlock = v.ownBlock ∧ (vb.ownBlock = v.ownBlock ∨ vb.ownBlock = none)

set_option maxRecDepth 100000 in
set_option maxHeartbeats 4000000 in
theorem cut_c {w : World} {v : Value} {K : List Bs} (s : Bs) (h : Strs w v K) (hl : K.length ≤ 1000000) : Calls Tryz.prog 31 #[v, .string (mk s)] w (CuQ w v (cutW s K)) := by
  have hi := index_c s h hl
  have hk := cutW_idx s K 0
  have hd : Lib.idxOfS (K.map mk) (mk s) = Lib.idxFromS (K.map mk) (mk s) 0 := rfl
  rw [hd] at hi
  generalize Lib.idxFromS (K.map mk) (mk s) 0 = z at *
  have HS := Lib.hid h
  obtain ⟨a, c, rfl, hc, hrow⟩ := h
  rcases hk with ⟨rfl, hcw⟩ | ⟨k, rfl, hkl, hcw⟩
  · have HC := Lib.hid hcw
    clear hcw hd hrow
    go_enter Tryz.func31, Tryz.ntmps31
    go_wp2_with fail
    refine hi.mono ?_
    rintro e w1 ⟨rfl, rfl⟩
    clear hi
    go_wp2_with fail
    go_ret3
    rw [HC.out]
    exact ⟨_, _, rfl, HS.out, ⟨none, 0, rfl, Nat.le_refl _, .inl rfl⟩, ⟨0, rfl⟩, rfl, .inr rfl⟩
  · have HC := Lib.hid hcw
    rw [Nat.zero_add] at hi
    have hkc : (k : Int) ≤ (c : Int) := by omega
    have hkc1 : (k : Int) + 1 ≤ (K.length : Int) := by omega
    rcases hrow with h0 | ⟨g, off, rfl, hg, hcell⟩
    · rw [h0] at hkl; simp at hkl
    have HCL := Lib.hid hcell
    clear hcw hd hcell
    go_enter Tryz.func31, Tryz.ntmps31
    go_wp2_with fail
    refine hi.mono ?_
    rintro e w1 ⟨rfl, rfl⟩
    clear hi
    have hA : ∀ W : World, W.heap = w1.heap → Strs W (.slice (some ⟨g, off, none⟩) k c) (K.take k) := fun W hW => ⟨_, c, by rw [List.length_take, Nat.min_eq_left (by omega)], by rw [List.length_take]; omega, .inr ⟨g, off, rfl, by rw [hW]; exact hg, fun j p hp => by
      rw [List.getElem?_take] at hp
      split at hp
      · exact (cell_of_block (by rw [hW])).trans (HCL.out j p hp)
      · cases hp⟩⟩
    have hB : ∀ W : World, W.heap = w1.heap → ¬ c = k + 1 → Strs W (.slice (some ⟨g, off + (k + 1), none⟩) (K.length - (k + 1)) (c - (k + 1))) (K.drop (k + 1)) := fun W hW _ => ⟨_, _, by rw [List.length_drop], by rw [List.length_drop]; omega, .inr ⟨g, _, rfl, by rw [hW]; exact hg, fun j p hp => by
      rw [List.getElem?_drop] at hp
      rw [Nat.add_assoc]
      exact (cell_of_block (by rw [hW])).trans (HCL.out _ p hp)⟩⟩
    have hB0 : c = k + 1 → K.drop (k + 1) = [] ∧ K.length - (k + 1) = 0 := fun h => ⟨List.drop_eq_nil_of_le (by omega), by omega⟩
    have HA := Lib.hid hA
    have HB := Lib.hid hB
    have HB0 := Lib.hid hB0
    clear hA hB hB0
    go_wp2_with fail
    go_quiet (fail)
    go_wp2_with fail
    · rename_i h
      go_ret3
      rw [HC.out]
      obtain ⟨e1, e2⟩ := HB0.out h
      subst h
      refine ⟨_, _, rfl, HA.out _ rfl, ?_, ⟨_, rfl⟩, rfl, .inl rfl⟩
      show Strs _ _ (K.drop (k + 1))
      rw [e1, e2]
      exact ⟨_, _, rfl, Nat.le_refl _, .inl rfl⟩
    · rename_i h
      go_ret3
      rw [HC.out]
      exact ⟨_, _, rfl, HA.out _ rfl, HB.out _ rfl h, ⟨_, rfl⟩, rfl, .inl rfl⟩

/-! ### names that are paths -/
def badL (s : Bs) : Bool := !rightL s
set_option maxHeartbeats 1000000 in
theorem arePath1_c (s : Bs) (hs : s.length ≤ 9223372036854775807) (w : World) : Calls Tryz.prog 52 #[.string (mk s)] w fun e w' => e = .returned (.bool (badL s)) ∧ Below w.heap.size w w' := by
  have hr := right_c s hs w
  unfold badL
  generalize rightL s = z at *
  go_enter Tryz.func52, Tryz.ntmps52
  go_wp2_with fail
  refine hr.mono ?_
  rintro e w1 ⟨rfl, hb⟩
  go_wp2_with fail
  go_ret
  exact ⟨rfl, hb⟩

set_option maxHeartbeats 4000000 in
theorem indexP_c {w : World} {dv : Value} {l : List Bs} (h : Strs w dv l) (hl : l.length ≤ 1000000) (hx : ∀ x ∈ l, x.length ≤ 1000000) :
    Calls Tryz.prog 71 #[dv, .func (.func 52) #[] #[]] w fun e w' => (∃ z : Int, e = .returned (.int .i64 z) ∧ decide (0 ≤ z) = l.any badL) ∧ Below w.heap.size w w' := by
  obtain ⟨a, c, rfl, hc, hrow⟩ := h
  have HROW := Lib.hid hrow
  have HX := Lib.hid hx
  clear hrow hx
  go_enter Tryz.func71, Tryz.ntmps71
  go_wp2_with fail
  go_loopw [5, 8] (fun _ i wr => ∃ j : Nat, j ≤ l.length ∧ i = .int .i64 j ∧ Hid ((l.take j).any badL = false) ∧ Hid (Below w.heap.size w wr)) (fun _ i _ => l.length - (intOf i).toNat)
  case atStart => exact ⟨0, Nat.zero_le _, rfl, Lib.hid (by simp), Lib.hid (Below.refl _ _)⟩
  case round =>
    obtain ⟨j, hj, rfl, hA, hB⟩ := hrel
    by_cases hlt : j < l.length
    · have hx := List.getElem?_eq_getElem hlt
      have htk : (l.take (j + 1)).any badL = ((l.take j).any badL || badL l[j]) := by
        rw [List.take_add_one, hx, List.any_append]
        generalize l[j] = y
        simp
      have hmem : l[j] ∈ l := List.getElem_mem hlt
      rcases HROW.out with h0 | ⟨b, off, rfl, hb, hcell⟩
      · rw [h0] at hlt; simp at hlt
      have hc0 : wr.cell? ⟨b, off + j, none⟩ = some (.string (mk l[j])) := (cell_of_block (hB.out.block b hb)).trans (hcell j _ hx)
      generalize l[j] = s at *
      have cl := arePath1_c s (by have := HX.out _ hmem; omega) wr
      have HTK := Lib.hid htk
      have HMEM := Lib.hid hmem
      have hi0 : (0 : Int) ≤ (j : Int) := by omega
      have hi1 : (j : Int) < (l.length : Int) := by omega
      clear hcell hx htk hmem
      cases hz : badL s with
      | true =>
        rw [hz] at cl
        have HZ := Lib.hid hz
        clear hz
        go_wp2_with fail
        refine cl.mono ?_
        rintro e w1 ⟨rfl, hb1⟩
        have HB1 := Lib.hid (hB.out.trans (hb1.mono hB.out.size))
        clear cl hb1
        go_wp2_with fail
        go_ret
        refine ⟨⟨(j : Int), rfl, ?_⟩, HB1.out⟩
        rw [decide_eq_true (by omega)]
        symm
        rw [List.any_eq_true]
        exact ⟨s, HMEM.out, HZ.out⟩
      | false =>
        rw [hz] at cl
        have HZ := Lib.hid hz
        clear hz
        go_wp2_with fail
        refine cl.mono ?_
        rintro e w1 ⟨rfl, hb1⟩
        have HB1 := Lib.hid (hB.out.trans (hb1.mono hB.out.size))
        clear cl hb1
        go_wp2_with fail
        go_roundw
        case rel => exact ⟨j + 1, by omega, by go_num, Lib.hid (by rw [HTK.out, hA.out, HZ.out]; rfl), HB1⟩
        case measure => simp [intOf] <;> omega
    · obtain rfl : j = l.length := by omega
      rw [List.take_length] at hA
      go_wp2_with fail
      go_ret
      exact ⟨⟨-1, rfl, by rw [hA.out]; rfl⟩, hB.out⟩

theorem containsP_c {w : World} {dv : Value} {l : List Bs} (h : Strs w dv l) (hl : l.length ≤ 1000000) (hx : ∀ x ∈ l, x.length ≤ 1000000) :
    Calls Tryz.prog 54 #[dv, .func (.func 52) #[] #[]] w fun e w' => e = .returned (.bool (l.any badL)) ∧ Below w.heap.size w w' := by
  have hi := indexP_c h hl hx
  obtain ⟨z0, hz0⟩ : ∃ z, l.any badL = z := ⟨_, rfl⟩
  rw [hz0] at hi ⊢
  obtain ⟨a, c, rfl, -, -⟩ := h
  clear hz0 hx
  go_enter Tryz.func54, Tryz.ntmps54
  go_wp2_with fail
  refine hi.mono ?_
  rintro e w1 ⟨⟨z, rfl, hz⟩, hb⟩
  have HB := Lib.hid hb
  clear hi hb
  go_wp2_with fail
  go_ret
  exact ⟨rfl, HB.out⟩


theorem any_bad (K : List Bs) : (!K.any badL) = K.all rightL := by
  unfold badL
  rw [List.not_any_eq_all_not]
  simp
theorem arePaths_c {w : World} {dv : Value} {l : List Bs} (h : Strs w dv l) (hl : l.length ≤ 1000000) (hx : ∀ x ∈ l, x.length ≤ 1000000) :
    Calls Tryz.prog 34 #[dv] w fun e w' => e = .returned (.bool (l.all rightL)) ∧ Below w.heap.size w w' := by
  have hc := containsP_c h hl hx
  rw [← any_bad]
  generalize l.any badL = z at *
  clear h hx
  go_enter Tryz.func34, Tryz.ntmps34
  go_wp2_with fail
  refine hc.mono ?_
  rintro e w1 ⟨rfl, hb⟩
  have HB := Lib.hid hb
  clear hc hb
  go_wp2_with fail
  go_ret
  exact ⟨rfl, HB.out⟩
end Go.Proofs.YtgledabcfonbeaaGreatDoor.Df
