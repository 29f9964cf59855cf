/-
  Print, and the document's: walked.
-/
import Derived.Test.YtgledabcfonbeaaGreatDoorCkJ11
import Derived.Test.YtgledabcfonbeaaGreatDoorPaRef
namespace Go.Proofs.YtgledabcfonbeaaGreatDoor.Df
open Go.RowKit Go.Proofs.YtgledabcfonbeaaGreatDoor

/-- a text of an output and names -/
def txt (out : Bs) (K : List Bs) : Bs := out ++ 58 :: K.flatMap (fun d => 32 :: d)
theorem txt_nil (out : Bs) : txt out [] = out ++ [58] := by simp [txt]
theorem txt_take {out : Bs} {K : List Bs} {j : Nat} {x : Bs} (h : K[j]? = some x) : txt out (K.take (j + 1)) = txt out (K.take j) ++ (32 :: x) := by
  rw [List.take_add_one, h]
  simp [txt]
theorem txt_len {out : Bs} {K : List Bs} (ho : out.length ≤ 200) (hx : ∀ x ∈ K, x.length ≤ 100) : ∀ j, j ≤ K.length → (txt out (K.take j)).length ≤ 201 + 101 * j
  | 0, _ => by simp [txt]; omega
  | j + 1, h => by
    have hj := List.getElem?_eq_getElem (show j < K.length by omega)
    rw [txt_take hj]
    have h1 := txt_len ho hx j (by omega)
    have h2 := hx _ (List.getElem_mem (show j < K.length by omega))
    simp
    omega

set_option maxHeartbeats 1000000 in
theorem print1_c (s : Bs) (hs : s.length ≤ 9223372036854775807) (w : World) : Calls Tryz.prog 55 #[.string (mk s)] w fun e w' => e = .returned (.bool (badL s)) ∧ Below w.heap.size w w' := by
  have hr := right_c s hs w
  unfold badL
  generalize rightL s = z at *
  go_enter Tryz.func55, Tryz.ntmps55
  go_wp2_with fail
  refine hr.mono ?_
  rintro e w1 ⟨rfl, hb⟩
  go_wp2_with fail
  go_ret
  exact ⟨rfl, hb⟩

set_option maxHeartbeats 1000000 in
theorem refRight_c (s : Bs) (hs : s.length ≤ 9223372036854775807) (w : World) : Calls Tryz.prog 38 #[.string (mk s)] w fun e w' => e = .returned (.bool (rightL s)) ∧ Below w.heap.size w w' := by
  have hcl := refClean_c s hs w
  have hr : rightL s = (decide ((cleanL s).2 = 0) && decide ((cleanL s).1 = s)) := rfl
  have hlen := cleanL_len s
  obtain ⟨⟨c, e⟩, hC⟩ : ∃ C, cleanL s = C := ⟨_, rfl⟩
  rw [hC] at hcl hr hlen
  have HR := Lib.hid hr
  clear hr hC
  go_enter Tryz.func38, Tryz.ntmps38
  go_wp2_with fail
  refine hcl.mono ?_
  rintro e w1 ⟨rfl, hb⟩
  go_wp2
  all_goals go_ret
  all_goals refine ⟨?_, hb⟩
  all_goals rw [HR.out]
  · rename_i h
    rw [cmpS, decide_eq_true h, Bool.true_and]
    rfl
  · rename_i h
    rw [decide_eq_false h, Bool.false_and]
    rfl

set_option maxHeartbeats 4000000 in
theorem indexF_c {w : World} {dv : Value} {l : List Bs} (h : Strs w dv l) (hl : l.length ≤ 1000000) (hx : ∀ x ∈ l, x.length ≤ 1000000) :
    Calls Tryz.prog 71 #[dv, .func (.func 55) #[] #[]] w fun e w' => (∃ z : Int, e = .returned (.int .i64 z) ∧ decide (0 ≤ z) = l.any badL) ∧ Below w.heap.size w w' := by
  obtain ⟨a, c, rfl, hc, hrow⟩ := h
  have HROW := Lib.hid hrow
  have HX := Lib.hid hx
  clear hrow hx
  go_enter Tryz.func71, Tryz.ntmps71
  go_wp2_with fail
  go_loopw [5, 8] (fun _ i wr => ∃ j : Nat, j ≤ l.length ∧ i = .int .i64 j ∧ Hid ((l.take j).any badL = false) ∧ Hid (Below w.heap.size w wr)) (fun _ i _ => l.length - (intOf i).toNat)
  case atStart => exact ⟨0, Nat.zero_le _, rfl, Lib.hid (by simp), Lib.hid (Below.refl _ _)⟩
  case round =>
    obtain ⟨j, hj, rfl, hA, hB⟩ := hrel
    by_cases hlt : j < l.length
    · have hx := List.getElem?_eq_getElem hlt
      have htk : (l.take (j + 1)).any badL = ((l.take j).any badL || badL l[j]) := by
        rw [List.take_add_one, hx, List.any_append]
        generalize l[j] = y
        simp
      have hmem : l[j] ∈ l := List.getElem_mem hlt
      rcases HROW.out with h0 | ⟨b, off, rfl, hb, hcell⟩
      · rw [h0] at hlt; simp at hlt
      have hc0 : wr.cell? ⟨b, off + j, none⟩ = some (.string (mk l[j])) := (cell_of_block (hB.out.block b hb)).trans (hcell j _ hx)
      generalize l[j] = s at *
      have cl := print1_c s (by have := HX.out _ hmem; omega) wr
      have HTK := Lib.hid htk
      have HMEM := Lib.hid hmem
      have hi0 : (0 : Int) ≤ (j : Int) := by omega
      have hi1 : (j : Int) < (l.length : Int) := by omega
      clear hcell hx htk hmem
      cases hz : badL s with
      | true =>
        rw [hz] at cl
        have HZ := Lib.hid hz
        clear hz
        go_wp2_with fail
        refine cl.mono ?_
        rintro e w1 ⟨rfl, hb1⟩
        have HB1 := Lib.hid (hB.out.trans (hb1.mono hB.out.size))
        clear cl hb1
        go_wp2_with fail
        go_ret
        refine ⟨⟨(j : Int), rfl, ?_⟩, HB1.out⟩
        rw [decide_eq_true (by omega)]
        symm
        rw [List.any_eq_true]
        exact ⟨s, HMEM.out, HZ.out⟩
      | false =>
        rw [hz] at cl
        have HZ := Lib.hid hz
        clear hz
        go_wp2_with fail
        refine cl.mono ?_
        rintro e w1 ⟨rfl, hb1⟩
        have HB1 := Lib.hid (hB.out.trans (hb1.mono hB.out.size))
        clear cl hb1
        go_wp2_with fail
        go_roundw
        case rel => exact ⟨j + 1, by omega, by go_num, Lib.hid (by rw [HTK.out, hA.out, HZ.out]; rfl), HB1⟩
        case measure => simp [intOf] <;> omega
    · obtain rfl : j = l.length := by omega
      rw [List.take_length] at hA
      go_wp2_with fail
      go_ret
      exact ⟨⟨-1, rfl, by rw [hA.out]; rfl⟩, hB.out⟩

theorem containsF_c {w : World} {dv : Value} {l : List Bs} (h : Strs w dv l) (hl : l.length ≤ 1000000) (hx : ∀ x ∈ l, x.length ≤ 1000000) :
    Calls Tryz.prog 54 #[dv, .func (.func 55) #[] #[]] w fun e w' => e = .returned (.bool (l.any badL)) ∧ Below w.heap.size w w' := by
  have hi := indexF_c h hl hx
  obtain ⟨z0, hz0⟩ : ∃ z, l.any badL = z := ⟨_, rfl⟩
  rw [hz0] at hi ⊢
  obtain ⟨a, c, rfl, -, -⟩ := h
  clear hz0 hx
  go_enter Tryz.func54, Tryz.ntmps54
  go_wp2_with fail
  refine hi.mono ?_
  rintro e w1 ⟨⟨z, rfl, hz⟩, hb⟩
  have HB := Lib.hid hb
  clear hi hb
  go_wp2_with fail
  go_ret
  exact ⟨rfl, HB.out⟩

set_option maxHeartbeats 4000000 in
theorem refPrint_c {w : World} {dv : Value} {K : List Bs} (out : Bs) (h : Strs w dv K) (hl : K.length ≤ 1000) (ho : out.length ≤ 200) (hx : ∀ x ∈ K, x.length ≤ 100) :
    Calls Tryz.prog 28 #[.string (mk out), dv] w fun e w' => e = .returned (.string (mk (txt out K ++ [10]))) ∧ w = w' := by
  obtain ⟨a, c, rfl, hc, hrow⟩ := h
  have HROW := Lib.hid hrow
  have HX := Lib.hid hx
  have HTL := Lib.hid (fun j hj => txt_len (j := j) ho hx hj)
  have hs0 := mk_size out
  have hc0 : mk out ++ ⟨#[58]⟩ = mk (txt out (K.take 0)) := (mk_append out [58]).trans (by rw [List.take_zero, txt_nil])
  clear hrow hx
  go_enter Tryz.func28, Tryz.ntmps28
  go_wp2_with fail
  go_loopw [5, 6] (fun s i wr => ∃ j : Nat, j ≤ K.length ∧ i = .int .i64 j ∧ s = .string (mk (txt out (K.take j))) ∧ w = wr) (fun _ i _ => K.length - (intOf i).toNat)
  case atStart => exact ⟨0, Nat.zero_le _, rfl, rfl, rfl⟩
  case round =>
    obtain ⟨j, hj, rfl, rfl, rfl⟩ := hrel
    clear hc0 hs0
    by_cases hlt : j < K.length
    · have hx := List.getElem?_eq_getElem hlt
      have hmem := HX.out _ (List.getElem_mem hlt)
      rcases HROW.out with h0 | ⟨b, off, rfl, hb, hcell⟩
      · rw [h0] at hlt; simp at hlt
      have hc0 := hcell j _ hx
      have hnx := txt_take (out := out) hx
      have hl1 := HTL.out j hj
      generalize K[j] = x at *
      generalize txt out (K.take j) = T at *
      have HN := Lib.hid hnx
      have hi0 : (0 : Int) ≤ (j : Int) := by omega
      have hi1 : (j : Int) < (K.length : Int) := by omega
      have e1 : (⟨#[32]⟩ : ByteArray) ++ mk x = mk (32 :: x) := mk_append [32] x
      have e2 : mk T ++ mk (32 :: x) = mk (T ++ 32 :: x) := mk_append _ _
      have z1 := mk_size T
      have z2 := mk_size (32 :: x)
      have z3 := mk_size x
      rw [List.length_cons] at z2
      clear hcell hx hnx
      go_wp2_with fail
      go_roundw
      case rel => exact ⟨j + 1, by omega, by go_num, by rw [HN.out], trivial⟩
      case measure => simp [intOf] <;> omega
    · obtain rfl : j = K.length := by omega
      have hl1 := HTL.out K.length hj
      rw [List.take_length] at hl1 ⊢
      have z1 := mk_size (txt out K)
      have e2 : mk (txt out K) ++ ⟨#[10]⟩ = mk (txt out K ++ [10]) := mk_append _ _
      go_wp2_with fail
      go_ret
      exact ⟨rfl, rfl⟩
end Go.Proofs.YtgledabcfonbeaaGreatDoor.Df

/-! Print, walked. -/
namespace Go.Proofs.YtgledabcfonbeaaGreatDoor.Df
open Go.RowKit Go.Proofs.YtgledabcfonbeaaGreatDoor

/-- what Print comes to -/
def PrQ (w : World) (out : Bs) (K : List Bs) (e : Ending) (w' : World) : Prop :=
  e = .returned (if (badL out || K.any badL) = true then .tuple #[.string ⟨#[]⟩, .int .i64 5] else .tuple #[.string (mk (txt out K ++ [10])), .int .i64 0]) ∧ Below w.heap.size w w'

set_option maxRecDepth 100000 in
set_option maxHeartbeats 8000000 in
theorem print_c {w : World} {dv : Value} {K : List Bs} (out : Bs) (h : Strs w dv K) (hl : K.length ≤ 1000) (ho : out.length ≤ 200) (hx : ∀ x ∈ K, x.length ≤ 100) :
    Calls Tryz.prog 36 #[.string (mk out), dv] w (PrQ w out K) := by
  have hp := print1_c out (by omega) w
  have HCF := Lib.hid fun (W : World) (hW : Strs W dv K) => containsF_c hW (by omega) (fun x h => by have := hx x h; omega)
  have HS := Lib.hid h
  have HX := Lib.hid hx
  have HTL := Lib.hid (fun j hj => txt_len (j := j) ho hx hj)
  unfold PrQ
  obtain ⟨z1, hz1⟩ : ∃ z, badL out = z := ⟨_, rfl⟩
  obtain ⟨z2, hz2⟩ : ∃ z, K.any badL = z := ⟨_, rfl⟩
  rw [hz1] at hp ⊢
  rw [hz2] at HCF ⊢
  obtain ⟨a, c, rfl, -, -⟩ := h
  clear hx hz1 hz2
  cases z1 with
  | true =>
    go_enter Tryz.func36, Tryz.ntmps36
    go_wp2_with fail
    refine hp.mono ?_
    rintro e w1 ⟨rfl, hb1⟩
    have HB1 := Lib.hid hb1
    clear hp hb1
    go_wp2_with fail
    go_ret2
    exact ⟨rfl, HB1.out⟩
  | false =>
  cases z2 with
  | true =>
    go_enter Tryz.func36, Tryz.ntmps36
    go_wp2_with fail
    refine hp.mono ?_
    rintro e w1 ⟨rfl, hb1⟩
    have HB1 := Lib.hid hb1
    have cf := HCF.out w1 (HS.out.below hb1)
    clear hp hb1
    go_wp2_with fail
    refine cf.mono ?_
    rintro e w2 ⟨rfl, hb2⟩
    have HB2 := Lib.hid (HB1.out.trans (hb2.mono HB1.out.size))
    clear cf hb2
    go_wp2_with fail
    go_ret2
    exact ⟨rfl, HB2.out⟩
  | false =>
    go_enter Tryz.func36, Tryz.ntmps36
    go_wp2_with fail
    refine hp.mono ?_
    rintro e w1 ⟨rfl, hb1⟩
    have HB1 := Lib.hid hb1
    have cf := HCF.out w1 (HS.out.below hb1)
    clear hp hb1
    go_wp2_with fail
    refine cf.mono ?_
    rintro e w2 ⟨rfl, hb2⟩
    have HB2 := Lib.hid (HB1.out.trans (hb2.mono HB1.out.size))
    clear cf hb2
    obtain ⟨b, hb⟩ : ∃ b, w2.heap.size = b := ⟨_, rfl⟩
    have hbn := bld_new w2
    have hbs : (w2.alloc (.cells #[.pointer none, .slice none 0 0] 104)).heap.size = b + 1 := by rw [World.size_alloc, hb]
    rw [hb] at hbn
    have cw := writeS_c (s := out) hbn (by simp; omega) (by rw [hbs]; omega)
    rw [List.nil_append] at cw
    have HA := Lib.hid (show Below b w2 (w2.alloc (.cells #[.pointer none, .slice none 0 0] 104)) from hb ▸ below_alloc w2 _)
    have HBW := Lib.hid (show w.heap.size ≤ b from hb ▸ HB2.out.size)
    have HBN := Lib.hid hb
    clear hbn hbs
    go_wp2_with fail
    refine cw.mono ?_
    rintro e w3 ⟨⟨zz, rfl⟩, hd3, hb3, -⟩
    have HB3 := Lib.hid (HA.out.trans hb3)
    have hs3 : b ≤ w3.heap.size := Nat.le_trans (by have := HA.out.size; omega) HB3.out.size
    have cw2 := writeB_c (x := 58) hd3 (by omega) (by omega)
    clear cw hb3
    go_wp2_with fail
    refine cw2.mono ?_
    rintro e w4 ⟨⟨zz2, rfl⟩, hd4, hb4, -⟩
    have HB4 := Lib.hid (HB3.out.trans hb4)
    have HD4 := Lib.hid hd4
    clear cw2 hb4 hd3 hd4 hs3 hb
    have HSZ : Hid (∀ W, Below b w2 W → b ≤ W.heap.size) := Lib.hid fun W hW => by have := hW.size; have := HBN.out; omega
    have HT0 : Hid (out ++ [58] = txt out (K.take 0)) := Lib.hid (by rw [List.take_zero, txt_nil])
    go_wp2_with fail
    go_loopw [9, 23] (fun _ i wr => ∃ j : Nat, j ≤ K.length ∧ i = .int .i64 j ∧ Hid (Bld b b (txt out (K.take j)) wr) ∧ Hid (Below b w2 wr)) (fun _ i _ => K.length - (intOf i).toNat)
    case atStart => exact ⟨0, Nat.zero_le _, rfl, Lib.hid (by rw [← HT0.out]; exact HD4.out), HB4⟩
    case round =>
      obtain ⟨j, hj, rfl, hD, hB⟩ := hrel
      have htl := HTL.out j hj
      by_cases hlt : j < K.length
      · have hx := List.getElem?_eq_getElem hlt
        have hmem := HX.out _ (List.getElem_mem hlt)
        obtain ⟨_, _, e, _, hrow⟩ := HS.out
        cases e
        rcases hrow with h0 | ⟨g, off, rfl, hg, hcell⟩
        · rw [h0] at hlt; simp at hlt
        have hc0 : wr.cell? ⟨g, off + j, none⟩ = some (.string (mk K[j])) := (cell_of_block ((HB2.out.trans (hB.out.mono HBW.out)).block g hg)).trans (hcell j _ hx)
        have hnx := txt_take (out := out) hx
        generalize K[j] = x at *
        generalize txt out (K.take j) = T at *
        have HN := Lib.hid hnx
        have hi0 : (0 : Int) ≤ (j : Int) := by omega
        have hi1 : (j : Int) < (K.length : Int) := by omega
        have cb := writeB_c (x := 32) hD.out (by omega) (HSZ.out _ hB.out)
        clear hcell hx hnx
        go_wp2_with fail
        refine cb.mono ?_
        rintro e w5 ⟨⟨zz3, rfl⟩, hd5, hb5, -⟩
        have HB5 := Lib.hid (hB.out.trans hb5)
        have cs := writeS_c (s := x) hd5 (by simp; omega) (HSZ.out _ HB5.out)
        clear cb hb5 hd5
        go_wp2_with fail
        refine cs.mono ?_
        rintro e w6 ⟨⟨zz4, rfl⟩, hd6, hb6, -⟩
        have HB6 := Lib.hid (HB5.out.trans hb6)
        have HD6 : Hid (Bld b b (txt out (K.take (j + 1))) w6) := Lib.hid (by rw [HN.out, List.append_cons]; exact hd6)
        clear cs hb6 hd6
        go_wp2_with fail
        go_roundw
        case rel => exact ⟨j + 1, by omega, by go_num, HD6, HB6⟩
        case measure => simp [intOf] <;> omega
      · obtain rfl : j = K.length := by omega
        rw [List.take_length] at hD htl
        have cb := writeB_c (x := 10) hD.out (by omega) (HSZ.out _ hB.out)
        go_wp2_with fail
        refine cb.mono ?_
        rintro e w5 ⟨⟨zz3, rfl⟩, hd5, hb5, -⟩
        have HB5 := Lib.hid (hB.out.trans hb5)
        have cs := string_c hd5 (HSZ.out _ HB5.out)
        clear cb hb5 hd5
        go_wp2_with fail
        refine cs.mono ?_
        rintro e w6 ⟨rfl, hb6⟩
        have HB6 := Lib.hid (HB5.out.trans hb6)
        clear cs hb6
        go_wp2_with fail
        go_ret2
        exact ⟨rfl, HB2.out.trans (HB6.out.mono HBW.out)⟩
end Go.Proofs.YtgledabcfonbeaaGreatDoor.Df
