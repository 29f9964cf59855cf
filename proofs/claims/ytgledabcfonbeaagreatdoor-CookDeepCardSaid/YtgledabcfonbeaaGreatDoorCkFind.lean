/-
  Find, the document's Find, and the law CookFinds.
-/
import Derived.Test.YtgledabcfonbeaaGreatDoorCkSmall
namespace Go.Proofs.YtgledabcfonbeaaGreatDoor.Df
open Go.RowKit Go.Maps Go.Proofs.YtgledabcfonbeaaGreatDoor

def isN (s : Bs) (x : Fl) : Bool := decide (x.1 = s)
theorem find_at {L : List Fl} {s : Bs} {j : Nat} {x : Fl} (hx : L[j]? = some x) (h0 : (L.take j).find? (isN s) = none) (h1 : x.1 = s) : fileL L s = some x.2 := by
  have e : L = L.take (j + 1) ++ L.drop (j + 1) := (List.take_append_drop _ _).symm
  have e2 : L.take (j + 1) = L.take j ++ [x] := by rw [List.take_add_one, hx]; rfl
  have h2 : L.find? (isN s) = some x := by
    rw [e, e2, List.find?_append, List.find?_append, h0]
    have h3 : [x].find? (isN s) = some x := by
      rw [List.find?_cons]
      unfold isN
      rw [decide_eq_true h1]
    rw [h3]
    rfl
  unfold fileL
  have h4 : L.find? (fun x => decide (x.1 = s)) = some x := h2
  rw [h4]
  rfl
theorem find_next {L : List Fl} {s : Bs} {j : Nat} {x : Fl} (hx : L[j]? = some x) (h0 : (L.take j).find? (isN s) = none) (h1 : ¬ x.1 = s) : (L.take (j + 1)).find? (isN s) = none := by
  have e2 : L.take (j + 1) = L.take j ++ [x] := by rw [List.take_add_one, hx]; rfl
  rw [e2, List.find?_append, h0, List.find?_cons]
  unfold isN
  rw [decide_eq_false h1]
  rfl
theorem find_end {L : List Fl} {s : Bs} (h0 : (L.take L.length).find? (isN s) = none) : fileL L s = none := by
  rw [List.take_length] at h0
  unfold fileL
  have h4 : L.find? (fun x => decide (x.1 = s)) = none := h0
  rw [h4]
  rfl
theorem eq_mk {a b : Bs} : ((mk a).toList == (mk b).toList) = decide (a = b) := by
  rw [mk_toList, mk_toList]
  exact Bool.eq_iff_iff.2 (by rw [beq_iff_eq, decide_eq_true_iff])

/-- bytes that were found, or none -/
def FiQ (w : World) (o : Option Bs) (e : Ending) (w' : World) : Prop :=
  (∃ u b, e = .returned (.tuple #[u, .bool o.isSome]) ∧ Byt w' u b ∧ b = o.getD []) ∧ Below w.heap.size w w'

set_option maxRecDepth 100000 in
set_option maxHeartbeats 4000000 in
theorem find_c {w : World} {v : Value} {L : List Fl} {U : List Value} (h : Fls w v L U) (hln : L.length ≤ 1000000) (hb : ∀ x ∈ L, x.2.length ≤ 1000000) (s : Bs) :
    Calls Tryz.prog 9 #[v, .string (mk s)] w (FiQ w (fileL L s)) := by
  have H := Lib.hid h
  have HBL := Lib.hid hb
  obtain ⟨o, ho⟩ : ∃ o, fileL L s = o := ⟨_, rfl⟩
  rw [ho]
  have HOO := Lib.hid ho
  obtain ⟨-, a, c, rfl, -, -⟩ := h
  clear hb ho
  go_enter Tryz.func9, Tryz.ntmps9
  go_wp2_with fail
  go_loopw [7, 10] (fun _ i wr => ∃ j : Nat, j ≤ L.length ∧ i = .int .i64 j ∧ Hid ((L.take j).find? (isN s) = none) ∧ Hid (Below w.heap.size w wr)) (fun _ i _ => L.length - (intOf i).toNat)
  case atStart => exact ⟨0, Nat.zero_le _, rfl, Lib.hid (by simp), Lib.hid (Below.refl _ _)⟩
  case round =>
    obtain ⟨j, hj, rfl, hA, hB⟩ := hrel
    by_cases hlt : j < L.length
    · have hx := List.getElem?_eq_getElem hlt
      have hbl := HBL.out _ (List.getElem_mem hlt)
      generalize L[j] = x at *
      obtain ⟨g, off, c2, ua, uc, e, hg, -, c0w, c1w, hbyw⟩ := H.out.at hx
      cases e
      have c0 := (cell_of_block (hB.out.block _ hg)).trans c0w
      have c1 := (cell_of_block (hB.out.block _ hg)).trans c1w
      have hi0 : (0 : Int) ≤ (j : Int) := by omega
      have hi1 : (j : Int) < (L.length : Int) := by omega
      have HX := Lib.hid hx
      obtain ⟨W1, hW1⟩ : ∃ W, wr.alloc (.cells #[.string (mk x.1), .slice ua x.2.length uc] 52) = W := ⟨_, rfl⟩
      have hb1 : Below wr.heap.size wr W1 := by rw [← hW1]; exact below_alloc _ _
      have n1 : W1.heap[wr.heap.size]? = some (.cells #[.string (mk x.1), .slice ua x.2.length uc] 52 (0, 0)) := by rw [← hW1]; exact heap_alloc_new _ _
      have d0 : W1.cell? ⟨wr.heap.size, 0, none⟩ = some (.string (mk x.1)) := cell_of_heap n1
      have d1 : W1.cell? ⟨wr.heap.size, 1, none⟩ = some (.slice ua x.2.length uc) := cell_of_heap n1
      have HB1 := Lib.hid (hB.out.trans (hb1.mono hB.out.size))
      have HY := Lib.hid (hbyw.below HB1.out)
      clear hx hbyw c0w c1w hb1 n1
      by_cases hs : x.1 = s
      · have e1 : ((mk x.1).toList == (mk s).toList) = true := by rw [eq_mk]; exact decide_eq_true hs
        have HR : Hid (o = some x.2) := Lib.hid (HOO.out.symm.trans (find_at HX.out hA.out hs))
        have cc := cloneB_c HY.out hbl
        clear hs
        go_wp2_with fail
        refine cc.mono ?_
        rintro e w2 ⟨v2, rfl, ho2, hb2⟩
        have HO2 := Lib.hid ho2
        have HB2 := Lib.hid (HB1.out.trans (hb2.mono HB1.out.size))
        clear cc ho2 hb2
        go_wp2_with fail
        go_ret2
        rw [HR.out]
        exact ⟨⟨_, x.2, rfl, owns_byt HO2.out, rfl⟩, HB2.out⟩
      · have e1 : ((mk x.1).toList == (mk s).toList) = false := by rw [eq_mk]; exact decide_eq_false hs
        have HN : Hid ((L.take (j + 1)).find? (isN s) = none) := Lib.hid (find_next HX.out hA.out hs)
        clear hs
        go_wp2_with fail
        go_roundw
        case rel => exact ⟨j + 1, by omega, by go_num, HN, HB1⟩
        case measure => simp [intOf] <;> omega
    · obtain rfl : j = L.length := by omega
      have HR : Hid (o = none) := Lib.hid (HOO.out.symm.trans (find_end hA.out))
      go_wp2_with fail
      go_ret2
      rw [HR.out]
      exact ⟨⟨_, [], rfl, Byt.nil _, rfl⟩, hB.out⟩

set_option maxRecDepth 100000 in
set_option maxHeartbeats 4000000 in
theorem refFind_c {w : World} {v : Value} {L : List Fl} {U : List Value} (h : Fls w v L U) (hln : L.length ≤ 1000000) (s : Bs) :
    Calls Tryz.prog 11 #[v, .string (mk s)] w (FiQ w (fileL L s)) := by
  have H := Lib.hid h
  obtain ⟨o, ho⟩ : ∃ o, fileL L s = o := ⟨_, rfl⟩
  rw [ho]
  have HOO := Lib.hid ho
  obtain ⟨-, a, c, rfl, -, -⟩ := h
  clear ho
  go_enter Tryz.func11, Tryz.ntmps11
  go_wp2_with fail
  go_loopw [6] (fun i wr => ∃ j : Nat, j ≤ L.length ∧ i = .int .i64 j ∧ Hid ((L.take j).find? (isN s) = none) ∧ Hid (Below w.heap.size w wr)) (fun i _ => L.length - (intOf i).toNat)
  case atStart => exact ⟨0, Nat.zero_le _, rfl, Lib.hid (by simp), Lib.hid (Below.refl _ _)⟩
  case round =>
    obtain ⟨j, hj, rfl, hA, hB⟩ := hrel
    by_cases hlt : j < L.length
    · have hx := List.getElem?_eq_getElem hlt
      generalize L[j] = x at *
      obtain ⟨g, off, c2, ua, uc, e, hg, -, c0w, c1w, hbyw⟩ := H.out.at hx
      cases e
      have c0 := (cell_of_block (hB.out.block _ hg)).trans c0w
      have c1 := (cell_of_block (hB.out.block _ hg)).trans c1w
      have hi0 : (0 : Int) ≤ (j : Int) := by omega
      have hi1 : (j : Int) < (L.length : Int) := by omega
      have HX := Lib.hid hx
      have HY := Lib.hid (hbyw.below hB.out)
      clear hx hbyw c0w c1w
      by_cases hs : x.1 = s
      · have e1 : ((mk x.1).toList == (mk s).toList) = true := by rw [eq_mk]; exact decide_eq_true hs
        have HR : Hid (o = some x.2) := Lib.hid (HOO.out.symm.trans (find_at HX.out hA.out hs))
        clear hs
        go_wp2_with fail
        go_ret2
        rw [HR.out]
        exact ⟨⟨_, x.2, rfl, HY.out, rfl⟩, hB.out⟩
      · have e1 : ((mk x.1).toList == (mk s).toList) = false := by rw [eq_mk]; exact decide_eq_false hs
        have HN : Hid ((L.take (j + 1)).find? (isN s) = none) := Lib.hid (find_next HX.out hA.out hs)
        clear hs
        go_wp2_with fail
        go_roundw
        case rel => exact ⟨j + 1, by omega, by go_num, HN, hB⟩
        case measure => simp [intOf] <;> omega
    · obtain rfl : j = L.length := by omega
      have HR : Hid (o = none) := Lib.hid (HOO.out.symm.trans (find_end hA.out))
      go_wp2_with fail
      go_ret2
      rw [HR.out]
      exact ⟨⟨_, [], rfl, Byt.nil _, rfl⟩, hB.out⟩

set_option maxRecDepth 100000 in
set_option maxHeartbeats 4000000 in
theorem findsW_c {w : World} {v : Value} {L : List Fl} {U : List Value} (h : Fls w v L U) (hl : L.length ≤ 9223372036854775807) (s : Bs) :
    Calls Tryz.prog 3 #[v, .string (mk s)] w fun e w' => e = .returned (.bool true) ∧ Below w.heap.size w w' := by
  have H := Lib.hid h
  have cl := light_c h hl
  obtain ⟨z, hz⟩ : ∃ z, lightL L = z := ⟨_, rfl⟩
  rw [hz] at cl
  have hsz := mk_size s
  have hv : ∃ a c, v = .slice a L.length c := by obtain ⟨-, a, c, e, -⟩ := h; exact ⟨a, c, e⟩
  obtain ⟨a, c, rfl⟩ := hv
  cases z with
  | false =>
    clear hz h
    go_enter Tryz.func3, Tryz.ntmps3
    go_wp2_with fail
    refine cl.mono ?_
    rintro e w1 ⟨rfl, rfl⟩
    clear cl
    go_wp2_with fail
    go_ret
    exact ⟨rfl, Below.refl _ _⟩
  | true =>
    by_cases h200 : s.length ≤ 200
    · have hl10 : L.length ≤ 10 ∧ ∀ x ∈ L, x.2.length ≤ 200 := by
        unfold lightL at hz
        rw [Bool.and_eq_true, decide_eq_true_iff, List.all_eq_true] at hz
        refine ⟨hz.1, fun x hx => ?_⟩
        have := hz.2 x hx
        unfold shortF at this
        rw [Bool.and_eq_true, decide_eq_true_iff] at this
        exact this.1
      have HL := Lib.hid hl10
      have co := of_c h (by omega) (fun x hx => by have := hl10.2 x hx; omega)
      have d2 : ¬ (200 : Int) < ((mk s).size : Int) := by rw [hsz]; omega
      have d4 : decide ((200 : Int) < ((mk s).size : Int)) = false := decide_eq_false d2
      clear hz hl10 h hsz
      go_enter Tryz.func3, Tryz.ntmps3
      go_wp2_with fail
      refine cl.mono ?_
      rintro e w1 ⟨rfl, rfl⟩
      clear cl
      go_wp2_with fail
      refine co.mono ?_
      rintro e w2 ⟨v2, rfl, hown, hb2⟩
      obtain ⟨U2, hf2, -⟩ := hown.fls
      have cf := find_c hf2 (by have := HL.out.1; omega) (fun x hx => by have := HL.out.2 x hx; omega) s
      have HB2 := Lib.hid hb2
      clear co hown hb2 hf2
      go_wp2_with fail
      refine cf.mono ?_
      rintro e w3 ⟨⟨u, b, rfl, hby, hbo⟩, hb3⟩
      have HB3 := Lib.hid (HB2.out.trans (hb3.mono HB2.out.size))
      have cr := refFind_c (H.out.below HB3.out) (by have := HL.out.1; omega) s
      have HY := Lib.hid hby
      have HBO := Lib.hid hbo
      clear cf hb3 hby hbo
      generalize fileL L s = o at *
      go_wp2_with fail
      refine cr.mono ?_
      rintro e w4 ⟨⟨u2, b2, rfl, hby2, hbo2⟩, hb4⟩
      have HB4 := Lib.hid (HB3.out.trans (hb4.mono HB3.out.size))
      obtain rfl : b2 = b := hbo2.trans HBO.out.symm
      have k1 := conv_byt (HY.out.below hb4)
      have k2 := conv_byt hby2
      have ca := awake_c w4
      clear cr hb4 hby2 hbo2
      go_wp2_with fail
      refine ca.mono ?_
      rintro e w5 ⟨rfl, hb5⟩
      have HB5 := Lib.hid (HB4.out.trans (hb5.mono HB4.out.size))
      clear ca hb5
      go_wp2_with fail
      go_ret
      exact ⟨rfl, HB5.out⟩
    · have d2 : (200 : Int) < ((mk s).size : Int) := by rw [hsz]; omega
      clear hz h hsz
      go_enter Tryz.func3, Tryz.ntmps3
      go_wp2_with fail
      refine cl.mono ?_
      rintro e w1 ⟨rfl, rfl⟩
      clear cl
      go_wp2_with fail
      go_ret
      exact ⟨rfl, Below.refl _ _⟩
end Go.Proofs.YtgledabcfonbeaaGreatDoor.Df
