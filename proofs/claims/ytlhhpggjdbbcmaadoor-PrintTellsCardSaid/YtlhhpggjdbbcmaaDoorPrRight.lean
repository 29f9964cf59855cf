/-
  WHAT MAY BE PRINTED: names that are paths, commands, edges.
-/
import Derived.Test.YtlhhpggjdbbcmaaDoorPrNum
namespace Go.Proofs.YtlhhpggjdbbcmaaDoor.Pr
open Go.RowKit Go.Proofs.YtlhhpggjdbbcmaaDoor Go.Proofs.YtlhhpggjdbbcmaaDoor.Df

def badL (s : Bs) : Bool := !rightL s
theorem any_bad (K : List Bs) : (!K.any badL) = K.all rightL := by
  unfold badL
  rw [List.not_any_eq_all_not]
  simp
theorem any_bad2 (K : List Bs) : K.any badL = !K.all rightL := by rw [← any_bad]; simp

set_option maxHeartbeats 1000000 in
theorem noPath_c (s : Bs) (hs : s.length ≤ 9223372036854775807) (w : World) : Calls Tryd.prog 32 #[.string (mk s)] w fun e w' => e = .returned (.bool (badL s)) ∧ Below w.heap.size w w' := by
  have hr := right_c s hs w
  unfold badL
  generalize rightL s = z at *
  go_enter Tryd.func32, Tryd.ntmps32
  go_wp2_with fail
  refine hr.mono ?_
  rintro e w1 ⟨rfl, hb⟩
  go_wp2_with fail
  go_ret
  exact ⟨rfl, hb⟩

set_option maxHeartbeats 4000000 in
theorem indexP_c {w : World} {dv : Value} {l : List Bs} (h : Strs w dv l) (hl : l.length ≤ 1000000) (hx : ∀ x ∈ l, x.length ≤ 1000000) :
    Calls Tryd.prog 41 #[dv, .func (.func 32) #[] #[]] w fun e w' => (∃ z : Int, e = .returned (.int .i64 z) ∧ decide (0 ≤ z) = l.any badL) ∧ Below w.heap.size w w' := by
  obtain ⟨a, c, rfl, hc, hrow⟩ := h
  have HROW := Lib.hid hrow
  have HX := Lib.hid hx
  clear hrow hx
  go_enter Tryd.func41, Tryd.ntmps41
  go_wp2_with fail
  go_loopw [5, 8] (fun _ i wr => ∃ j : Nat, j ≤ l.length ∧ i = .int .i64 j ∧ Hid ((l.take j).any badL = false) ∧ Hid (Below w.heap.size w wr)) (fun _ i _ => l.length - (intOf i).toNat)
  case atStart => exact ⟨0, Nat.zero_le _, rfl, Lib.hid (by simp), Lib.hid (Below.refl _ _)⟩
  case round =>
    obtain ⟨j, hj, rfl, hA, hB⟩ := hrel
    by_cases hlt : j < l.length
    · have hx := List.getElem?_eq_getElem hlt
      have htk : (l.take (j + 1)).any badL = ((l.take j).any badL || badL l[j]) := by
        rw [List.take_add_one, hx, List.any_append]
        generalize l[j] = y
        simp
      have hmem : l[j] ∈ l := List.getElem_mem hlt
      rcases HROW.out with h0 | ⟨b, off, rfl, hb, hcell⟩
      · rw [h0] at hlt; simp at hlt
      have hc0 : wr.cell? ⟨b, off + j, none⟩ = some (.string (mk l[j])) := (cell_of_block (hB.out.block b hb)).trans (hcell j _ hx)
      generalize l[j] = s at *
      have cl := noPath_c s (by have := HX.out _ hmem; omega) wr
      have HTK := Lib.hid htk
      have HMEM := Lib.hid hmem
      have hi0 : (0 : Int) ≤ (j : Int) := by omega
      have hi1 : (j : Int) < (l.length : Int) := by omega
      clear hcell hx htk hmem
      cases hz : badL s with
      | true =>
        rw [hz] at cl
        have HZ := Lib.hid hz
        clear hz
        go_wp2_with fail
        refine cl.mono ?_
        rintro e w1 ⟨rfl, hb1⟩
        have HB1 := Lib.hid (hB.out.trans (hb1.mono hB.out.size))
        clear cl hb1
        go_wp2_with fail
        go_ret
        refine ⟨⟨(j : Int), rfl, ?_⟩, HB1.out⟩
        rw [decide_eq_true (by omega)]
        symm
        rw [List.any_eq_true]
        exact ⟨s, HMEM.out, HZ.out⟩
      | false =>
        rw [hz] at cl
        have HZ := Lib.hid hz
        clear hz
        go_wp2_with fail
        refine cl.mono ?_
        rintro e w1 ⟨rfl, hb1⟩
        have HB1 := Lib.hid (hB.out.trans (hb1.mono hB.out.size))
        clear cl hb1
        go_wp2_with fail
        go_roundw
        case rel => exact ⟨j + 1, by omega, by go_num, Lib.hid (by rw [HTK.out, hA.out, HZ.out]; rfl), HB1⟩
        case measure => simp [intOf] <;> omega
    · obtain rfl : j = l.length := by omega
      rw [List.take_length] at hA
      go_wp2_with fail
      go_ret
      exact ⟨⟨-1, rfl, by rw [hA.out]; rfl⟩, hB.out⟩

theorem containsP_c {w : World} {dv : Value} {l : List Bs} (h : Strs w dv l) (hl : l.length ≤ 1000000) (hx : ∀ x ∈ l, x.length ≤ 1000000) :
    Calls Tryd.prog 33 #[dv, .func (.func 32) #[] #[]] w fun e w' => e = .returned (.bool (!l.all rightL)) ∧ Below w.heap.size w w' := by
  have hi := indexP_c h hl hx
  rw [any_bad2] at hi
  obtain ⟨z0, hz0⟩ : ∃ z, l.all rightL = z := ⟨_, rfl⟩
  rw [hz0] at hi ⊢
  obtain ⟨a, c, rfl, -, -⟩ := h
  clear hz0 hx
  go_enter Tryd.func33, Tryd.ntmps33
  go_wp2_with fail
  refine hi.mono ?_
  rintro e w1 ⟨⟨z, rfl, hz⟩, hb⟩
  have HB := Lib.hid hb
  clear hi hb
  go_wp2_with fail
  go_ret
  exact ⟨rfl, HB.out⟩

/-- rows of names, short and few -/
def Rw (w : World) (v : Value) (K : List Bs) : Prop := Strs w v K ∧ K.length ≤ 1000 ∧ ∀ x ∈ K, x.length ≤ 200

set_option maxRecDepth 100000 in
set_option maxHeartbeats 4000000 in
theorem arePaths_c {w : World} {k : Nat} {C : Array Value} {KK : List (List Bs)} (hk : w.heap[k]? = some (.cells C 23 (0, 0))) (hl : KK.length ≤ 1000) (hat : ∀ (j : Nat) K, KK[j]? = some K → ∃ v, C[j]? = some v ∧ Rw w v K) :
    Calls Tryd.prog 20 #[.slice (some ⟨k, 0, none⟩) KK.length KK.length] w fun e w' => e = .returned (.bool (KK.all fun K => K.all rightL)) ∧ Below w.heap.size w w' := by
  have HK := Lib.hid hk
  have HAT := Lib.hid hat
  obtain ⟨R, hR⟩ : ∃ R, KK.all (fun K => K.all rightL) = R := ⟨_, rfl⟩
  rw [hR]
  have HR := Lib.hid hR
  clear hk hat hR
  go_enter Tryd.func20, Tryd.ntmps20
  go_wp2_with fail
  go_loopw [5, 8] (fun _ i wr => ∃ j : Nat, j ≤ KK.length ∧ i = .int .i64 j ∧ Hid ((KK.take j).all (fun K => K.all rightL) = true) ∧ Hid (Below w.heap.size w wr)) (fun _ i _ => KK.length - (intOf i).toNat)
  case atStart => exact ⟨0, Nat.zero_le _, rfl, Lib.hid (by simp), Lib.hid (Below.refl _ _)⟩
  case round =>
    obtain ⟨j, hj, rfl, hA, hB⟩ := hrel
    by_cases hlt : j < KK.length
    · have hx := List.getElem?_eq_getElem hlt
      have htk : (KK.take (j + 1)).all (fun K => K.all rightL) = ((KK.take j).all (fun K => K.all rightL) && KK[j].all rightL) := by
        rw [List.take_add_one, hx, List.all_append]
        generalize KK[j] = y
        simp
      have hmem := List.getElem_mem hlt
      obtain ⟨v, hv, hS, hn, hs⟩ := HAT.out j _ hx
      generalize KK[j] = K at *
      have HTK := Lib.hid htk
      have hc0 : wr.cell? ⟨k, j, none⟩ = some v := by
        rw [cell_of_block (hB.out.block k (lt_some HK.out))]
        simp [World.cell?, HK.out, hv]
      have cl := containsP_c (hS.below hB.out) (by omega) (fun x hx => by have := hs x hx; omega)
      obtain ⟨a, c, rfl, -, -⟩ := hS
      have hi0 : (0 : Int) ≤ (j : Int) := by omega
      have hi1 : (j : Int) < (KK.length : Int) := by omega
      have hF : K.all rightL = false → R = false := fun h => by
        rw [← HR.out, List.all_eq_false]
        exact ⟨K, hmem, by rw [h]; simp⟩
      generalize K.all rightL = z at *
      have HF := Lib.hid hF
      clear hx htk hmem hv hs hF
      cases z with
      | true =>
        go_wp2_with fail
        refine cl.mono ?_
        rintro e w1 ⟨rfl, hb1⟩
        have HB1 := Lib.hid (hB.out.trans (hb1.mono hB.out.size))
        clear cl hb1
        go_wp2_with fail
        go_roundw
        case rel => exact ⟨j + 1, by omega, by go_num, Lib.hid (by rw [HTK.out, hA.out]; rfl), HB1⟩
        case measure => simp [intOf] <;> omega
      | false =>
        have HFR : Hid (R = false) := Lib.hid (HF.out rfl)
        clear HF
        go_wp2_with fail
        refine cl.mono ?_
        rintro e w1 ⟨rfl, hb1⟩
        have HB1 := Lib.hid (hB.out.trans (hb1.mono hB.out.size))
        clear cl hb1
        go_wp2_with fail
        go_ret
        exact ⟨by rw [HFR.out]; rfl, HB1.out⟩
    · obtain rfl : j = KK.length := by omega
      rw [List.take_length] at hA
      go_wp2_with fail
      go_ret
      exact ⟨by rw [← HR.out, hA.out]; rfl, hB.out⟩

theorem com_take {s : Bs} {j : Nat} {c : UInt8} (h : s[j]? = some c) : (s.take (j + 1)).all comB = ((s.take j).all comB && comB c) := by
  rw [List.take_add_one, h, List.all_append]
  simp
set_option maxRecDepth 100000 in
set_option maxHeartbeats 4000000 in
theorem isCommand_c (s : Bs) (hs : s.length ≤ 1000000) (w : World) : Calls Tryd.prog 30 #[.string (mk s)] w fun e w' => e = .returned (.bool (comL s)) ∧ w = w' := by
  have hz := mk_size s
  obtain ⟨R, hR⟩ : ∃ R, comL s = R := ⟨_, rfl⟩
  have HR := Lib.hid hR
  have hE : (mk s).toList.isEmpty = s.isEmpty := by rw [mk_toList]
  obtain ⟨E, hE2⟩ : ∃ E, s.isEmpty = E := ⟨_, rfl⟩
  have HE := Lib.hid hE2
  rw [hE2] at hE
  rw [hR]
  clear hR hE2
  go_enter Tryd.func30, Tryd.ntmps30
  go_wp2_with fail
  go_loopw [3, 6] (fun _ i W' => ∃ j : Nat, i = .int .i64 j ∧ j ≤ s.length ∧ Hid ((s.take j).all comB = true) ∧ w = W') (fun _ i _ => s.length - (intOf i).toNat)
  case atStart => exact ⟨0, rfl, Nat.zero_le _, Lib.hid rfl, rfl⟩
  case round =>
    obtain ⟨j, rfl, hj, HA, rfl⟩ := hrel
    by_cases hlt : j < s.length
    · have hjs : j < (mk s).size := by rw [hz]; exact hlt
      have hb := get_mk s hjs
      obtain ⟨c, hc⟩ : ∃ c, (mk s)[j] = c := ⟨_, rfl⟩
      have hcN : ((mk s)[j].toNat : Int) = (c.toNat : Int) := by rw [hc]
      rw [hc] at hb
      have htk := com_take hb
      have hmem : c ∈ s := List.mem_of_getElem? hb
      have hno : comB c = false → R = false := fun h => by
        rw [← HR.out]
        unfold comL
        rw [List.all_eq_false.2 ⟨c, hmem, by rw [h]; simp⟩]
        rfl
      have HN := Lib.hid hno
      have HTK := Lib.hid htk
      have hji : (j : Int) < (s.length : Int) := by omega
      have hcd : comB c = (decide (32 ≤ c.toNat) && decide (c.toNat ≤ 126)) := rfl
      have HCD := Lib.hid hcd
      clear hc hb hno htk hmem hcd
      by_cases h1 : c.toNat < 32
      · have d1 : (c.toNat : Int) < 32 := by omega
        have hf : comB c = false := by rw [HCD.out, decide_eq_false (by omega)]; rfl
        have HF := Lib.hid (HN.out hf)
        clear hf
        go_wp2_with fail
        go_ret
        exact ⟨by rw [HF.out]; rfl, rfl⟩
      · by_cases h2 : 126 < c.toNat
        · have d1 : ¬ (c.toNat : Int) < 32 := by omega
          have d2 : (126 : Int) < (c.toNat : Int) := by omega
          have d3 : decide ((126 : Int) < (c.toNat : Int)) = true := decide_eq_true d2
          have hf : comB c = false := by rw [HCD.out, decide_eq_false (show ¬ c.toNat ≤ 126 by omega), Bool.and_false]
          have HF := Lib.hid (HN.out hf)
          clear hf
          go_wp2_with fail
          go_ret
          exact ⟨by rw [HF.out]; rfl, rfl⟩
        · have d1 : ¬ (c.toNat : Int) < 32 := by omega
          have d2 : ¬ (126 : Int) < (c.toNat : Int) := by omega
          have d3 : decide ((126 : Int) < (c.toNat : Int)) = false := decide_eq_false d2
          have hf : comB c = true := by rw [HCD.out, decide_eq_true (show 32 ≤ c.toNat by omega), decide_eq_true (show c.toNat ≤ 126 by omega)]; rfl
          have HF := Lib.hid hf
          clear hf
          go_wp2_with fail
          go_roundw
          case rel => exact ⟨j + 1, by go_num, by omega, Lib.hid (by rw [HTK.out, HA.out, HF.out]; rfl), trivial⟩
          case measure => simp [intOf] <;> omega
    · have hji : ¬ (j : Int) < (s.length : Int) := by omega
      have hall : s.take j = s := List.take_of_length_le (by omega)
      rw [hall] at HA
      have hfin : R = !E := by
        rw [← HR.out]
        unfold comL
        rw [HA.out, HE.out]
        rfl
      have HFIN := Lib.hid hfin
      clear hall hfin
      cases E with
      | true =>
        go_wp2_with fail
        go_ret
        exact ⟨by rw [HFIN.out]; rfl, rfl⟩
      | false =>
        go_wp2_with fail
        go_ret
        exact ⟨by rw [HFIN.out]; rfl, rfl⟩
end Go.Proofs.YtlhhpggjdbbcmaaDoor.Pr
