/-
  THE DOCUMENT's In, Maker.
-/
import Derived.Test.YtbflodefmookiaaGrMkS
import Derived.Test.YtbflodefmookiaaGrNum
namespace Go.Proofs.Ytbflodefmookiaa.Gr
open Go.RowKit Go.Maps Go.Proofs.Ytbflodefmookiaa Go.Proofs.Ytbflodefmookiaa.Pr

set_option maxRecDepth 100000 in
set_option maxHeartbeats 8000000 in
theorem in_c {w : World} {v : Value} {K : List Bs} {s : Bs} (hK : Strs w v K) (hk : K.length ≤ 1000000) : Calls Try.prog 38 #[v, .string (mk s)] w fun e w' => e = .returned (.bool (decide (s ∈ K))) ∧ Below w.heap.size w w' := by
  obtain ⟨a, c, rfl, hc, hra⟩ := hK
  have HA := Lib.hid hra
  clear hra
  go_enter Try.func38, Try.ntmps38
  go_wp2_with fail
  go_loopw [5] (fun i wr => ∃ j : Nat, j ≤ K.length ∧ i = .int .i64 j ∧ Hid (s ∉ K.take j) ∧ Hid (Below w.heap.size w wr)) (fun i _ => K.length - (intOf i).toNat)
  case atStart => exact ⟨0, Nat.zero_le _, rfl, Lib.hid (by simp), Lib.hid (Below.refl _ _)⟩
  case round =>
    obtain ⟨j, hj, rfl, hT, HWW⟩ := hrel
    by_cases hlt : j < K.length
    · have hx := List.getElem?_eq_getElem hlt
      have hmem := List.getElem_mem hlt
      rcases HA.out with h0 | ⟨ga, oa, rfl, hga, hca⟩
      · rw [h0] at hlt; simp at hlt
      have c1 := (cell_of_block (HWW.out.block ga hga)).trans (hca j _ hx)
      have ht1 : K.take (j + 1) = K.take j ++ [K[j]] := by rw [List.take_add_one, hx]; rfl
      generalize K[j] = x at *
      have hi0 : (0 : Int) ≤ (j : Int) := by omega
      have hi1 : (j : Int) < (K.length : Int) := by omega
      have hcmp := cmpS x s
      by_cases hxy : x = s
      · rw [decide_eq_true hxy] at hcmp
        have HE : Hid (decide (s ∈ K) = true) := Lib.hid (decide_eq_true (hxy ▸ hmem))
        clear hx hca ht1 hxy hmem
        go_wp2_with fail
        go_ret
        exact ⟨by rw [HE.out]; rfl, HWW.out⟩
      · rw [decide_eq_false hxy] at hcmp
        have HT2 : Hid (s ∉ K.take (j + 1)) := Lib.hid (by
          rw [ht1, List.mem_append]
          rintro (h | h)
          · exact hT.out h
          · exact hxy (List.mem_singleton.1 h).symm)
        clear hx hca ht1 hxy hmem
        go_wp2_with fail
        go_roundw
        case rel => exact ⟨j + 1, by omega, by go_num, HT2, HWW⟩
        case measure => simp [intOf]; omega
    · obtain rfl : j = K.length := by omega
      have HE : Hid (decide (s ∈ K) = false) := Lib.hid (decide_eq_false (by
        have := hT.out
        rwa [List.take_length] at this))
      go_wp2_with fail
      go_ret
      exact ⟨by rw [HE.out]; rfl, HWW.out⟩

/-- which edge makes a file, as the document tells it -/
def mkV (o : Option Nat) : Value := match o with | some n => .int .i64 (n : Int) | none => .int .i64 (-1)
set_option maxRecDepth 100000 in
set_option maxHeartbeats 8000000 in
theorem makerR_c {w : World} {u0 u1 : Value} {L : List Ed} {mkr : Bs → Option Nat} {s : Bs} (hL : Eds w u0 L) (hm : makers L = some mkr) (hl : L.length ≤ 1000000) (ho : ∀ e ∈ L, e.outs.length ≤ 1000000) :
    Calls Try.prog 18 #[.agg #[u0, u1], .string (mk s)] w fun e w' => e = .returned (mkV (mkr s)) ∧ Below w.heap.size w w' := by
  have hA := below_alloc w (.cells #[u0, u1] 25)
  have hb := heap_alloc_new w (.cells #[u0, u1] 25)
  obtain ⟨wB, hwB⟩ : ∃ wB, w.alloc (.cells #[u0, u1] 25) = wB := ⟨_, rfl⟩
  rw [hwB] at hA hb
  obtain ⟨a0, k0, rfl, -, -⟩ := id hL
  have c0 : wB.cell? ⟨w.heap.size, 0, none⟩ = some (.slice a0 L.length k0) := by rw [Lib.cell_of_heap hb]; rfl
  have HL := Lib.hid (hL.below hA)
  have HA := Lib.hid hA
  have HWB := Lib.hid hwB
  have HM := Lib.hid (makers_iff hm)
  have HBX := Lib.hid hb
  clear hL hA hb hwB hm
  go_enter Try.func18, Try.ntmps18
  go_upto_region 1 with fail
  rw [HWB.out]
  go_wp2_with fail
  go_loopw [5] (fun i wr => ∃ j : Nat, j ≤ L.length ∧ i = .int .i64 j ∧ Hid (∀ i e, i < j → L[i]? = some e → s ∉ e.outs) ∧ Hid (Below wB.heap.size wB wr)) (fun i _ => L.length - (intOf i).toNat)
  case atStart => exact ⟨0, Nat.zero_le _, rfl, Lib.hid (fun i e h => by omega), Lib.hid (Below.refl _ _)⟩
  case round =>
    clear c0
    obtain ⟨j, hj, rfl, hT, HWW⟩ := hrel
    have c0 : wr.cell? ⟨w.heap.size, 0, none⟩ = some (.slice a0 L.length k0) := by
      rw [cell_of_block (HWW.out.block _ (lt_some HBX.out)), Lib.cell_of_heap HBX.out]; rfl
    by_cases hlt : j < L.length
    · have hx := List.getElem?_eq_getElem hlt
      generalize L[j] = x at *
      obtain ⟨ge, off, ce, v0, v1, v2, v3, e1, hge, hE, r0, r1, r2, r3, r4, r5⟩ := (HL.out.below HWW.out).at hx
      cases e1
      have hin := in_c (s := s) hE.o (ho x (List.mem_of_getElem? hx))
      have hi0 : (0 : Int) ≤ (j : Int) := by omega
      have hi1 : (j : Int) < (L.length : Int) := by omega
      have HX := Lib.hid hx
      by_cases hs : s ∈ x.outs
      · rw [decide_eq_true hs] at hin
        have HR : Hid (mkr s = some j) := Lib.hid ((HM.out s j).2 ⟨x, hx, hs⟩)
        clear hx hE hs
        go_wp2_with fail
        refine hin.mono ?_
        rintro e w2 ⟨rfl, hb2⟩
        go_wp2_with fail
        go_ret
        exact ⟨by rw [HR.out]; rfl, HA.out.trans ((HWW.out.trans (hb2.mono HWW.out.size)).mono HA.out.size)⟩
      · rw [decide_eq_false hs] at hin
        have HT2 : Hid (∀ i e, i < j + 1 → L[i]? = some e → s ∉ e.outs) := Lib.hid fun i e hi he => by
          by_cases e2 : i = j
          · subst e2
            rw [HX.out] at he
            cases he
            exact hs
          · exact hT.out i e (by omega) he
        clear hx hE hs
        go_wp2_with fail
        refine hin.mono ?_
        rintro e w2 ⟨rfl, hb2⟩
        have HW2 := Lib.hid (HWW.out.trans (hb2.mono HWW.out.size))
        go_wp2_with fail
        go_roundw
        case rel => exact ⟨j + 1, by omega, by go_num, HT2, HW2⟩
        case measure => simp [intOf]; omega
    · obtain rfl : j = L.length := by omega
      have HR : Hid (mkr s = none) := Lib.hid (by
        cases hms : mkr s with
        | none => rfl
        | some n =>
          obtain ⟨e, h1, h2⟩ := (HM.out s n).1 hms
          exact absurd h2 (hT.out n e (List.getElem?_eq_some_iff.1 h1).1 h1))
      go_wp2_with fail
      go_ret
      exact ⟨by rw [HR.out]; rfl, HA.out.trans (HWW.out.mono HA.out.size)⟩
end Go.Proofs.Ytbflodefmookiaa.Gr
