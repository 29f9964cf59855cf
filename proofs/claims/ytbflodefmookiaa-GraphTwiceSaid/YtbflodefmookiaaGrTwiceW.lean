/-
  The law GraphTwice, walked.
-/
import Derived.Test.YtbflodefmookiaaGrAwake
namespace Go.Proofs.Ytbflodefmookiaa.Gr
open Go.RowKit Go.Maps Go.Proofs.Ytbflodefmookiaa Go.Proofs.Ytbflodefmookiaa.Pr

def twL : List Ed := [⟨[[97]], [[97]], [], [], [], []⟩, ⟨[[98]], [[97]], [], [], [], []⟩, ⟨[[98]], [], [], [], [], []⟩]
def twL1 : List Ed := [⟨[[97], [97]], [[97]], [], [], [], []⟩]
def cyL : List Ed := [⟨[[97]], [[97]], [], [], [], []⟩]
theorem cyL_makers : ∃ mkr, makers cyL = some mkr ∧ mkr [97] = some 0 := ⟨_, rfl, by decide⟩
theorem cy_order {mkr : Bs → Option Nat} (h : mkr [97] = some 0) : order (depsL mkr cyL) (List.range cyL.length) = [] := by
  have d0 : depsL mkr cyL 0 = [0] := by simp [depsL, cyL, needsL, h]
  have hr : List.range cyL.length = [0] := rfl
  rw [hr]
  simp [order, grd, rdy, rdyB, left, d0]
def twO (s : Nat) : List Obj := [.cells #[.string ⟨#[97]⟩] 9, .cells #[.string ⟨#[97]⟩] 9, .cells #[.string ⟨#[98]⟩] 9, .cells #[.string ⟨#[97]⟩] 9, .cells #[.string ⟨#[98]⟩] 9,
  .cells #[.slice (some ⟨s, 0, none⟩) 1 1, .slice (some ⟨s + 1, 0, none⟩) 1 1, .slice none 0 0, .slice none 0 0, .string ⟨#[]⟩, .string ⟨#[]⟩, .slice (some ⟨s + 1 + 1, 0, none⟩) 1 1, .slice (some ⟨s + 1 + 1 + 1, 0, none⟩) 1 1, .slice none 0 0, .slice none 0 0, .string ⟨#[]⟩, .string ⟨#[]⟩,
    .slice (some ⟨s + 1 + 1 + 1 + 1, 0, none⟩) 1 1, .slice none 0 0, .slice none 0 0, .slice none 0 0, .string ⟨#[]⟩, .string ⟨#[]⟩] 52,
  .cells #[.slice (some ⟨s + 1 + 1 + 1 + 1 + 1, 0, none⟩) 3 3, .slice none 0 0] 33]

def twO1 (s : Nat) : List Obj := [.cells #[.string ⟨#[97]⟩] 9, .cells #[.string ⟨#[97]⟩] 9, .cells #[.string ⟨#[98]⟩] 9, .cells #[.string ⟨#[97]⟩] 9, .cells #[.string ⟨#[98]⟩] 9,
  .cells #[.slice (some ⟨s, 0, none⟩) 1 1, .slice (some ⟨s + 1, 0, none⟩) 1 1, .slice none 0 0, .slice none 0 0, .string ⟨#[]⟩, .string ⟨#[]⟩, .slice (some ⟨s + 1 + 1, 0, none⟩) 1 1, .slice (some ⟨s + 1 + 1 + 1, 0, none⟩) 1 1, .slice none 0 0, .slice none 0 0, .string ⟨#[]⟩, .string ⟨#[]⟩,
    .slice (some ⟨s + 1 + 1 + 1 + 1, 0, none⟩) 1 1, .slice none 0 0, .slice none 0 0, .slice none 0 0, .string ⟨#[]⟩, .string ⟨#[]⟩] 52,
  .cells #[.slice (some ⟨s + 1 + 1 + 1 + 1 + 1 + 1 + 1 + 1 + 1, 0, none⟩) 1 1, .slice none 0 0] 33,
  .cells #[.string ⟨#[97]⟩, .string ⟨#[97]⟩] 9, .cells #[.string ⟨#[97]⟩] 9,
  .cells #[.slice (some ⟨s + 1 + 1 + 1 + 1 + 1 + 1 + 1, 0, none⟩) 2 2, .slice (some ⟨s + 1 + 1 + 1 + 1 + 1 + 1 + 1 + 1, 0, none⟩) 1 1, .slice none 0 0, .slice none 0 0, .string ⟨#[]⟩, .string ⟨#[]⟩] 52]
def cyO (s : Nat) : List Obj := [.cells #[.string ⟨#[97]⟩] 9, .cells #[.string ⟨#[97]⟩] 9, .cells #[.slice (some ⟨s, 0, none⟩) 1 1, .slice (some ⟨s + 1, 0, none⟩) 1 1, .slice none 0 0, .slice none 0 0, .string ⟨#[]⟩, .string ⟨#[]⟩] 52]
theorem laid (os : Nat → List Obj) (w : World) : ∃ W, allocs w (os w.heap.size) = W ∧ Below w.heap.size w W ∧ ∀ i o, (os w.heap.size)[i]? = some o → W.heap[w.heap.size + i]? = some o := ⟨_, rfl, allocs_below _ w, fun i o h => allocs_get _ w i o h⟩
theorem tw_new (w : World) : ∃ W, allocs w (twO w.heap.size) = W ∧ Below w.heap.size w W ∧ W.cell? ⟨w.heap.size + 6, 0, none⟩ = some (.slice (some ⟨w.heap.size + 5, 0, none⟩) 3 3) ∧ W.cell? ⟨w.heap.size + 6, 1, none⟩ = some (.slice none 0 0) ∧
    Calls Try.prog 11 #[.agg #[.slice (some ⟨w.heap.size + 5, 0, none⟩) 3 3, .slice none 0 0]] W fun e w' => e = .returned (.tuple #[.pointer none, .int .i64 11]) ∧ Below W.heap.size W w' := by
  obtain ⟨W, hW, hB, hg⟩ := laid twO w
  have hn0 : Strs W (.slice none 0 0) [] := strs_none W
  have hE : Eds W (.slice (some ⟨w.heap.size + 5, 0, none⟩) 3 3) twL := eds_three (hg 5 _ rfl) ⟨strs_blk (K := [[97]]) (hg 0 _ rfl) rfl, strs_blk (K := [[97]]) (hg 1 _ rfl) rfl, hn0, hn0⟩ ⟨strs_blk (K := [[98]]) (hg 2 _ rfl) rfl, strs_blk (K := [[97]]) (hg 3 _ rfl) rfl, hn0, hn0⟩ ⟨strs_blk (K := [[98]]) (hg 4 _ rfl) rfl, hn0, hn0, hn0⟩
  exact ⟨W, hW, hB, by rw [Lib.cell_of_heap (hg 6 _ rfl)]; rfl, by rw [Lib.cell_of_heap (hg 6 _ rfl)]; rfl,
    (New_c hE hn0 (L := twL) (D := []) (fewM_of (L := twL) (D := []) (by decide)).2.2.2 (by decide) (by decide)).mono fun e w' h => ⟨h.2.2.1 rfl, h.2.2.2⟩⟩
theorem tw_new1 (w : World) : ∃ W, allocs w (twO1 w.heap.size) = W ∧ Below w.heap.size w W ∧ W.cell? ⟨w.heap.size + 6, 0, none⟩ = some (.slice (some ⟨w.heap.size + 9, 0, none⟩) 1 1) ∧ W.cell? ⟨w.heap.size + 6, 1, none⟩ = some (.slice none 0 0) ∧
    Calls Try.prog 11 #[.agg #[.slice (some ⟨w.heap.size + 9, 0, none⟩) 1 1, .slice none 0 0]] W fun e w' => e = .returned (.tuple #[.pointer none, .int .i64 11]) ∧ Below W.heap.size W w' := by
  obtain ⟨W, hW, hB, hg⟩ := laid twO1 w
  have hn0 : Strs W (.slice none 0 0) [] := strs_none W
  have hE : Eds W (.slice (some ⟨w.heap.size + 9, 0, none⟩) 1 1) twL1 := eds_one (hg 9 _ rfl) ⟨strs_blk (K := [[97], [97]]) (hg 7 _ rfl) rfl, strs_blk (K := [[97]]) (hg 8 _ rfl) rfl, hn0, hn0⟩
  exact ⟨W, hW, hB, by rw [Lib.cell_of_heap (hg 6 _ rfl)]; rfl, by rw [Lib.cell_of_heap (hg 6 _ rfl)]; rfl,
    (New_c hE hn0 (L := twL1) (D := []) (fewM_of (L := twL1) (D := []) (by decide)).2.2.2 (by decide) (by decide)).mono fun e w' h => ⟨h.2.2.1 rfl, h.2.2.2⟩⟩
theorem cy_new (w : World) : ∃ W, allocs w (cyO w.heap.size) = W ∧ Below w.heap.size w W ∧
    Calls Try.prog 11 #[.agg #[.slice (some ⟨w.heap.size + 2, 0, none⟩) 1 1, .slice none 0 0]] W fun e w' => e = .returned (.tuple #[.pointer none, .int .i64 12]) ∧ Below W.heap.size W w' := by
  obtain ⟨W, hW, hB, hg⟩ := laid cyO w
  have hn0 : Strs W (.slice none 0 0) [] := strs_none W
  have hE : Eds W (.slice (some ⟨w.heap.size + 2, 0, none⟩) 1 1) cyL := eds_one (hg 2 _ rfl) ⟨strs_blk (K := [[97]]) (hg 0 _ rfl) rfl, strs_blk (K := [[97]]) (hg 1 _ rfl) rfl, hn0, hn0⟩
  obtain ⟨mkr, hm, m0⟩ := cyL_makers
  exact ⟨W, hW, hB, (New_c hE hn0 (L := cyL) (D := []) (fewM_of (L := cyL) (D := []) (by decide)).2.2.2 (by decide) (by decide)).mono fun e w' h => ⟨h.2.1 mkr hm (by rw [cy_order m0]; decide), h.2.2.2⟩⟩

set_option maxRecDepth 100000 in
set_option maxHeartbeats 16000000 in
theorem graphTwice_w (one : Bool) (w : World) : Calls Try.prog 8 #[.bool one] w fun e w' => e = .returned (.bool true) ∧ Below w.heap.size w w' := by
  have HT := Lib.hid (tw_new w)
  have HT1 := Lib.hid (tw_new1 w)
  obtain ⟨s, hs⟩ : ∃ s, w.heap.size = s := ⟨_, rfl⟩
  rw [hs] at HT HT1
  go_enter Try.func8, Try.ntmps8
  cases one with
  | false =>
    obtain ⟨W, hW, hB, c0, c1, hc⟩ := HT.out
    have HW := Lib.hid hW
    have HB : Hid (Below w.heap.size w W) := Lib.hid (by rw [hs]; exact hB)
    clear hW hB
    go_upto_region 4 with fail
    change Code.wp _ _ _ _ (allocs w (twO s))
    rw [HW.out]
    clear HW HT HT1
    go_wp2_with fail
    refine hc.mono ?_
    rintro e w1 ⟨rfl, hb⟩
    obtain ⟨W2, hW2, hB2, hc2⟩ := cy_new w1
    have HB2 := Lib.hid (HB.out.trans ((hb.trans (hB2.mono hb.size)).mono HB.out.size))
    have HW2 := Lib.hid hW2
    obtain ⟨s1, hs1⟩ : ∃ s1, w1.heap.size = s1 := ⟨_, rfl⟩
    rw [hs1] at hc2 HW2
    clear hc c0 c1 hb hW2 hB2 hs HB
    rw [← HW2.out] at hc2
    go_wp2_with fail
    refine hc2.mono ?_
    rintro e w2 ⟨rfl, hb⟩
    rw [HW2.out] at hb
    have HB3 := Lib.hid (HB2.out.trans (hb.mono HB2.out.size))
    clear hc2 hb HW2 hs1 HB2
    go_wp2_with fail
    refine (awake_c w2).mono ?_
    rintro e w3 ⟨rfl, hb⟩
    have HB4 := Lib.hid (HB3.out.trans (hb.mono HB3.out.size))
    clear hb
    go_wp2_with fail
    go_ret
    exact ⟨rfl, HB4.out⟩
  | true =>
    obtain ⟨W, hW, hB, c0, c1, hc⟩ := HT1.out
    have HW := Lib.hid hW
    have HB : Hid (Below w.heap.size w W) := Lib.hid (by rw [hs]; exact hB)
    clear hW hB
    go_upto_region 4 with fail
    change Code.wp _ _ _ _ (allocs w (twO1 s))
    rw [HW.out]
    clear HW HT HT1
    go_wp2_with fail
    refine hc.mono ?_
    rintro e w1 ⟨rfl, hb⟩
    obtain ⟨W2, hW2, hB2, hc2⟩ := cy_new w1
    have HB2 := Lib.hid (HB.out.trans ((hb.trans (hB2.mono hb.size)).mono HB.out.size))
    have HW2 := Lib.hid hW2
    obtain ⟨s1, hs1⟩ : ∃ s1, w1.heap.size = s1 := ⟨_, rfl⟩
    rw [hs1] at hc2 HW2
    clear hc c0 c1 hb hW2 hB2 hs HB
    rw [← HW2.out] at hc2
    go_wp2_with fail
    refine hc2.mono ?_
    rintro e w2 ⟨rfl, hb⟩
    rw [HW2.out] at hb
    have HB3 := Lib.hid (HB2.out.trans (hb.mono HB2.out.size))
    clear hc2 hb HW2 hs1 HB2
    go_wp2_with fail
    refine (awake_c w2).mono ?_
    rintro e w3 ⟨rfl, hb⟩
    have HB4 := Lib.hid (HB3.out.trans (hb.mono HB3.out.size))
    clear hb
    go_wp2_with fail
    go_ret
    exact ⟨rfl, HB4.out⟩
end Go.Proofs.Ytbflodefmookiaa.Gr
