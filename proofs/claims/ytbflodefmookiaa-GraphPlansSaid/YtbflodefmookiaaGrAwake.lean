/-
  What the chapter's example says.
-/
import Derived.Test.YtbflodefmookiaaGrLit
import Derived.Test.YtbflodefmookiaaGrNew
namespace Go.Proofs.Ytbflodefmookiaa.Gr
open Go.RowKit Go.Maps Go.Proofs.Ytbflodefmookiaa Go.Proofs.Ytbflodefmookiaa.Pr

def exL : List Ed := [⟨[[99]], [[98]], [], [], [], []⟩, ⟨[[98]], [[97]], [], [], [], []⟩]
theorem exL_makers : ∃ mkr, makers exL = some mkr ∧ mkr [99] = some 0 ∧ mkr [98] = some 1 ∧ mkr [97] = none := ⟨_, rfl, by decide, by decide, by decide⟩
theorem exL_sm : ∀ e ∈ exL, Sm e := fun e he => (fewM_of (L := exL) (D := []) (by decide)).2.2.2 e he

theorem exM {mkr : Bs → Option Nat} (h0 : mkr [99] = some 0) (h1 : mkr [98] = some 1) (h2 : mkr [97] = none) : depsL mkr exL 0 = [1] ∧ depsL mkr exL 1 = [] ∧ (∀ x, Reach mkr exL [[99]] x ↔ x ∈ [0, 1]) := by
  have d0 : depsL mkr exL 0 = [1] := by simp [depsL, exL, needsL, h1]
  have d1 : depsL mkr exL 1 = [] := by simp [depsL, exL, needsL, h2]
  refine ⟨d0, d1, fun x => ⟨fun h => ?_, fun h => ?_⟩⟩
  · induction h with
    | base hs hm =>
      rw [List.mem_singleton.1 hs, h0] at hm
      cases hm
      simp
    | step _ hd ih =>
      simp only [List.mem_cons, List.not_mem_nil, or_false] at ih
      rcases ih with rfl | rfl
      · rw [d0] at hd; simp at hd; simp [hd]
      · rw [d1] at hd; cases hd
  · have r0 : Reach mkr exL [[99]] 0 := .base (s := [99]) (by simp) h0
    simp only [List.mem_cons, List.not_mem_nil, or_false] at h
    rcases h with rfl | rfl
    · exact r0
    · exact .step r0 (by rw [d0]; simp)
theorem ex_order {mkr : Bs → Option Nat} (h0 : mkr [99] = some 0) (h1 : mkr [98] = some 1) (h2 : mkr [97] = none) : order (depsL mkr exL) [0, 1] = [1, 0] := by
  obtain ⟨d0, d1, -⟩ := exM h0 h1 h2
  have e : ∀ P, rdy [0, 1] P (left (depsL mkr exL) P) = rdy [0, 1] P (left (fun n => if n = 0 then [1] else []) P) := fun P => by
    unfold rdy
    refine List.filter_congr fun x hx => ?_
    simp only [List.mem_cons, List.not_mem_nil, or_false] at hx
    rcases hx with rfl | rfl
    · simp [rdyB, left, d0]
    · simp [rdyB, left, d1]
  have : order (depsL mkr exL) [0, 1] = order (fun n => if n = 0 then [1] else []) [0, 1] := by
    unfold order
    simp only [grd, e, List.length_cons, List.length_nil]
  rw [this]
  decide

def exO (s : Nat) : List Obj := [.cells #[.string ⟨#[99]⟩] 9, .cells #[.string ⟨#[98]⟩] 9, .cells #[.string ⟨#[98]⟩] 9, .cells #[.string ⟨#[97]⟩] 9,
  .cells #[.slice (some ⟨s, 0, none⟩) 1 1, .slice (some ⟨s + 1, 0, none⟩) 1 1, .slice none 0 0, .slice none 0 0, .string ⟨#[]⟩, .string ⟨#[]⟩, .slice (some ⟨s + 1 + 1, 0, none⟩) 1 1, .slice (some ⟨s + 1 + 1 + 1, 0, none⟩) 1 1, .slice none 0 0, .slice none 0 0, .string ⟨#[]⟩, .string ⟨#[]⟩] 52]

set_option maxRecDepth 100000 in
set_option maxHeartbeats 16000000 in
theorem awake_c (w : World) : Calls Try.prog 14 #[] w fun e w' => e = .returned (.bool true) ∧ Below w.heap.size w w' := by
  obtain ⟨s, hs⟩ : ∃ s, w.heap.size = s := ⟨_, rfl⟩
  obtain ⟨W, hW⟩ : ∃ W, allocs w (exO s) = W := ⟨_, rfl⟩
  have hB : Below w.heap.size w W := hW ▸ allocs_below (exO s) w
  have hg : ∀ i o, (exO s)[i]? = some o → W.heap[s + i]? = some o := fun i o h => by
    have := allocs_get (exO s) w i o h
    rw [hs, hW] at this
    exact this
  have hn0 : Strs W (.slice none 0 0) [] := strs_none W
  have hE : Eds W (.slice (some ⟨s + 4, 0, none⟩) 2 2) exL := eds_two (hg 4 _ rfl) ⟨strs_blk (K := [[99]]) (hg 0 _ rfl) rfl, strs_blk (K := [[98]]) (hg 1 _ rfl) rfl, hn0, hn0⟩ ⟨strs_blk (K := [[98]]) (hg 2 _ rfl) rfl, strs_blk (K := [[97]]) (hg 3 _ rfl) rfl, hn0, hn0⟩
  have hc := New_c hE hn0 exL_sm (by decide) (by decide)
  have HB := Lib.hid hB
  have HW := Lib.hid hW
  rw [← hW] at hc
  clear hW hB hg hn0 hE
  go_enter Try.func14, Try.ntmps14
  go_wp2_with fail
  refine hc.mono ?_
  rintro e w1 ⟨h1, -, -, hb⟩
  rw [HW.out] at hb
  obtain ⟨mkr, hm, m0, m1, m2⟩ := exL_makers
  have hR : List.range exL.length = [0, 1] := rfl
  obtain ⟨gp, ve, vd, m, n, rfl, hG⟩ := h1 mkr hm (by rw [hR, ex_order m0 m1 m2]; rfl)
  have HB1 := Lib.hid (HB.out.trans (hb.mono HB.out.size))
  clear hc h1 hb hm hR HW HB
  have hA := below_alloc w1 (.cells #[.string ⟨#[99]⟩] 9)
  have hK := strs_blk (K := [[99]]) (heap_alloc_new w1 (.cells #[.string ⟨#[99]⟩] 9)) rfl
  have hp := plan_c (hG.below hA) hK (by decide) (by decide)
  have HB2 := Lib.hid (HB1.out.trans (hA.mono HB1.out.size))
  have HSM : Hid (∀ s ∈ [[(99 : UInt8)]], Kno mkr exL s) := Lib.hid fun s hs => .inr (by rw [List.mem_singleton.1 hs, m0]; rfl)
  have HEX : Hid (∀ M : List Nat, M.Pairwise (· < ·) → (∀ x, x ∈ M ↔ Reach mkr exL [[99]] x) → order (depsL mkr exL) M = [1, 0]) := Lib.hid fun M h1 h2 => by
    rw [rising_eq h1 (B := [0, 1]) (by decide) fun x => (h2 x).trans ((exM m0 m1 m2).2.2 x)]
    exact ex_order m0 m1 m2
  clear hA hK hG m0 m1 m2 HB1
  go_wp2_with fail
  refine hp.mono ?_
  rintro e w2 ⟨hb2, ⟨⟨s, hs, hk⟩, -⟩ | ⟨-, v, M, rfl, hM1, hM2, hrow⟩⟩
  · exact absurd (HSM.out s hs) hk
  rw [HEX.out M hM1 hM2] at hrow
  have HB3 := Lib.hid (HB2.out.trans (hb2.mono HB2.out.size))
  have hA := below_alloc w2 (.cells #[.int .i64 1, .int .i64 0] 3)
  have hJ := ints_blk (M := [1, 0]) (heap_alloc_new w2 (.cells #[.int .i64 1, .int .i64 0] 3)) rfl
  have hnum := numbers_c (hrow.read.below hA) hJ (by decide)
  rw [decide_eq_true rfl] at hnum
  have HB4 := Lib.hid (HB3.out.trans (hA.mono HB3.out.size))
  clear hp hM1 hM2 hrow hb2 hA hJ HEX HSM HB2 HB3
  go_wp2_with fail
  refine hnum.mono ?_
  rintro e w3 ⟨rfl, hb⟩
  have HB5 := Lib.hid (HB4.out.trans (hb.mono HB4.out.size))
  clear hnum hb
  go_wp2_with fail
  go_ret
  exact ⟨rfl, HB5.out⟩
end Go.Proofs.Ytbflodefmookiaa.Gr
