/-
  ROWS OF YthgahbjelcmelaaDoorS COMPARED; what the chapter's example says; the law DepfileTwo, walked.
-/
import Derived.Test.YthgahbjelcmelaaDoorDfTwoM
namespace Go.Proofs.YthgahbjelcmelaaDoor.Df
open Go.RowKit Go.Proofs.YthgahbjelcmelaaDoor

theorem bel_drawn {w W : World} {B : Nat} (h : Below B w W) (n : Nat) : Below B w (W.drewN n) := ⟨h.os, h.tape, h.output, h.size, h.block⟩

set_option maxRecDepth 100000 in
set_option maxHeartbeats 4000000 in
theorem rows_c {w : World} {va vb : Value} {K M : List Bs} (hK : Strs w va K) (hM : Strs w vb M) (hk : K.length ≤ 1000000) :
    Calls Tryd.prog 8 #[va, vb] w fun e w' => e = .returned (.bool (decide (K = M))) ∧ Below w.heap.size w w' := by
  obtain ⟨a, c, rfl, hc, hra⟩ := hK
  obtain ⟨b, d, rfl, hd, hrb⟩ := hM
  by_cases hl : K.length = M.length
  rotate_left 1
  · have t1 : (((K.length : Nat) : Int) != ((M.length : Nat) : Int)) = true := by rw [bne_iff_ne]; omega
    have t2 : ¬ ((K.length : Int) = (M.length : Int)) := by omega
    have HE : Hid (decide (K = M) = false) := Lib.hid (decide_eq_false fun e => hl (by rw [e]))
    generalize K.length = kl at *
    generalize M.length = ml at *
    clear hl
    go_enter Tryd.func8, Tryd.ntmps8
    go_wp2_with fail
    go_ret
    exact ⟨by rw [HE.out]; rfl, Below.refl _ _⟩
  have HL := Lib.hid hl
  have HA := Lib.hid hra
  have HB := Lib.hid hrb
  have t1 : (((K.length : Nat) : Int) != ((K.length : Nat) : Int)) = false := by simp
  rw [← hl] at hd ⊢
  clear hl hra hrb
  go_enter Tryd.func8, Tryd.ntmps8
  go_wp2_with fail
  go_loopw [5] (fun i wr => ∃ j : Nat, j ≤ K.length ∧ i = .int .i64 j ∧ Hid (K.take j = M.take j) ∧ Hid (Below w.heap.size w wr)) (fun i _ => K.length - (intOf i).toNat)
  case atStart => exact ⟨0, Nat.zero_le _, rfl, Lib.hid rfl, Lib.hid (Below.refl _ _)⟩
  case round =>
    obtain ⟨j, hj, rfl, hT, hBw⟩ := hrel
    by_cases hlt : j < K.length
    · have hx := List.getElem?_eq_getElem hlt
      have hltM : j < M.length := by have := HL.out; omega
      have hy := List.getElem?_eq_getElem hltM
      rcases HA.out with h0 | ⟨ga, oa, rfl, hga, hca⟩
      · rw [h0] at hlt; simp at hlt
      rcases HB.out with h0 | ⟨gb, ob, rfl, hgb, hcb⟩
      · rw [h0] at hltM; simp at hltM
      have c1 : wr.cell? ⟨ga, oa + j, none⟩ = some (.string (mk K[j])) := (cell_of_block (hBw.out.block ga hga)).trans (hca j _ hx)
      have c2 : wr.cell? ⟨gb, ob + j, none⟩ = some (.string (mk M[j])) := (cell_of_block (hBw.out.block gb hgb)).trans (hcb j _ hy)
      have ht1 : K.take (j + 1) = K.take j ++ [K[j]] := by rw [List.take_add_one, hx]; rfl
      have ht2 : M.take (j + 1) = M.take j ++ [M[j]] := by rw [List.take_add_one, hy]; rfl
      generalize K[j] = x at *
      generalize M[j] = y at *
      have HT1 := Lib.hid ht1
      have HT2 := Lib.hid ht2
      have hi0 : (0 : Int) ≤ (j : Int) := by omega
      have hi1 : (j : Int) < (K.length : Int) := by omega
      have hcmp := cmpS x y
      by_cases hxy : x = y
      · rw [decide_eq_true hxy] at hcmp
        have HTN : Hid (K.take (j + 1) = M.take (j + 1)) := Lib.hid (by rw [HT1.out, HT2.out, hT.out, hxy])
        clear hx hy hca hcb ht1 ht2 hxy
        go_wp2_with fail
        go_quiet (fail)
        go_wp2_with fail
        go_roundw
        case rel => exact ⟨j + 1, by omega, by go_num, HTN, Lib.hid (bel_drawn hBw.out _)⟩
        case measure => simp [intOf]; omega
      · rw [decide_eq_false hxy] at hcmp
        have HE : Hid (decide (K = M) = false) := Lib.hid (decide_eq_false fun e => hxy (by
          have h1 := HT1.out
          have h2 := HT2.out
          rw [e] at h1
          rw [h1] at h2
          have := List.append_inj_right' h2 rfl
          simpa using this))
        clear hx hy hca hcb ht1 ht2 hxy
        go_wp2_with fail
        go_quiet (fail)
        go_wp2_with fail
        go_ret
        exact ⟨by rw [HE.out]; rfl, bel_drawn hBw.out _⟩
    · obtain rfl : j = K.length := by omega
      have HE : Hid (decide (K = M) = true) := Lib.hid (decide_eq_true (by
        have h1 := hT.out
        rw [List.take_length, HL.out, List.take_length] at h1
        exact h1))
      go_wp2_with fail
      go_ret
      exact ⟨by rw [HE.out]; rfl, hBw.out⟩

theorem lit_strs (w : World) (K : List Bs) (C : Array Value) (hC : C = (strV K).toArray) : Strs (w.alloc (.cells C 9)) (.slice (some ⟨w.heap.size, 0, none⟩) K.length K.length) K := by
  refine ⟨_, _, rfl, Nat.le_refl _, .inr ⟨w.heap.size, 0, rfl, by rw [World.size_alloc]; omega, fun j p hp => ?_⟩⟩
  rw [Nat.zero_add]
  have h1 : (w.alloc (.cells C 9)).heap[w.heap.size]? = some (.cells C 9 (0, 0)) := heap_alloc_new _ _
  have h2 : C[j]? = some (.string (mk p)) := by rw [hC]; simp [strV, hp]
  simp only [World.cell?, h1]
  exact h2

set_option maxRecDepth 100000 in
set_option maxHeartbeats 4000000 in
theorem awake_c (w : World) (hg : Gl w) : Calls Tryd.prog 9 #[] w fun e w' => e = .returned (.bool true) ∧ Below w.heap.size w w' := by
  have hp := parse_c [111, 58, 32, 97, 32, 92, 10, 32, 98, 47, 46, 46, 47, 99] (by decide) w hg
  rw [some_3] at hp
  have hp2 : Calls Tryd.prog 6 #[.string ⟨#[111, 58, 32, 97, 32, 92, 10, 32, 98, 47, 46, 46, 47, 99]⟩] w (PaQ w (some ([111], [[97], [99]]))) := hp
  clear hp
  go_enter Tryd.func9, Tryd.ntmps9
  go_wp2_with fail
  refine hp2.mono ?_
  rintro e w1 ⟨⟨v, rfl, ho⟩, hb⟩
  have hb2 : Below w.heap.size w (w1.alloc (.cells #[.string ⟨#[97]⟩, .string ⟨#[99]⟩] 9)) := hb.alloc hb.size _
  have HB2 := Lib.hid hb2
  have hs1 := (owns_strs ho).below (below_alloc w1 (.cells #[.string ⟨#[97]⟩, .string ⟨#[99]⟩] 9))
  have hs2 := lit_strs w1 [[97], [99]] #[.string ⟨#[97]⟩, .string ⟨#[99]⟩] rfl
  have cr := rows_c hs1 hs2 (by decide)
  have cr2 : Calls Tryd.prog 8 #[v, .slice (some ⟨w1.heap.size, 0, none⟩) 2 2] (w1.alloc (.cells #[.string ⟨#[97]⟩, .string ⟨#[99]⟩] 9)) fun e w' => e = .returned (.bool true) ∧ Below (w1.alloc (.cells #[.string ⟨#[97]⟩, .string ⟨#[99]⟩] 9)).heap.size (w1.alloc (.cells #[.string ⟨#[97]⟩, .string ⟨#[99]⟩] 9)) w' := cr
  have t1 : ((mk [111]).toList == [111]) = true := by rw [mk_toList]; rfl
  clear hp2 hb hb2 hs1 hs2 cr ho
  go_wp2_with fail
  refine cr2.mono ?_
  rintro e w2 ⟨rfl, hb2⟩
  have HB3 := Lib.hid (HB2.out.trans (hb2.mono HB2.out.size))
  clear cr2 hb2
  go_wp2_with fail
  go_ret
  exact ⟨rfl, HB3.out⟩

theorem no_form {w : World} {s : Bs} {e : Ending} {w' : World} (h : PaQ w (parseP s) e w') (hn : parseP s = none) : e = .returned (.tuple #[.string ⟨#[]⟩, .slice none 0 0, .int .i64 14]) ∧ Below w.heap.size w w' := by
  rw [hn] at h
  exact h

set_option maxRecDepth 100000 in
set_option maxHeartbeats 8000000 in
theorem twoW_c (s : Bs) (w : World) (hg : Gl w) : Calls Tryd.prog 5 #[.string (mk s)] w fun e w' => e = .returned (.bool true) ∧ Below w.heap.size w w' := by
  have hsz := mk_size s
  by_cases hbig : 1000 < s.length
  · have t0 : (1000 : Int) < ((mk s).size : Int) := by rw [hsz]; omega
    clear hsz
    generalize mk s = S at *
    go_enter Tryd.func5, Tryd.ntmps5
    go_wp2_with fail
    go_ret
    exact ⟨rfl, Below.refl _ _⟩
  have t0 : decide ((1000 : Int) < ((mk s).size : Int)) = false := decide_eq_false (by rw [hsz]; omega)
  have cp := parse_c s (by omega) w hg
  have HGL : Hid (∀ W, Below w.heap.size w W → Gl W) := Lib.hid fun W hW => hg.below hW hg.lt
  have HN : Hid (∀ (l : Bs), l.length ≤ 2000 → parseP l = none → ∀ W, Below w.heap.size w W → Calls Tryd.prog 6 #[.string (mk l)] W fun e w' => e = .returned (.tuple #[.string ⟨#[]⟩, .slice none 0 0, .int .i64 14]) ∧ Below W.heap.size W w') := Lib.hid fun l hl hn W hW => (parse_c l (by omega) W (HGL.out W hW)).mono fun e w' h => no_form h hn
  clear hg
  cases hP : parseP s with
  | none =>
    rw [hP] at cp
    have cp2 : Calls Tryd.prog 6 #[.string (mk s)] w fun e w' => e = .returned (.tuple #[.string ⟨#[]⟩, .slice none 0 0, .int .i64 14]) ∧ Below w.heap.size w w' := cp
    clear cp hP
    go_enter Tryd.func5, Tryd.ntmps5
    go_wp2_with fail
    refine cp2.mono ?_
    rintro e w1 ⟨rfl, hb1⟩
    have HB1 := Lib.hid hb1
    have c1 : Calls Tryd.prog 6 #[.string ⟨#[]⟩] w1 _ := HN.out [] (by decide) some_0 w1 hb1
    clear cp2 hb1
    go_wp2_with fail
    refine c1.mono ?_
    rintro e w2 ⟨rfl, hb2⟩
    have HB2 := Lib.hid (HB1.out.trans (hb2.mono HB1.out.size))
    have c2 : Calls Tryd.prog 6 #[.string ⟨#[97, 32, 98]⟩] w2 _ := HN.out [97, 32, 98] (by decide) some_1 w2 HB2.out
    clear c1 hb2
    go_wp2_with fail
    refine c2.mono ?_
    rintro e w3 ⟨rfl, hb3⟩
    have HB3 := Lib.hid (HB2.out.trans (hb3.mono HB2.out.size))
    have c3 : Calls Tryd.prog 6 #[.string ⟨#[58, 32, 97]⟩] w3 _ := HN.out [58, 32, 97] (by decide) some_2 w3 HB3.out
    clear c2 hb3
    go_wp2_with fail
    refine c3.mono ?_
    rintro e w4 ⟨rfl, hb4⟩
    have HB4 := Lib.hid (HB3.out.trans (hb4.mono HB3.out.size))
    have ca := awake_c w4 (HGL.out w4 HB4.out)
    clear c3 hb4
    go_wp2_with fail
    refine ca.mono ?_
    rintro e w5 ⟨rfl, hb5⟩
    have HB5 := Lib.hid (HB4.out.trans (hb5.mono HB4.out.size))
    clear ca hb5
    go_wp2_with fail
    go_ret
    exact ⟨rfl, HB5.out⟩
  | some od =>
    obtain ⟨o, d⟩ := od
    have hne : parseP s ≠ none := by rw [hP]; simp
    have n1 := two_nl hne
    have n2 := two_colon hne
    have n3 := two_slash hne
    rw [hP] at cp
    have a1 : mk s ++ ⟨#[10, 120]⟩ = mk (s ++ [10, 120]) := mk_append s [10, 120]
    have a2 : mk s ++ ⟨#[32, 121, 58, 32, 122]⟩ = mk (s ++ [32, 121, 58, 32, 122]) := mk_append s _
    have a3 : mk s ++ ⟨#[32, 47, 121]⟩ = mk (s ++ [32, 47, 121]) := mk_append s _
    have HC1 := Lib.hid (HN.out (s ++ [10, 120]) (by simp; omega) n1)
    have HC2 := Lib.hid (HN.out (s ++ [32, 121, 58, 32, 122]) (by simp; omega) n2)
    have HC3 := Lib.hid (HN.out (s ++ [32, 47, 121]) (by simp; omega) n3)
    rw [← a1] at HC1
    rw [← a2] at HC2
    rw [← a3] at HC3
    have cp2 : Calls Tryd.prog 6 #[.string (mk s)] w fun e w' => (∃ v, e = .returned (.tuple #[.string (mk o), v, .int .i64 0]) ∧ w'.ownsRow w.heap.size 9 1 v d.length (strV d)) ∧ Below w.heap.size w w' := cp
    have hss : s.length ≤ 1000 := by omega
    have z1 : ¬ 9223372036854775807 < (mk s).size + (⟨#[10, 120]⟩ : ByteArray).size := by rw [hsz]; show ¬ _ < s.length + 2; omega
    have z2 : ¬ 9223372036854775807 < (mk s).size + (⟨#[32, 121, 58, 32, 122]⟩ : ByteArray).size := by rw [hsz]; show ¬ _ < s.length + 5; omega
    have z3 : ¬ 9223372036854775807 < (mk s).size + (⟨#[32, 47, 121]⟩ : ByteArray).size := by rw [hsz]; show ¬ _ < s.length + 3; omega
    clear cp hP hne n1 n2 n3 a1 a2 a3 hsz hbig hss
    generalize mk s = S at *
    go_enter Tryd.func5, Tryd.ntmps5
    go_wp2_with fail
    refine cp2.mono ?_
    rintro e w1 ⟨⟨v, rfl, -⟩, hb1⟩
    have HB1 := Lib.hid hb1
    have c1 := HC1.out w1 hb1
    clear cp2 hb1
    go_wp2_with fail
    refine c1.mono ?_
    rintro e w2 ⟨rfl, hb2⟩
    have HB2 := Lib.hid (HB1.out.trans (hb2.mono HB1.out.size))
    have c2 := HC2.out w2 HB2.out
    clear c1 hb2
    go_wp2_with fail
    refine c2.mono ?_
    rintro e w3 ⟨rfl, hb3⟩
    have HB3 := Lib.hid (HB2.out.trans (hb3.mono HB2.out.size))
    have c3 := HC3.out w3 HB3.out
    clear c2 hb3
    go_wp2_with fail
    refine c3.mono ?_
    rintro e w4 ⟨rfl, hb4⟩
    have HB4 := Lib.hid (HB3.out.trans (hb4.mono HB3.out.size))
    have ca := awake_c w4 (HGL.out w4 HB4.out)
    clear c3 hb4
    go_wp2_with fail
    refine ca.mono ?_
    rintro e w5 ⟨rfl, hb5⟩
    have HB5 := Lib.hid (HB4.out.trans (hb5.mono HB4.out.size))
    clear ca hb5
    go_wp2_with fail
    go_ret
    exact ⟨rfl, HB5.out⟩
end Go.Proofs.YthgahbjelcmelaaDoor.Df
