/-
  lex.Words, WALKED.
-/
import Derived.Test.YtbohnjiachnadaaDoorStrBase
import Derived.Test.YtbohnjiachnadaaDoorRgLate
import Derived.Test.YtbohnjiachnadaaDoorLxShelf
namespace Go.Proofs.YtbohnjiachnadaaDoor
open Go.RowKit

set_option maxHeartbeats 1000000 in
/-- strings.Clone -/
theorem clone_c (s : ByteArray) (w : World) (hs : s.size ≤ 281474976710656) :
    Calls Tryd.prog 18 #[.string s] w fun e w' => e = .returned (.string s) ∧ Below w.heap.size w w' := by
  go_enter Tryd.func18, Tryd.ntmps18
  go_wp2_with fail
  refine (shstringsliteClone s w hs).mono ?_
  rintro e w1 ⟨rfl, hb⟩
  go_wp2
  go_ret
  exact ⟨rfl, hb⟩

namespace Lx

theorem prefix_bars (l : Bs) : Lib.hasPrefix l [124, 124] = true ↔ ∃ t, l = 124 :: 124 :: t := by
  rcases l with _ | ⟨a, _ | ⟨b, t⟩⟩
  · simp [Lib.hasPrefix]
  · simp [Lib.hasPrefix, List.isPrefixOf]
  · simp [Lib.hasPrefix, List.isPrefixOf]
    constructor
    · rintro ⟨h1, h2⟩; exact ⟨h1.symm, h2.symm⟩
    · rintro ⟨h1, h2⟩; exact ⟨h1.symm, h2.symm⟩

/-- how many bytes the sign has that a text begins with -/
def signN (l : Bs) : Nat := if Lib.hasPrefix l [124, 124] = true then 2 else 1

set_option maxHeartbeats 1000000 in
theorem sign_len (l : Bs) (w : World) : Calls Tryd.prog 19 #[.string (mk l)] w fun e w' => e = .returned (.int .i64 (signN l : Nat)) ∧ w = w' := by
  have hp := shstringsHasPrefix (mk l) (mk [124, 124]) w
  rw [mk_bytes, mk_bytes] at hp
  have hs : signN l = if Lib.hasPrefix l [124, 124] = true then 2 else 1 := rfl
  generalize signN l = n at *
  generalize Lib.hasPrefix l [124, 124] = b at *
  change Calls Tryd.prog 27 #[.string (mk l), .string ⟨#[124, 124]⟩] w _ at hp
  cases b
  · obtain rfl : n = 1 := hs
    go_enter Tryd.func19, Tryd.ntmps19
    go_wp2_with (refine hp.mono ?_; rintro e w1 ⟨rfl, rfl⟩)
    go_ret
    exact ⟨rfl, rfl⟩
  · obtain rfl : n = 2 := hs
    go_enter Tryd.func19, Tryd.ntmps19
    go_wp2_with (refine hp.mono ?_; rintro e w1 ⟨rfl, rfl⟩)
    go_ret
    exact ⟨rfl, rfl⟩

/-- the words told so far: the boxes of the text and of the row -/
structure Tel (w0 W : World) (bs bw : Nat) (S : Bs) (v : Value) (K : List Bs) : Prop where
  txt : W.heap[bs]? = some (.cells #[.string (mk S)] 9 (0, 0))
  box : W.heap[bw]? = some (.cells #[v] 30 (0, 0))
  own : W.ownsRow (bw + 1) 9 1 v K.length (strV K)
  lt : bs < bw
  ge : w0.heap.size ≤ bs
  bel : Below w0.heap.size w0 W

theorem Tel.below {w0 W W' : World} {bs bw : Nat} {S : Bs} {v : Value} {K : List Bs} (h : Tel w0 W bs bw S v K) (hb : Below W.heap.size W W') : Tel w0 W' bs bw S v K :=
  ⟨(hb.block _ (lt_some h.txt)).trans h.txt, (hb.block _ (lt_some h.box)).trans h.box, owns_below h.own hb, h.lt, h.ge, h.bel.trans (hb.mono h.bel.size)⟩

theorem Tel.end {w0 W W1 : World} {bs bw : Nat} {S : Bs} {v vn : Value} {K : List Bs} {p : Bs} (h : Tel w0 W bs bw S v K) (hb : Below (bw + 1) W W1) (ho : W1.ownsRow (bw + 1) 9 1 vn (K.length + 1) (strV (K ++ [p]))) :
    Tel w0 (W1.setCell ⟨bw, 0, none⟩ vn) bs bw S vn (K ++ [p]) := by
  have hl := h.lt
  have e1 : W1.heap[bs]? = _ := (hb.block _ (by omega)).trans h.txt
  have e2 : W1.heap[bw]? = _ := (hb.block _ (by omega)).trans h.box
  refine ⟨(set_other (by omega)).trans e1, set_one e2, ?_, h.lt, h.ge, ?_⟩
  · rw [List.length_append, List.length_singleton]
    refine owns_kept ho fun g hg => set_other ?_
    have := (owns_block ho hg).1
    omega
  · have h1 : Below w0.heap.size w0 W1 := h.bel.trans (hb.mono (by have := h.ge; omega))
    exact h1.trans ((off_set (C := fun k => k = bw) rfl).below (by rintro k rfl; have := h.ge; omega) h1.size)

theorem take_fl (S : Bs) {a b : Nat} (h : ¬ a < b) : fl ((S.drop a).take (b - a)) = [] := by
  rw [show b - a = 0 by omega]; rfl

set_option maxRecDepth 100000 in
set_option maxHeartbeats 4000000 in
theorem tell_c {w0 W : World} {bs bw : Nat} {S : Bs} {v : Value} {K : List Bs} (h : Tel w0 W bs bw S v K) (a b : Nat) (hb : b ≤ S.length) (hS : S.length ≤ 1000000) (hK : K.length < 1000000) :
    Calls Tryd.prog 17 #[.int .i64 a, .int .i64 b, .pointer (some ⟨bw, 0, none⟩), .pointer (some ⟨bs, 0, none⟩)] W fun e W' => (∃ z, e = .returned z) ∧ ∃ v', Tel w0 W' bs bw S v' (K ++ fl ((S.drop a).take (b - a))) := by
  by_cases hab : a < b
  · obtain ⟨i0, hi, hz0, hz1, hz2⟩ := info_parts info9
    have hex : (mk S).extract a b = mk ((S.drop a).take (b - a)) := mk_extract S a b
    obtain ⟨p, hp⟩ : ∃ p, (S.drop a).take (b - a) = p := ⟨_, rfl⟩
    have hpl : p.length ≤ S.length := by rw [← hp, List.length_take, List.length_drop]; omega
    have hfl : fl p = [p] := fl_ne (by rintro rfl; have := congrArg List.length hp; rw [List.length_take, List.length_drop] at this; simp at this; omega)
    rw [hp, hfl]
    rw [hp] at hex
    have hz := mk_size S
    have hzp := mk_size p
    obtain ⟨cs, _⟩ := one_cell h.txt
    obtain ⟨cw, fw⟩ := one_cell h.box
    obtain ⟨ao, co, rfl⟩ := owns_len h.own
    have H := Lib.hid h
    have hcl := clone_c (mk p) W.drew (by rw [hzp]; omega)
    have hbs : (b : Int) ≤ ((mk S).size : Int) := by rw [hz]; omega
    have hab2 : (a : Int) ≤ (b : Int) := by omega
    have hab3 : (a : Int) < (b : Int) := by omega
    have ha0 : (0 : Int) ≤ (a : Int) := by omega
    obtain ⟨KK, rfl⟩ : ∃ KK, KK = K := ⟨K, rfl⟩
    obtain ⟨n, hn⟩ : ∃ n, KK.length = n := ⟨_, rfl⟩
    rw [hn] at cw hK
    have HN := Lib.hid hn
    clear hn
    clear h hp hfl
    go_enter Tryd.func17, Tryd.ntmps17
    go_wp2_with fail
    refine wp_region_noPanic ?_
    refine Lt.wp_region_late [8] (fun w' => w'.cell? ⟨bw, 0, none⟩ = some (.slice ao n co) ∧ w'.cell? ⟨bs, 0, none⟩ = some (.string (mk S))) (by kernel_rfl) ?_
    refine Lt.wpAnyL_take (i := 0) (v := ?_) [8] rfl (by kernel_rfl) (by kernel_rfl) (by kernel_rfl) (by kernel_rfl) (by kernel_rfl) (by kernel_rfl) (fun _ _ _ h => h) (Or.inl ⟨by rfl, ?_⟩) ⟨cw, cs⟩ ?_
    rotate_left 1
    · intro w hSw
      try dsimp only at hSw
      go_simp
      first | done | with_reducible rfl
    try simp only [Act.put, List.setIfInBounds_toArray, List.set_cons_zero, List.set_cons_succ]
    refine Lt.wpAnyL_take (i := 1) (v := ?_) [8] rfl (by kernel_rfl) (by kernel_rfl) (by kernel_rfl) (by kernel_rfl) (by kernel_rfl) (by kernel_rfl) (fun _ _ _ h => h) (Or.inl ⟨by rfl, ?_⟩) ⟨cw, cs⟩ ?_
    rotate_left 1
    · intro w hSw
      try dsimp only at hSw
      go_simp
      first | done | with_reducible rfl
    try simp only [Act.put, List.setIfInBounds_toArray, List.set_cons_zero, List.set_cons_succ]
    refine Lt.wpAnyL_take (i := 2) (v := ?_) [8] rfl (by kernel_rfl) (by kernel_rfl) (by kernel_rfl) (by kernel_rfl) (by kernel_rfl) (by kernel_rfl) (fun _ _ _ h => h) (Or.inl ⟨by rfl, ?_⟩) ⟨cw, cs⟩ ?_
    rotate_left 1
    · intro w hSw
      try dsimp only at hSw
      go_simp
      first | done | with_reducible rfl
    try simp only [Act.put, List.setIfInBounds_toArray, List.set_cons_zero, List.set_cons_succ]
    refine Lt.wpAnyL_take (i := 3) (v := ?_) [8] rfl (by kernel_rfl) (by kernel_rfl) (by kernel_rfl) (by kernel_rfl) (by kernel_rfl) (by kernel_rfl) (fun _ _ _ h => h) (Or.inl ⟨by rfl, ?_⟩) ⟨cw, cs⟩ ?_
    rotate_left 1
    · intro w hSw
      try dsimp only at hSw
      go_simp
      first | done | with_reducible rfl
    try simp only [Act.put, List.setIfInBounds_toArray, List.set_cons_zero, List.set_cons_succ]
    refine Lt.wpAnyL_next (i := 4) (by kernel_rfl) rfl (fun K hK => ?_)
    go_simp
    refine hK.out _ _ (fun _ => ⟨cw, cs⟩) ?_
    clear hK K
    try simp only [Act.put, List.setIfInBounds_toArray, List.set_cons_zero, List.set_cons_succ]
    refine Lt.wpAnyL_next (i := 5) (by kernel_rfl) rfl (fun K hK => ?_)
    go_simp
    go_at_call 18
    refine hcl.mono ?_
    rintro e W1 ⟨rfl, hb1⟩
    have h1 := H.out.below (W' := W1) ((Below.refl _ _).drew.trans hb1)
    obtain ⟨cs1, _⟩ := one_cell h1.txt
    obtain ⟨cw1, fw1⟩ := one_cell h1.box
    rw [HN.out] at cw1
    refine hK.out _ _ (fun _ => ⟨cw1, cs1⟩) ?_
    clear hK K
    try simp only [Act.put, List.setIfInBounds_toArray, List.set_cons_zero, List.set_cons_succ]
    refine Lt.wpAnyL_next (i := 6) (by kernel_rfl) rfl (fun K hK => ?_)
    have h2 := h1.below (below_alloc W1 (.cells #[.string (mk p)] 9))
    have HOWN := Lib.hid (show (W1.alloc (.cells #[.string (mk p)] 9)).ownsRow (bw + 1) 9 1 (.slice ao n co) n (strV KK) by have := h2.own; rw [HN.out] at this; exact this)
    have hbs2 := lt_some h2.box
    obtain ⟨cs2, _⟩ := one_cell h2.txt
    obtain ⟨cw2, fw2⟩ := one_cell h2.box
    rw [HN.out] at cw2
    go_simp
    refine hK.out _ _ (fun _ => ⟨cw2, cs2⟩) ?_
    clear hK K
    try simp only [Act.put, List.setIfInBounds_toArray, List.set_cons_zero, List.set_cons_succ]
    refine Lt.wpAnyL_next (i := 7) (by kernel_rfl) rfl (fun K hK => ?_)
    refine step_append_lies _ rfl (.tmp 9) (.tmp 15) 30 rfl (bw + 1) 9 i0 (.string ⟨#[]⟩) 1 16 Tryd.underlying30 hi hz0 hz1 hz2 rfl (by decide) (.slice ao n co) n (strV KK) (by simp [Act.eval]) HOWN.out ⟨W1.heap.size, 0, none⟩ 1 1 [.string (mk p)] (by simp [Act.eval]) rfl (cell_one_new _ _ _) (by simp [Value.oneCell']) (by decide) (by unfold maxLen; omega) (by omega) hbs2 _ rfl ?_
    intro gg cap W8 hown8 hg8 hat8 hlt8
    have hb8 : Below (bw + 1) (W1.alloc (.cells #[.string (mk p)] 9)) W8 := (Below.refl _ _).grown hg8 hbs2 fun k hk => (HOWN.out.lt k hk).1
    have HE := Lib.hid (h2.end (p := p) hb8 (by rw [HN.out, strV_snoc]; exact hown8))
    obtain ⟨cw8, fw8⟩ := one_cell ((hb8.block bw (by omega)).trans h2.box)
    rw [HN.out] at cw8
    obtain ⟨cs8, _⟩ := one_cell ((hb8.block bs (by have := h2.lt; omega)).trans h2.txt)
    clear hown8 hg8 hat8 hlt8 hb8 h2 h1 HOWN hb1
    refine hK.out _ _ (fun _ => ⟨cw8, cs8⟩) ?_
    clear hK K
    try simp only [Act.put, List.setIfInBounds_toArray, List.set_cons_zero, List.set_cons_succ]
    refine Lt.wpAnyL_next (i := 8) (by kernel_rfl) rfl (fun K hK => ?_)
    go_simp
    refine hK.out _ _ (fun h => by simp at h) ?_
    clear hK K
    try simp only [Act.put, List.setIfInBounds_toArray, List.set_cons_zero, List.set_cons_succ]
    refine Lt.wpAnyL_done (by kernel_rfl) ?_ _
    refine NoPanic.normal ?_
    go_end0
    exact ⟨⟨_, rfl⟩, _, HE.out⟩
  · rw [take_fl S hab, List.append_nil]
    have hab' : ¬ (a : Int) < (b : Int) := by omega
    go_enter Tryd.func17, Tryd.ntmps17
    go_wp2_with fail
    go_end0
    exact ⟨⟨_, rfl⟩, v, h⟩
end Lx
end Go.Proofs.YtbohnjiachnadaaDoor
