/-
  pack's READER's METHODS, WALKED.
-/
import Derived.Test.YtppboldeocjbhabRead
namespace Go.Proofs.Ytppboldeocjbhab
open Go.RowKit

/-- what a number of k bytes is read as, what is left, and whether there was not enough -/
def rdN (k : Nat) (l : List Nat) : Nat := if k ≤ l.length then num (l.take k) else 0
def rdL (k : Nat) (l : List Nat) : List Nat := if k ≤ l.length then l.drop k else []
def rdB (k : Nat) (l : List Nat) (bad : Bool) : Bool := if k ≤ l.length then bad else true

theorem rdN_lt (k : Nat) {l : List Nat} (hb : ∀ n ∈ l, n < 256) : rdN k l < 2 ^ (8 * k) := by
  unfold rdN
  split
  · have := num_lt (l.take k) (take_lt hb k)
    rwa [List.length_take, Nat.min_eq_left (by assumption)] at this
  · exact Nat.two_pow_pos _

theorem drop_lt {l : List Nat} (hl : ∀ n ∈ l, n < 256) (k : Nat) : ∀ n ∈ l.drop k, n < 256 := fun n hn => hl n (List.mem_of_mem_drop hn)

theorem rdL_lt (k : Nat) {l : List Nat} (hb : ∀ n ∈ l, n < 256) : ∀ n ∈ rdL k l, n < 256 := by
  unfold rdL
  split
  · exact drop_lt hb k
  · simp

theorem rdL_le (k : Nat) (l : List Nat) : (rdL k l).length ≤ l.length := by
  unfold rdL
  split <;> simp

/-- the bytes that come next, and what is left -/
def nx (k : Nat) (l : List Nat) : List Nat := if k ≤ l.length then l.take k else []

theorem nx_lt (k : Nat) {l : List Nat} (hb : ∀ n ∈ l, n < 256) : ∀ n ∈ nx k l, n < 256 := by
  unfold nx
  split
  · exact take_lt hb k
  · simp

theorem u32r_any (p g : Nat) (l : List Nat) (bad : Bool) (w : World) (h : Rd w p g l bad) (hl : l.length ≤ 1000000) (hb : ∀ n ∈ l, n < 256) :
    Calls Try.prog 15 #[.pointer (some ⟨p, 0, none⟩)] w fun e w' => e = .returned (.int .u32 (rdN 4 l : Int)) ∧ Rd w' p g (rdL 4 l) (rdB 4 l bad) ∧ Only p w w' := by
  by_cases hm : 4 ≤ l.length
  · have e1 : rdN 4 l = num (l.take 4) := if_pos hm
    have e2 : rdL 4 l = l.drop 4 := if_pos hm
    have e3 : rdB 4 l bad = bad := if_pos hm
    rw [e1, e2, e3]
    clear e1 e2 e3
    go_enter Try.func15, Try.ntmps15
    go_wp2_with fail
    refine (take32_ok p g l bad w h hm hl hb).mono ?_
    rintro e w1 ⟨rfl, hr, ho⟩
    go_wp2_with fail
    go_ret
    exact ⟨rfl, hr, ho⟩
  · have e1 : rdN 4 l = 0 := if_neg hm
    have e2 : rdL 4 l = [] := if_neg hm
    have e3 : rdB 4 l bad = true := if_neg hm
    rw [e1, e2, e3]
    clear e1 e2 e3
    go_enter Try.func15, Try.ntmps15
    go_wp2_with fail
    refine (take32_short p g l bad w h (by omega)).mono ?_
    rintro e w1 ⟨rfl, hr, ho⟩
    go_wp2_with fail
    go_ret
    exact ⟨rfl, hr, ho⟩

theorem u32r_nil (w : World) : Calls Try.prog 15 #[.pointer none] w fun e w' => e = .returned (.int .u32 0) ∧ w = w' := by
  go_enter Try.func15, Try.ntmps15
  go_wp2_with fail
  refine (take32_nil w).mono ?_
  rintro e w1 ⟨rfl, rfl⟩
  go_wp2_with fail
  go_ret
  exact ⟨rfl, rfl⟩

theorem u64r_any (p g : Nat) (l : List Nat) (bad : Bool) (w : World) (h : Rd w p g l bad) (hl : l.length ≤ 1000000) (hb : ∀ n ∈ l, n < 256) :
    Calls Try.prog 17 #[.pointer (some ⟨p, 0, none⟩)] w fun e w' => e = .returned (.int .u64 (rdN 8 l : Int)) ∧ Rd w' p g (rdL 8 l) (rdB 8 l bad) ∧ Only p w w' := by
  by_cases hm : 8 ≤ l.length
  · have e1 : rdN 8 l = num (l.take 8) := if_pos hm
    have e2 : rdL 8 l = l.drop 8 := if_pos hm
    have e3 : rdB 8 l bad = bad := if_pos hm
    rw [e1, e2, e3]
    clear e1 e2 e3
    go_enter Try.func17, Try.ntmps17
    go_wp2_with fail
    refine (take64_ok p g l bad w h hm hl hb).mono ?_
    rintro e w1 ⟨rfl, hr, ho⟩
    go_wp2_with fail
    go_ret
    exact ⟨rfl, hr, ho⟩
  · have e1 : rdN 8 l = 0 := if_neg hm
    have e2 : rdL 8 l = [] := if_neg hm
    have e3 : rdB 8 l bad = true := if_neg hm
    rw [e1, e2, e3]
    clear e1 e2 e3
    go_enter Try.func17, Try.ntmps17
    go_wp2_with fail
    refine (take64_short p g l bad w h (by omega)).mono ?_
    rintro e w1 ⟨rfl, hr, ho⟩
    go_wp2_with fail
    go_ret
    exact ⟨rfl, hr, ho⟩

theorem u64r_nil (w : World) : Calls Try.prog 17 #[.pointer none] w fun e w' => e = .returned (.int .u64 0) ∧ w = w' := by
  go_enter Try.func17, Try.ntmps17
  go_wp2_with fail
  refine (take64_nil w).mono ?_
  rintro e w1 ⟨rfl, rfl⟩
  go_wp2_with fail
  go_ret
  exact ⟨rfl, rfl⟩

theorem left_any (p g : Nat) (l : List Nat) (bad : Bool) (w : World) (h : Rd w p g l bad) :
    Calls Try.prog 20 #[.pointer (some ⟨p, 0, none⟩)] w fun e w' => e = .returned (.int .i64 (l.length : Int)) ∧ w = w' := by
  obtain ⟨hne, hlt, v, hp, hv⟩ := h
  obtain ⟨c0, c1, f0, f1⟩ := cell_two hp
  clear hp
  rcases hv with ⟨rfl, rfl⟩ | ⟨off, c, rfl, hc, hcell⟩
  · go_enter Try.func20, Try.ntmps20
    go_wp2_with fail
    go_ret
    exact ⟨rfl, rfl⟩
  · clear hcell
    go_enter Try.func20, Try.ntmps20
    go_wp2_with fail
    go_ret
    exact ⟨rfl, rfl⟩

theorem left_nil (w : World) : Calls Try.prog 20 #[.pointer none] w fun e w' => e = .returned (.int .i64 0) ∧ w = w' := by
  go_enter Try.func20, Try.ntmps20
  go_wp2_with fail
  go_ret
  exact ⟨rfl, rfl⟩

theorem right_any (p g : Nat) (l : List Nat) (bad : Bool) (w : World) (h : Rd w p g l bad) :
    Calls Try.prog 22 #[.pointer (some ⟨p, 0, none⟩)] w fun e w' => e = .returned (.bool (!bad)) ∧ w = w' := by
  obtain ⟨hne, hlt, v, hp, hv⟩ := h
  obtain ⟨c0, c1, f0, f1⟩ := cell_two hp
  clear hp hv
  go_enter Try.func22, Try.ntmps22
  go_wp2_with fail
  go_ret
  exact ⟨rfl, rfl⟩

theorem right_nil (w : World) : Calls Try.prog 22 #[.pointer none] w fun e w' => e = .returned (.bool false) ∧ w = w' := by
  go_enter Try.func22, Try.ntmps22
  go_wp2_with fail
  go_ret
  exact ⟨rfl, rfl⟩

theorem conv_rowG {w : World} {g : Nat} {v : Value} {l : List Nat} (h : RowG w g v l) (hl : ∀ x ∈ l, x < 256) :
    (convert 22 9 v).run Try.prog w = .ok (.string (str l)) w := by
  rcases h with ⟨rfl, rfl⟩ | ⟨off, c, rfl, hc, hcell⟩
  · exact conv_row (a := none) (l := []) rfl (.inl rfl) (by simp) 0
  · refine conv_row rfl ?_ hl c
    by_cases h0 : l = []
    · exact .inl h0
    · have hp : 0 < l.length := List.length_pos_iff.2 h0
      exact .inr ⟨g, off, rfl, lt_of_cell (hcell 0 hp), hcell⟩

/-- what a text is read as -/
def txS (l : List Nat) : List Nat := nx (rdN 2 l) (rdL 2 l)
def txL (l : List Nat) : List Nat := rdL (rdN 2 l) (rdL 2 l)
def txB (l : List Nat) (bad : Bool) : Bool := rdB (rdN 2 l) (rdL 2 l) (rdB 2 l bad)

theorem next_any (p g : Nat) (l : List Nat) (bad : Bool) (m : Nat) (w : World) (h : Rd w p g l bad) (hl : l.length ≤ 1000000) :
    Calls Try.prog 34 #[.pointer (some ⟨p, 0, none⟩), .int .i64 (m : Int)] w fun e w' => ∃ v, e = .returned v ∧ RowG w' g v (nx m l) ∧ Rd w' p g (rdL m l) (rdB m l bad) ∧ Only p w w' := by
  by_cases hm : m ≤ l.length
  · rw [show nx m l = l.take m from if_pos hm, show rdL m l = l.drop m from if_pos hm, show rdB m l bad = bad from if_pos hm]
    exact next_ok p g l bad m w h hm hl
  · rw [show nx m l = [] from if_neg hm, show rdL m l = [] from if_neg hm, show rdB m l bad = true from if_neg hm]
    exact (next_short p g l bad m w h (by omega)).mono fun e w' ⟨h1, h2, h3⟩ => ⟨_, h1, .inl ⟨rfl, rfl⟩, h2, h3⟩

theorem take16_any (p g : Nat) (l : List Nat) (bad : Bool) (w : World) (h : Rd w p g l bad) (hl : l.length ≤ 1000000) (hb : ∀ n ∈ l, n < 256) :
    Calls Try.prog 35 #[.pointer (some ⟨p, 0, none⟩)] w fun e w' => e = .returned (.int .u16 (rdN 2 l : Int)) ∧ Rd w' p g (rdL 2 l) (rdB 2 l bad) ∧ Only p w w' := by
  by_cases hm : 2 ≤ l.length
  · rw [show rdN 2 l = num (l.take 2) from if_pos hm, show rdL 2 l = l.drop 2 from if_pos hm, show rdB 2 l bad = bad from if_pos hm]
    exact take16_ok p g l bad w h hm hl hb
  · rw [show rdN 2 l = 0 from if_neg hm, show rdL 2 l = [] from if_neg hm, show rdB 2 l bad = true from if_neg hm]
    exact take16_short p g l bad w h (by omega)

theorem textr_any (p g : Nat) (l : List Nat) (bad : Bool) (w : World) (h : Rd w p g l bad) (hl : l.length ≤ 1000000) (hb : ∀ n ∈ l, n < 256) :
    Calls Try.prog 18 #[.pointer (some ⟨p, 0, none⟩)] w fun e w' => e = .returned (.string (str (txS l))) ∧ Rd w' p g (txL l) (txB l bad) ∧ Only p w w' := by
  go_enter Try.func18, Try.ntmps18
  go_wp2_with fail
  refine (take16_any p g l bad w h hl hb).mono ?_
  rintro e w1 ⟨rfl, hr, ho⟩
  have hn := rdN_lt 2 hb
  have hl2 := rdL_le 2 l
  have hb2 := rdL_lt 2 hb
  go_wp2_with fail
  refine (next_any p g _ _ (rdN 2 l) w1 hr (by omega)).mono ?_
  rintro e w2 ⟨v, rfl, hv, hr2, ho2⟩
  have hcv := conv_rowG hv (nx_lt _ hb2)
  go_wp2_with fail
  go_ret
  exact ⟨rfl, hr2, ho.trans ho2⟩

theorem textr_nil (w : World) : Calls Try.prog 18 #[.pointer none] w fun e w' => e = .returned (.string (str [])) ∧ w = w' := by
  have hcv := conv_rowG (w := w) (g := 0) (.inl ⟨rfl, rfl⟩) (l := []) (by simp)
  go_enter Try.func18, Try.ntmps18
  go_wp2_with fail
  refine (take16_nil w).mono ?_
  rintro e w1 ⟨rfl, rfl⟩
  go_wp2_with fail
  refine (next_nil _ w).mono ?_
  rintro e w1 ⟨rfl, rfl⟩
  go_wp2_with fail
  go_ret
  exact ⟨rfl, rfl⟩

end Go.Proofs.Ytppboldeocjbhab
