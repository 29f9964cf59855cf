/-
  THE LAW PackBack, WALKED.
-/
import Derived.Test.YtppboldeocjbhabReadsW
import Derived.Deep.RegionHeld3
namespace Go.Proofs.Ytppboldeocjbhab
open Go.RowKit

/-- a slice's value reads as these texts -/
def RowT (w : World) (a : Option Addr) (n : Nat) (F : Nat → ByteArray) : Prop :=
  n = 0 ∨ ∃ b off, a = some ⟨b, off, none⟩ ∧ b < w.heap.size ∧ ∀ i, i < n → w.cell? ⟨b, off + i, none⟩ = some (.string (F i))

/-- what one text and its number are packed to -/
def one (F : Nat → ByteArray) (j : Nat) : List Nat := le (F j).size 2 ++ sb (F j) ++ le j 4

/-- what was put ahead of the text j -/
def pre (F : Nat → ByteArray) (N : Nat) : Nat → List Nat
  | 0 => le N 8
  | j + 1 => pre F N j ++ one F j

/-- what is read from the text j on, k texts -/
def rst (F : Nat → ByteArray) (l : List Nat) : Nat → Nat → List Nat
  | _, 0 => l
  | j, k + 1 => one F j ++ rst F l (j + 1) k

theorem pre_rst (F : Nat → ByteArray) (N : Nat) (l : List Nat) : ∀ j k, pre F N j ++ rst F l j k = le N 8 ++ rst F l 0 (j + k) := by
  intro j
  induction j with
  | zero => intro k; rw [Nat.zero_add]; rfl
  | succ j ih =>
    intro k
    have := ih (k + 1)
    rw [show j + (k + 1) = j + 1 + k from by omega] at this
    rw [← this]
    simp [pre, rst]

theorem one_lt (F : Nat → ByteArray) (j : Nat) : ∀ n ∈ one F j, n < 256 := app_lt (app_lt (le_lt _ _) (sb_lt _)) (le_lt _ _)
theorem one_length (F : Nat → ByteArray) (j : Nat) : (one F j).length = (F j).size + 6 := by simp [one, le_length, sb_length]; omega

theorem pre_le (F : Nat → ByteArray) (N : Nat) : ∀ j, (∀ i, i < j → (F i).size ≤ 300) → (pre F N j).length ≤ 8 + 306 * j := by
  intro j
  induction j with
  | zero => intro _; simp [pre, le_length]
  | succ j ih =>
    intro h
    have h1 := ih fun i hi => h i (by omega)
    have h2 := h j (by omega)
    simp only [pre, List.length_append, one_length]
    omega

theorem rst_lt (F : Nat → ByteArray) {l : List Nat} (hl : ∀ n ∈ l, n < 256) : ∀ k j, ∀ n ∈ rst F l j k, n < 256 := by
  intro k
  induction k with
  | zero => intro j; exact hl
  | succ k ih => intro j; exact app_lt (one_lt F j) (ih (j + 1))

theorem rst_le (F : Nat → ByteArray) (l : List Nat) (n : Nat) (hF : ∀ i, i < n → (F i).size ≤ 300) : ∀ k j, j + k ≤ n → (rst F l j k).length ≤ l.length + 306 * k := by
  intro k
  induction k with
  | zero => intro j _; simp [rst]
  | succ k ih =>
    intro j hj
    have h1 := ih (j + 1) (by omega)
    have h2 := hF j (by omega)
    simp only [rst, List.length_append, one_length]
    omega

theorem rd_le (k v : Nat) (r : List Nat) : rdN k (le v k ++ r) = v % 2 ^ (8 * k) ∧ rdL k (le v k ++ r) = r ∧ ∀ bad, rdB k (le v k ++ r) bad = bad := by
  have h : k ≤ (le v k ++ r).length := by simp [le_length]
  refine ⟨?_, ?_, fun bad => if_pos h⟩
  · unfold rdN
    rw [if_pos h, List.take_append_of_le_length (by rw [le_length]; exact Nat.le_refl _), List.take_of_length_le (by rw [le_length]; exact Nat.le_refl _), num_le]
  · unfold rdL
    rw [if_pos h, List.drop_append_of_le_length (by rw [le_length]; exact Nat.le_refl _), List.drop_of_length_le (by rw [le_length]; exact Nat.le_refl _)]
    rfl

theorem tx_le (s : ByteArray) (r : List Nat) (hs : s.size ≤ 65535) : txS (le s.size 2 ++ sb s ++ r) = sb s ∧ txL (le s.size 2 ++ sb s ++ r) = r ∧ ∀ bad, txB (le s.size 2 ++ sb s ++ r) bad = bad := by
  rw [List.append_assoc]
  obtain ⟨h1, h2, h3⟩ := rd_le 2 s.size (sb s ++ r)
  have hm : s.size % 2 ^ (8 * 2) = s.size := Nat.mod_eq_of_lt (by omega)
  rw [hm] at h1
  have hl : s.size ≤ (sb s ++ r).length := by simp [sb_length]
  refine ⟨?_, ?_, fun bad => ?_⟩
  · unfold txS
    rw [h1, h2]
    unfold nx
    rw [if_pos hl, ← sb_length s, List.take_left]
  · unfold txL
    rw [h1, h2]
    unfold rdL
    rw [if_pos hl, ← sb_length s, List.drop_left]
  · unfold txB
    rw [h1, h2, h3]
    exact if_pos hl

theorem back_main (a b : Option Addr) (n m c d N : Nat) (F : Nat → ByteArray) (k : List Nat) (w : World) (hk : ∀ n ∈ k, n < 256)
    (hm : Hid (m = k.length)) (hrow : RowT w a n F) (hrowk : Row w b k) (hmd : Hid (b = none → d = 0)) (h1 : n ≤ 100) (h2 : m ≤ 300) (hN : N < 18446744073709551616) :
    Calls Try.prog 5 #[.slice a n c, .int .u64 (N : Int), .slice b m d] w fun e w' => e = .returned (.bool true) ∧ Below w.heap.size w w' := by
  go_enter Try.func5, Try.ntmps5
  go_wp2_with fail
  refine (u64_any none 0 0 [] N w hN rfl (.inl rfl) (by omega)).mono ?_
  rintro e w1 ⟨a1, n1, c1, rfl, hown1, hb1⟩
  go_wp2_with fail
  go_loopw [7, 8] (fun s i wr => ∃ j : Nat, j ≤ n ∧ i = .int .i64 j ∧ (∀ i, i < j → (F i).size ≤ 300) ∧ ∃ a' n' c', s = .slice a' n' c' ∧ wr.ownsRow w.heap.size 5 1 (.slice a' n' c') n' (bytesV (pre F N j)) ∧ Below w.heap.size w wr) (fun _ i _ => n - (intOf i).toNat)
  case atStart => exact ⟨0, by omega, rfl, fun i hi => absurd hi (by omega), a1, n1, c1, rfl, hown1, hb1⟩
  case round =>
    obtain ⟨j, hj, rfl, hFj, a', n', c', rfl, hown, hnx⟩ := hrel
    obtain ⟨hn', hr', _⟩ := owned_row hown
    have hcap := owned_cap hown
    have hlen := pre_le F N j hFj
    have hn8 : n' ≤ 100000 := by have := hn'.out; omega
    clear hlen
    by_cases hlt : j < n
    · obtain h0 | ⟨bb, ob, Hb, hbl, hcell⟩ := hrow
      · exact absurd h0 (by omega)
      have hc0 := hcell j hlt
      have hc1 := (hnx.cell (p := ⟨bb, ob + j, none⟩) hbl).trans hc0
      clear hcell hc0 hown
      subst Hb
      have hpre : pre F N (j + 1) = pre F N j ++ le (F j).size 2 ++ sb (F j) ++ le j 4 := by simp [pre, one]
      have HP := Lib.hid hpre
      have hFs : ∀ s : ByteArray, F j = s → ∀ i, i < j + 1 → s.size ≤ 300 → (F i).size ≤ 300 := by
        intro s e i hi hs
        by_cases h : i = j
        · subst h; rw [e]; exact hs
        · exact hFj i (by omega)
      clear hpre
      generalize F j = s at *
      by_cases hs : s.size ≤ 300
      · go_wp2_with fail
        refine (text_any a' n' c' _ s wr hn' hr' hn8 (by omega)).mono ?_
        rintro e w2 ⟨a2, n2, c2, rfl, hown2, hb2⟩
        obtain ⟨hn2, hr2, _⟩ := owned_row hown2
        have hn28 : n2 ≤ 1000000 := by have h := hn2.out; have h3 := hn'.out; rw [List.length_append, List.length_append, le_length, sb_length] at h; omega
        clear hown2
        go_wp2_with fail
        refine (u32_any a2 n2 c2 _ j w2 (by omega) hn2 hr2 hn28).mono ?_
        rintro e w3 ⟨a3, n3, c3, rfl, hown3, hb3⟩
        have hnx2 := hnx.trans (hb2.mono hnx.size)
        have hnx3 := hnx2.trans (hb3.mono hnx2.size)
        go_wp2_with fail
        go_roundw
        case rel => exact ⟨j + 1, by omega, by go_num, fun i hi => hFs s rfl i hi hs, a3, n3, c3, rfl, by rw [HP.out]; exact owns_mono hown3 hnx2.size, hnx3⟩
        case measure => simp [intOf]; omega
      · go_wp2_with fail
        go_ret
        exact ⟨rfl, hnx⟩
    · obtain rfl : n = j := by omega
      go_wp2_with (at_builtin; refine wpList_append_bytes rfl (.tmp 50) (.tmp 51) rfl w.heap.size (.slice a' n' c') n' (pre F N n) rfl hown b m d k rfl hm.out hmd.out (hrowk.below (hnx.mono (Nat.le_refl _))) (pre F N n ++ k) rfl (by omega) hnx.size ?_; intro a4 n4 c4 w4 _ Hn4 hle4 hr4 _ hb4)
      refine (new_any a4 n4 c4 _ w4 Hn4 hr4 (by omega)).mono ?_
      rintro e w5 ⟨p, hp, rfl, hrd, hb5⟩
      have hnx4 := hnx.trans hb4
      have hnx5 := hnx4.trans (hb5.mono hnx4.size)
      have hpw : w.heap.size ≤ p := by have := hnx4.size; omega
      generalize w4.heap.size = g at *
      have hpr := pre_rst F N k n 0
      rw [Nat.add_zero, show rst F k n 0 = k from rfl] at hpr
      rw [hpr] at hrd
      have hmk := hm.out
      have hrl := rst_lt F hk
      have hrn := rst_le F k n hFj
      obtain ⟨E1, E2, E3⟩ := rd_le 8 N (rst F k 0 n)
      rw [Nat.mod_eq_of_lt (by omega)] at E1
      have hle8 : (le N 8 ++ rst F k 0 n).length ≤ 1000000 := by have := hrn n 0 (by omega); rw [List.length_append, le_length]; omega
      have HE1 := Lib.hid E1
      have HE2 := Lib.hid E2
      have HE3 := Lib.hid E3
      clear E1 E2 E3 hpr hle4 hr4 Hn4 hown hn' hr' hcap hn8 hb4 hb5 hown1 hb1
      go_wp2_with fail
      refine (u64r_any p g _ _ w5 hrd hle8 (app_lt (le_lt _ _) (hrl n 0))).mono ?_
      rintro e w6 ⟨rfl, hr6, ho6⟩
      rw [HE2.out, HE3.out] at hr6
      rw [HE1.out]
      have hnx6 := ho6.tob hnx5 hpw
      clear HE1 HE2 HE3 hle8 hrd ho6 hnx5
      go_wp2_with fail
      go_loopw [12] (fun i wr => ∃ j : Nat, j ≤ n ∧ i = .int .i64 j ∧ Rd wr p g (rst F k j (n - j)) false ∧ Below w.heap.size w wr) (fun i _ => n - (intOf i).toNat)
      case atStart => exact ⟨0, by omega, rfl, hr6, hnx6⟩
      case round =>
        clear hr6 hnx6
        obtain ⟨j, hj, rfl, hrj, hnj⟩ := hrel
        by_cases hlj : j < n
        · obtain h0 | ⟨bb, ob, Hb, hbl, hcell⟩ := hrow
          · exact absurd h0 (by omega)
          have hc0 := hcell j hlj
          have hc1 := (hnj.cell (p := ⟨bb, ob + j, none⟩) hbl).trans hc0
          have hsz := hFj j hlj
          have hst : rst F k j (n - j) = one F j ++ rst F k (j + 1) (n - (j + 1)) := by rw [show n - j = (n - (j + 1)) + 1 from by omega]; rfl
          rw [hst] at hrj
          have hone : one F j = le (F j).size 2 ++ sb (F j) ++ le j 4 := rfl
          rw [hone, List.append_assoc] at hrj
          have hll : (le (F j).size 2 ++ sb (F j) ++ (le j 4 ++ rst F k (j + 1) (n - (j + 1)))).length ≤ 1000000 := by
            have := hrn (n - (j + 1)) (j + 1) (by omega)
            simp only [List.length_append, le_length, sb_length]; omega
          have hlt1 : ∀ x ∈ le j 4 ++ rst F k (j + 1) (n - (j + 1)), x < 256 := app_lt (le_lt _ _) (hrl _ _)
          have hlt2 : ∀ x ∈ le (F j).size 2 ++ sb (F j) ++ (le j 4 ++ rst F k (j + 1) (n - (j + 1))), x < 256 := app_lt (app_lt (le_lt _ _) (sb_lt _)) hlt1
          obtain ⟨T1, T2, T3⟩ := tx_le (F j) (le j 4 ++ rst F k (j + 1) (n - (j + 1))) (by omega)
          obtain ⟨N1, N2, N3⟩ := rd_le 4 j (rst F k (j + 1) (n - (j + 1)))
          clear hcell hc0 hst hone
          subst Hb
          generalize hre : rst F k (j + 1) (n - (j + 1)) = r at *
          have HR := Lib.hid hre
          clear hre
          generalize F j = s at *
          rw [Nat.mod_eq_of_lt (by omega)] at N1
          have HT1 := Lib.hid T1
          have HT2 := Lib.hid T2
          have HT3 := Lib.hid T3
          have HN1 := Lib.hid N1
          have HN2 := Lib.hid N2
          have HN3 := Lib.hid N3
          have hl4 : (le j 4 ++ r).length ≤ 1000000 := by rw [List.length_append] at hll; omega
          clear T1 T2 T3 N1 N2 N3
          go_wp2_with fail
          have hrd1 : Rd wr.drew p g (le s.size 2 ++ sb s ++ (le j 4 ++ r)) false := ⟨hrj.ne, hrj.lt, hrj.cells⟩
          have hcd1 : wr.drew.cell? ⟨bb, ob + j, none⟩ = some (.string s) := hc1
          have hbp : (⟨bb, ob + j, none⟩ : Addr).block ≠ p := by show bb ≠ p; omega
          have hbw : (⟨bb, ob + j, none⟩ : Addr).block < wr.drew.heap.size := by show bb < wr.heap.size; have := hnj.size; omega
          have hwj : IntKind.u32.wrap (j : Int) = (j : Int) := IntWalk.u32_in _ (by omega)
          have hnej : ((j : Int) != IntKind.u32.wrap (j : Int)) = false := by rw [hwj]; simp
          clear hwj
          go_region_held3 (fun w' => w'.cell? ⟨bb, ob + j, none⟩ = some (.string s)) (first | exact hc1 | exact hcd2 | exact hcd3)
            (first
              | (go_at_call 18; refine (textr_any p g _ false _ hrd1 hll hlt2).mono ?_; rintro e w2 ⟨rfl, hr2, ho2⟩; rw [HT2.out, HT3.out] at hr2; rw [HT1.out, str_sb]; have hcd2 := (ho2.cell hbp hbw).trans hcd1)
              | (go_at_call 15; refine (u32r_any p g _ false _ hr2 hl4 hlt1).mono ?_; rintro e w3 ⟨rfl, hr3, ho3⟩; rw [HN2.out, HN3.out] at hr3; rw [HN1.out]; have hcd3 := (ho3.cell hbp (Nat.lt_of_lt_of_le hbw ho2.size)).trans hcd2))
          clear hcd1 hcd2 hcd3 hbp hbw hrd1 hr2 HT1 HT2 HT3 HN1 HN2 HN3 hlt1 hlt2 hll hl4 hrj hc1
          have hn2 := ho2.tob (w0 := w) ⟨hnj.os, hnj.tape, hnj.output, hnj.size, hnj.block⟩ hpw
          have hn3 := ho3.tob hn2 hpw
          go_wp2_with fail
          go_roundw
          case rel => exact ⟨j + 1, by omega, by go_num, by rw [HR.out]; exact hr3, hn3⟩
          case measure => simp [intOf]; omega
        · obtain rfl : n = j := by omega
          rw [Nat.sub_self, show rst F k n 0 = k from rfl] at hrj
          go_wp2_with fail
          refine (right_any p g _ _ wr hrj).mono ?_
          rintro e w7 ⟨rfl, rfl⟩
          go_wp2_with fail
          refine (left_any p g _ _ wr hrj).mono ?_
          rintro e w7 ⟨rfl, rfl⟩
          go_wp2_with fail
          refine (awake_any wr).mono ?_
          rintro e w8 ⟨rfl, hb8⟩
          have hn8 := hnj.trans (hb8.mono hnj.size)
          go_wp2_with fail
          go_ret
          exact ⟨rfl, hn8⟩

theorem back_any (a b : Option Addr) (n m c d N : Nat) (F : Nat → ByteArray) (k : List Nat) (w : World) (hk : ∀ n ∈ k, n < 256)
    (hm : Hid (m = k.length)) (hrow : RowT w a n F) (hrowk : Row w b k) (hmd : Hid (b = none → d = 0)) (hN : N < 18446744073709551616) :
    Calls Try.prog 5 #[.slice a n c, .int .u64 (N : Int), .slice b m d] w fun e w' => e = .returned (.bool true) ∧ Below w.heap.size w w' := by
  by_cases h1 : n ≤ 100
  · by_cases h2 : m ≤ 300
    · exact back_main a b n m c d N F k w hk hm hrow hrowk hmd h1 h2 hN
    · clear hrow hrowk hm hmd
      go_enter Try.func5, Try.ntmps5
      go_wp2_with fail
      go_ret
      exact ⟨rfl, Below.refl _ _⟩
  · clear hrow hrowk hm hmd
    go_enter Try.func5, Try.ntmps5
    go_wp2_with fail
    go_ret
    exact ⟨rfl, Below.refl _ _⟩
end Go.Proofs.Ytppboldeocjbhab
