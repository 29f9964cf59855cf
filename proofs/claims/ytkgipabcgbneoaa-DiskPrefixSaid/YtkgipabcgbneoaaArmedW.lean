/-
  THE LAW DiskArmed, WALKED.
-/
import Derived.Test.YtkgipabcgbneoaaAwake
namespace Go.Proofs.Ytkgipabcgbneoaa
open Go.RowKit Go.Maps

variable {X : Nat → Prop} {K : Nat} {w : World} {p : Nat} {q : Pl} {d : Ds}

set_option maxHeartbeats 2000000 in
theorem fresh_c (w : World) : Calls Try.prog 20 #[] w fun e w' => ∃ p, e = .returned (.tuple #[.pointer (some ⟨p, 0, none⟩), .bool true]) ∧ w.heap.size ≤ p ∧ Below w.heap.size w w' ∧ Dk (fun k => k < w.heap.size) 0 w' p (newD 16777216) := by
  have hn := new_c 16777216 (by omega) w
  go_enter Try.func20, Try.ntmps20
  go_wp2_with fail
  refine hn.mono ?_
  rintro e w1 ⟨p, rfl, hp, hb, hd⟩
  go_wp2
  go_ret2
  exact ⟨p, rfl, hp, hb, hd⟩

theorem arm_ok (h : Dk X K w p d) (n : Int) (hn : -9223372036854775808 ≤ n ∧ n ≤ 9223372036854775807) : Calls Try.prog 9 #[.pointer (some ⟨p, 0, none⟩), .int .i64 n] w fun e w' => (∃ v, e = .returned v) ∧ Same X w w' ∧ Dk X K w' p { d with left := n } := by
  obtain ⟨q, h⟩ := h
  refine (arm_at h n hn).mono fun e w' ⟨h1, h2, h3⟩ => ⟨h1, h2, _, h3⟩
theorem down_ok (h : Dk X K w p d) : Calls Try.prog 17 #[.pointer (some ⟨p, 0, none⟩)] w fun e w' => e = .returned (.bool (!d.up)) ∧ w = w' := by
  obtain ⟨q, h⟩ := h; exact down_at h
theorem deeds_ok (h : Dk X K w p d) : Calls Try.prog 16 #[.pointer (some ⟨p, 0, none⟩)] w fun e w' => e = .returned (.int .i64 d.deeds) ∧ w = w' := by
  obtain ⟨q, h⟩ := h; exact deeds_at h
/-- a deed of a disk that is down, or goes down -/
theorem append_no (h : Dk X K w p d) (hK : K + 3 ≤ 1000) {l : List UInt8} (hl : l.length ≤ 1000000) {v : Value} {bs : List UInt8} (hv : BRow w v bs) (hvX : ∀ k, Value.rowBlock v = some k → X k) (hbs : bs.length ≤ 65536) (hu : d.up = false ∨ d.left = 0) :
    Calls Try.prog 24 #[.pointer (some ⟨p, 0, none⟩), .string (mk l), v] w fun e w' => e = .returned (.int .i64 8) ∧ Same X w w' ∧ Dk X (K + 3) w' p { d with up := false } := by
  obtain ⟨q, h⟩ := h
  refine (Append_c h hK (M := 65536) (Nat.le_refl _) (fun l i hi => (h.file i (ref_now hi)).len) hl hv hvX (by omega)).mono ?_
  rintro e w' ⟨n, d', rfl, hs, hd, hq⟩
  cases hup : d.up with
  | false =>
    obtain ⟨rfl, he⟩ := deed_down hq hup
    refine ⟨rfl, hs, ?_⟩
    have e2 : ({ d with up := false } : Ds) = d := by rw [← hup]
    rw [e2, ← he]
    exact hd
  | true =>
    rcases hu with hu | hu
    · rw [hup] at hu; cases hu
    · obtain ⟨rfl, rfl⟩ := deed_falls hq hup hu
      exact ⟨rfl, hs, hd⟩
theorem syncDir_no (h : Dk X K w p d) (hK : K < 1000) (hu : d.up = false) : Calls Try.prog 23 #[.pointer (some ⟨p, 0, none⟩)] w fun e w' => e = .returned (.int .i64 8) ∧ Same X w w' ∧ Dk X (K + 1) w' p d := by
  obtain ⟨q, h⟩ := h
  refine (SyncDir_c h hK).mono ?_
  rintro e w' ⟨n, d', rfl, hs, hd, hq⟩
  obtain ⟨rfl, he⟩ := deed_down hq hu
  exact ⟨rfl, hs, by rw [← he]; exact hd⟩

/-- behind j deeds of k -/
def Arm (d : Ds) (j k : Nat) : Prop :=
  d.up = true ∧ d.left = (k : Int) - j ∧ d.deeds = j ∧ d.quota = 16777216 ∧ d.sure = (fun _ => none) ∧
  ((j = 0 ∧ d.now = (fun _ => none) ∧ d.changes = []) ∨ (0 < j ∧ ∃ i, (∀ x, d.now x = if x = [102] then some i else none) ∧ d.changes = [⟨[], [102], some i⟩] ∧ (d.files i).bytes.length = j ∧ (d.files i).sure = 0))

theorem arm_zero (k : Nat) : Arm { newD 16777216 with left := k } 0 k := ⟨rfl, by show (k : Int) = _; omega, rfl, rfl, rfl, .inl ⟨rfl, rfl, rfl⟩⟩

theorem written_now {d : Ds} {bs : List UInt8} {i : Nat} (h : d.now = fun _ => none) (l : List UInt8) (x : List UInt8) : (written d l bs i).now x = if x = l then some i else none := by
  show turn1 d.now ⟨[], l, some i⟩ x = _
  rw [turn1_file rfl, h]
  by_cases hx : x = l
  · rw [hx, upd_same, if_pos rfl]
  · rw [upd_other _ _ hx, if_neg hx]
    by_cases h2 : x = []
    · rw [h2]; exact upd_same _ _ _
    · exact upd_other _ _ h2

theorem arm_first {k i : Nat} {b : UInt8} (h : Arm d 0 k) (hk : 0 < k) : Arm (written (spent d) [102] [b] i) 1 k := by
  obtain ⟨h1, h2, h3, h4, h5, h6⟩ := h
  obtain ⟨_, h7, h8⟩ : 0 = 0 ∧ d.now = (fun _ => none) ∧ d.changes = [] := by
    rcases h6 with h | ⟨h, _⟩
    · exact h
    · omega
  refine ⟨h1, ?_, by show d.deeds + 1 = 1; omega, h4, h5, .inr ⟨by omega, i, fun x => written_now (d := spent d) (bs := [b]) h7 [102] x, ?_, ?_, ?_⟩⟩
  · show (if 0 < d.left then d.left - 1 else d.left) = _
    rw [if_pos (by omega)]; omega
  · show d.changes ++ _ = _
    rw [h8]; rfl
  · show (upd d.files i ⟨[b], 0, d.clock⟩ i).bytes.length = 1
    rw [upd_same]; rfl
  · show (upd d.files i ⟨[b], 0, d.clock⟩ i).sure = 0
    rw [upd_same]
theorem arm_next {j k i : Nat} {b : UInt8} (h : Arm d j k) (hj : 0 < j) (hk : j < k) (hi : d.now [102] = some i) : Arm (appended (spent d) i [b]) (j + 1) k := by
  obtain ⟨h1, h2, h3, h4, h5, h6⟩ := h
  rcases h6 with ⟨h, _⟩ | ⟨_, i', h7, h8, h9, h10⟩
  · omega
  · have : i' = i := by rw [h7, if_pos rfl] at hi; cases hi; rfl
    subst this
    refine ⟨h1, ?_, by show d.deeds + 1 = _; omega, h4, h5, .inr ⟨by omega, i', h7, h8, ?_, ?_⟩⟩
    · show (if 0 < d.left then d.left - 1 else d.left) = _
      rw [if_pos (by omega)]; omega
    · show (upd d.files i' ⟨(d.files i').bytes ++ [b], (d.files i').sure, d.clock⟩ i').bytes.length = _
      rw [upd_same]; simp [h9]
    · show (upd d.files i' ⟨(d.files i').bytes ++ [b], (d.files i').sure, d.clock⟩ i').sure = _
      rw [upd_same]; exact h10

/-- the restart behind it -/
theorem arm_back {k : Nat} (h : Arm d k k) (hk : k < 50) {e : Ds} (he : e = { d with up := false, left := 100 }) {ns : List (List UInt8)} (hnd : ns.Nodup) (hmem : ∀ x, x ∈ ns ↔ ((back e 1).now x).isSome = true) :
    (lostAll [1000] 0 ns (back e 1)).up = true ∧ (lostAll [1000] 0 ns (back e 1)).left = -1 ∧
    ((k = 0 ∧ (lostAll [1000] 0 ns (back e 1)).now [102] = none) ∨ (0 < k ∧ ∃ i, (lostAll [1000] 0 ns (back e 1)).now [102] = some i ∧ ((lostAll [1000] 0 ns (back e 1)).files i).bytes.length = k)) := by
  obtain ⟨_, _, _, _, h5, h6⟩ := h
  subst he
  rcases h6 with ⟨rfl, h7, h8⟩ | ⟨hp, i, h7, h8, h9, h10⟩
  · have hn : (back { d with up := false, left := 100 } 1).now = fun _ => none := by
      show turns d.sure (d.changes.take 1) = _
      rw [h8, h5]; rfl
    have : ns = [] := no_name fun x hx => by have := (hmem x).1 hx; rw [hn] at this; cases this
    subst this
    exact ⟨rfl, rfl, .inl ⟨rfl, by rw [lostAll_nil, hn]⟩⟩
  · have hn : ∀ x, (back { d with up := false, left := 100 } 1).now x = if x = [102] then some i else none := by
      intro x
      show turns d.sure (d.changes.take 1) x = _
      rw [h8, h5]
      show turn1 (fun _ => none) ⟨[], [102], some i⟩ x = _
      rw [turn1_file rfl]
      by_cases hx : x = [102]
      · rw [hx, upd_same, if_pos rfl]
      · rw [upd_other _ _ hx, if_neg hx]
        by_cases h2 : x = []
        · rw [h2]; exact upd_same _ _ _
        · exact upd_other _ _ h2
    have : ns = [[102]] := one_name hnd fun x => by
      rw [hmem x, hn]
      split
      · simp_all
      · simp_all
    subst this
    have h1 : (back { d with up := false, left := 100 } 1).now [102] = some i := by rw [hn, if_pos rfl]
    have ht : tailOf [1000] 0 = 1000 := rfl
    have hf : (back { d with up := false, left := 100 } 1).files i = d.files i := rfl
    rw [lostAll_cons h1, lostAll_nil, ht, lost_ge (by rw [hf, h9, h10]; omega)]
    refine ⟨rfl, rfl, .inr ⟨hp, i, h1, ?_⟩⟩
    show (upd (back { d with up := false, left := 100 } 1).files i _ i).bytes.length = k
    rw [upd_same]
    exact h9

/-- one append of one byte, while there are deeds left -/
theorem arm_append {k j : Nat} (h : Dk X (3 * j) w p d) (hA : Arm d j k) (hj : j < k) (hk : k < 50) (b : UInt8) :
    Calls Try.prog 24 #[.pointer (some ⟨p, 0, none⟩), .string ⟨#[102]⟩, .slice (some ⟨w.heap.size, 0, none⟩) 1 1] (w.alloc (.cells #[.int .u8 b.toNat] 5)) fun e w' =>
      e = .returned (.int .i64 0) ∧ Same (Since X w (w.alloc (.cells #[.int .u8 b.toNat] 5))) (w.alloc (.cells #[.int .u8 b.toNat] 5)) w' ∧ ∃ d', Dk (Since X w (w.alloc (.cells #[.int .u8 b.toNat] 5))) (3 * (j + 1)) w' p d' ∧ Arm d' (j + 1) k := by
  have h1 := h.up_frame (.cells #[.int .u8 b.toNat] 5)
  have hr := byte_row w b (0, 0)
  have hX : ∀ x, Value.rowBlock (Value.slice (some ⟨w.heap.size, 0, none⟩) 1 1) = some x → Since X w (w.alloc (.cells #[.int .u8 b.toNat] 5)) x := fun x hx => by simp [Value.rowBlock] at hx; subst hx; exact .inr ⟨Nat.le_refl _, by simp⟩
  have hu := hA.1
  have hl : d.left ≠ 0 := by have := hA.2.1; omega
  have hq := hA.2.2.2.1
  rcases hA.2.2.2.2.2 with ⟨h0, hn, hc⟩ | ⟨h0, i, hn, hc, hlen, hs⟩
  · subst h0
    refine (appendNew_ok (M := 1) (l := [102]) (bs := [b]) h1 (by omega) (by omega) (fun l i hi => by rw [hn] at hi; cases hi) (by simp) hr hX (by simp) (by rw [hq]; simp) hu hl right_f (by rw [hn])).mono ?_
    rintro e w' ⟨rfl, hs, d', hd, i, _, rfl⟩
    exact ⟨rfl, hs, _, hd, arm_first hA hj⟩
  · have hi : d.now [102] = some i := by rw [hn, if_pos rfl]
    refine (append_ok (M := 50) (l := [102]) (bs := [b]) h1 (by omega) (by omega) (all_one hn (by omega)) (by simp) hr hX hi (by rw [hlen]; simp; omega) (by rw [hq, hlen]; simp; omega) hu hl right_f).mono ?_
    rintro e w' ⟨rfl, hs, d', hd, rfl⟩
    exact ⟨rfl, hs, _, hd, arm_next hA h0 hj hi⟩

set_option maxRecDepth 100000 in
set_option maxHeartbeats 8000000 in
theorem armed_c (a b : Int) (ha : 0 ≤ a ∧ a ≤ 255) (hb : 0 ≤ b ∧ b ≤ 255) (w : World) : Calls Try.prog 6 #[.int .u8 a, .int .u8 b] w fun e w' => e = .returned (.bool true) ∧ Below w.heap.size w w' := by
  obtain ⟨n, rfl⟩ : ∃ n : Nat, a = (n : Int) := ⟨a.toNat, by omega⟩
  obtain ⟨m, rfl⟩ : ∃ m : Nat, b = (m : Int) := ⟨b.toNat, by omega⟩
  obtain ⟨r, hr, hr5⟩ : ∃ r : Nat, (m : Int) % 5 = (r : Int) ∧ r < 5 := ⟨m % 5, by omega, by omega⟩
  obtain ⟨k, hk, hk50⟩ : ∃ k : Nat, (n : Int) % 50 = (k : Int) ∧ k < 50 := ⟨n % 50, by omega, by omega⟩
  have hfr := fresh_c w
  go_enter Try.func6, Try.ntmps6
  go_wp2_with fail
  refine hfr.mono ?_
  rintro e w1 ⟨p, rfl, hp, hb1, hd1⟩
  have har := arm_ok hd1 (k : Int) (by omega)
  clear hd1 hfr
  go_wp2_with fail
  refine har.mono ?_
  rintro e w2 ⟨⟨x2, rfl⟩, hs2, hd2⟩
  have hA0 := arm_zero k
  have hb2 : Below w.heap.size w w2 := hb1.trans (hs2.below hb1.size (fun x hx => hx))
  have HA0 := Lib.hid hA0
  clear har hs2 hb1 hA0
  go_wp2
  go_loopw [8] (fun v wr => ∃ j : Nat, j ≤ k ∧ v = .int .i64 j ∧ ∃ X d, Dk X (3 * j) wr p d ∧ Hid (∀ x, x < w.heap.size → X x) ∧ Below w.heap.size w wr ∧ Hid (Arm d j k)) (fun v _ => k - (intOf v).toNat)
  case atStart => exact ⟨0, Nat.zero_le _, rfl, _, _, hd2, Lib.hid (fun x hx => hx), hb2, HA0⟩
  case round =>
    obtain ⟨j, hj, rfl, X, d, hd, hX, hbr, hA⟩ := hrel
    by_cases hlt : j < k
    · have hw8 : IntKind.u8.wrap (j : Int) = (j : Int) := IntWalk.u8_in _ (by omega)
      have htn : (UInt8.ofNat j).toNat = j := by simp; omega
      have hap := arm_append hd hA.out hlt hk50 (UInt8.ofNat j)
      rw [htn] at hap
      clear hd htn
      go_wp2_with fail
      refine hap.mono ?_
      rintro e w3 ⟨rfl, hs3, d3, hd3, hA3⟩
      have hdn := down_ok hd3
      rw [hA3.1] at hdn
      have HA3 := Lib.hid hA3
      clear hap hA3
      go_wp2_with fail
      refine hdn.mono ?_
      rintro e w4 ⟨rfl, rfl⟩
      go_wp2
      go_roundw
      case rel => exact ⟨j + 1, by omega, by go_num, _, d3, hd3, Lib.hid (fun x hx => .inl (hX.out x hx)), (hbr.trans ((below_alloc wr _).mono hbr.size)).trans (hs3.below (by have := hbr.size; simp; omega) (fun x hx => .inl (hX.out x hx))), HA3⟩
      case measure => simp [intOf]; omega
    · obtain rfl : j = k := by omega
      have hA0 := hA.out
      have HA := Lib.hid hA0
      clear hA hA0 hb2 hd2 HA0
      have hd0 := hd.mono (show 3 * j ≤ 3 * j + 3 * 0 by omega)
      clear hd
      go_wp2
      go_loopw [9] (fun v wr => ∃ s : Nat, s ≤ r + 1 ∧ v = .int .i64 s ∧ ∃ X d', Dk X (3 * j + 3 * s) wr p d' ∧ Hid (∀ x, x < w.heap.size → X x) ∧ Below w.heap.size w wr ∧ Hid ((d' = d ∧ s = 0) ∨ (d' = { d with up := false } ∧ 0 < s))) (fun v _ => r + 1 - (intOf v).toNat)
      case atStart => exact ⟨0, Nat.zero_le _, rfl, X, d, hd0, hX, hbr, Lib.hid (.inl ⟨rfl, rfl⟩)⟩
      case round =>
        obtain ⟨s, hs, rfl, Y, d', hd', hY, hbr', hQ⟩ := hrel
        have hdeeds : d'.deeds = j := by
          have h1 := HA.out.2.2.1
          rcases hQ.out with ⟨rfl, _⟩ | ⟨rfl, _⟩
          · exact h1
          · exact h1
        have hnot : d'.up = false ∨ d'.left = 0 := by
          rcases hQ.out with ⟨rfl, _⟩ | ⟨rfl, _⟩
          · right; have := HA.out.2.1; omega
          · exact .inl rfl
        have hup : ({ d' with up := false } : Ds) = { d with up := false } := by
          rcases hQ.out with ⟨rfl, _⟩ | ⟨rfl, _⟩ <;> rfl
        by_cases hlt : s < r + 1
        · have hno := append_no (hd'.up_frame (.cells #[.int .u8 7] 5)) (by omega) (l := [102]) (by simp) (byte_row _ 7 (0, 0)) (fun x hx => by simp [Value.rowBlock] at hx; subst hx; exact .inr ⟨Nat.le_refl _, by simp⟩) (by simp) hnot
          rw [hup] at hno
          have HD := Lib.hid hdeeds
          clear hd' hdeeds hnot hup
          go_wp2_with fail
          refine hno.mono ?_
          rintro e w3 ⟨rfl, hs3, hd3⟩
          have hdn := down_ok hd3
          have hde := deeds_ok hd3
          rw [show ({ d with up := false } : Ds).deeds = j from HA.out.2.2.1] at hde
          clear hno
          go_wp2_with (first | (go_at_call 17; refine hdn.mono ?_; rintro e w4 ⟨rfl, rfl⟩) | (go_at_call 16; refine hde.mono ?_; rintro e w4 ⟨rfl, rfl⟩))
          go_roundw
          case rel => exact ⟨s + 1, by omega, by go_num, _, _, hd3.mono (by omega), Lib.hid (fun x hx => .inl (hY.out x hx)), (hbr'.trans ((below_alloc _ _).mono hbr'.size)).trans (hs3.below (by have := hbr'.size; simp; omega) (fun x hx => .inl (hY.out x hx))), Lib.hid (.inr ⟨rfl, Nat.succ_pos _⟩)⟩
          case measure => simp [intOf]; omega
        · have hse : d' = { d with up := false } := by
            rcases hQ.out with ⟨_, h⟩ | ⟨h, _⟩
            · omega
            · exact h
          subst hse
          have har := arm_ok hd' 100 (by omega)
          clear hd' hdeeds hnot hup
          go_wp2_with fail
          refine har.mono ?_
          rintro e w3 ⟨⟨x3, rfl⟩, hs3, hd3⟩
          have hst := stat_down hd3 (l := [102]) rfl
          have hB3 := hbr'.trans (hs3.below hbr'.size (fun x hx => hY.out x hx))
          have HD3 := Lib.hid hd3
          clear har hs3 hd3
          go_wp2_with fail
          refine hst.mono ?_
          rintro e w4 ⟨rfl, hb4⟩
          have hd4 := (HD3.out.keep hb4).keep (below_alloc w4 (.cells #[.int .i64 0, .int .i64 0] 35))
          have hB4 := (hB3.trans (hb4.mono hB3.size)).trans ((below_alloc w4 (.cells #[.int .i64 0, .int .i64 0] 35)).mono (Nat.le_trans hB3.size hb4.size))
          have hsy := syncDir_no hd4 (by omega) rfl
          clear hst hd4 hQ hB3 hb4
          go_wp2_with fail
          refine hsy.mono ?_
          rintro e w5 ⟨rfl, hs5, hd5⟩
          have hB5 := hB4.trans (hs5.below hB4.size (fun x hx => hY.out x hx))
          have hd6 := hd5.up_frame (.cells #[.int .i64 1000] 3)
          have hre := restart_ok (ts := [1000]) (tv := .slice (some ⟨w5.heap.size, 0, none⟩) 1 1) hd6 (by omega) 1 ⟨_, _, rfl, .inr ⟨_, _, rfl, by simp, fun i t hi => by
            match i, hi with
            | 0, hi => simp at hi; subst hi; exact cell_at_new _ _ _ _ _ rfl⟩⟩ (fun x hx => by simp [Value.rowBlock] at hx; subst hx; exact .inr ⟨Nat.le_refl _, by simp⟩) (by simp)
          have hB6 : Below w.heap.size w (w5.alloc (.cells #[.int .i64 1000] 3)) := hB5.trans ((below_alloc w5 _).mono hB5.size)
          clear hsy hs5 hd5 hd6 hB4 hB5
          go_wp2_with fail
          refine hre.mono ?_
          rintro e w7 ⟨⟨x7, rfl⟩, hs7, ns, ⟨hnd, hmem, _⟩, hd7⟩
          have hB7 := hB6.trans (hs7.below hB6.size (fun x hx => .inl (hY.out x hx)))
          obtain ⟨hu, hl, hc⟩ := arm_back HA.out hk50 rfl hnd hmem
          generalize hDD : lostAll [1000] 0 ns (back { d with up := false, left := 100 } (1 : Int).toNat) = D at hd7
          have hDD' : lostAll [1000] 0 ns (back { d with up := false, left := 100 } 1) = D := hDD
          rw [hDD'] at hu hl hc
          clear hre hs7 hnd hmem hB6 hDD hDD'
          rcases hc with ⟨rfl, hnone⟩ | ⟨hpos, i, hsome, hlen⟩
          · have hrd := read_none (l := [102]) hd7 (by unfold maxLen; simp) hu hnone
            have HD7 := Lib.hid hd7
            have HU := Lib.hid hu
            have HL := Lib.hid hl
            clear hd7 hnone hu hl
            go_wp2_with fail
            refine hrd.mono ?_
            rintro e w8 ⟨u, rfl, hrow, hb8⟩
            obtain ⟨ua, uc, rfl⟩ := row_len hrow
            have hd8 := HD7.out.keep hb8
            have hdn := down_ok hd8
            rw [HU.out] at hdn
            have hsy := syncDir_ok hd8 (by omega) HU.out (by rw [HL.out]; decide)
            have hB8 := hB7.trans (hb8.mono hB7.size)
            clear hrd hrow hd8 hB7 hb8
            go_wp2_with (first | (go_at_call 17; refine hdn.mono ?_; rintro e w9 ⟨rfl, rfl⟩) | (go_at_call 23; refine hsy.mono ?_; rintro e w10 ⟨rfl, hs10, d10, hd10, _⟩; have hB10 := hB8.trans (hs10.below hB8.size (fun x hx => .inl (hY.out x hx)))) | (go_at_call 18; refine (awake_c _).mono ?_; rintro e w11 ⟨rfl, hb11⟩))
            go_ret
            exact ⟨rfl, hB10.trans (hb11.mono hB10.size)⟩
          · have hrd := read_some (l := [102]) hd7 (by unfold maxLen; simp) hu hsome
            rw [hlen] at hrd
            have HD7 := Lib.hid hd7
            have HU := Lib.hid hu
            have HL := Lib.hid hl
            have hjp : decide ((0 : Int) < (j : Int)) = true := decide_eq_true (by omega)
            clear hd7 hsome hu hl hlen
            go_wp2_with fail
            refine hrd.mono ?_
            rintro e w8 ⟨u, rfl, hrow, hb8⟩
            obtain ⟨ua, uc, rfl⟩ := row_len hrow
            have hd8 := HD7.out.keep hb8
            have hdn := down_ok hd8
            rw [HU.out] at hdn
            have hsy := syncDir_ok hd8 (by omega) HU.out (by rw [HL.out]; decide)
            have hB8 := hB7.trans (hb8.mono hB7.size)
            clear hrd hrow hd8 hB7 hb8
            go_wp2_with (first | (go_at_call 17; refine hdn.mono ?_; rintro e w9 ⟨rfl, rfl⟩) | (go_at_call 23; refine hsy.mono ?_; rintro e w10 ⟨rfl, hs10, d10, hd10, _⟩; have hB10 := hB8.trans (hs10.below hB8.size (fun x hx => .inl (hY.out x hx)))) | (go_at_call 18; refine (awake_c _).mono ?_; rintro e w11 ⟨rfl, hb11⟩))
            go_ret
            exact ⟨rfl, hB10.trans (hb11.mono hB10.size)⟩
end Go.Proofs.Ytkgipabcgbneoaa
