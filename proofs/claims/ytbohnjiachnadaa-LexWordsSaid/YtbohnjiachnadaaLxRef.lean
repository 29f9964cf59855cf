/-
  THE DOCUMENT's OWN WORDS, WALKED.
-/
import Derived.Test.YtbohnjiachnadaaLxW2
namespace Go.Proofs.Ytbohnjiachnadaa.Lx
open Go.RowKit

def stopB (c : UInt8) : Bool := c == 32 || c == 58 || c == 124

theorem W_stop {l : Bs} (h : ∀ c, l.head? = some c → stopB c = true) (cur : Bs) : W cur l = fl cur ++ W [] l := by
  cases l with
  | nil => rw [W_end, W_end, fl_nil, List.append_nil]
  | cons c r =>
    have hc := h c rfl
    simp only [stopB, Bool.or_eq_true, beq_iff_eq] at hc
    rcases hc with (rfl | rfl) | rfl
    · rw [W_blank, W_blank]; rfl
    · rw [W_colon, W_colon]; rfl
    · by_cases hh : r.head? = some 124
      · obtain ⟨t, rfl⟩ : ∃ t, r = 124 :: t := by cases r with | nil => cases hh | cons a t => exact ⟨t, by cases hh; rfl⟩
        rw [W_bar2, W_bar2]; rfl
      · rw [W_bar1 _ _ hh, W_bar1 _ _ hh]; rfl

/-- a word ends where a sign or a blank stands, or the text ends -/
theorem step_stop {S : Bs} {a k : Nat} {K R : List Bs} (hak : a < k) (hk : k ≤ S.length) (h : ∀ c, S[k]? = some c → stopB c = true) (hr : K ++ W ((S.drop a).take (k - a)) (S.drop k) = R) :
    (K ++ [(S.drop a).take (k - a)]) ++ W [] (S.drop k) = R := by
  rw [W_stop (fun c hc => h c (by rw [List.head?_drop] at hc; exact hc)), fl_ne, ← List.append_assoc] at hr
  · exact hr
  · intro e
    have := congrArg List.length e
    rw [List.length_take, List.length_drop, List.length_nil] at this
    omega

theorem step_last {S : Bs} {a k : Nat} {K R : List Bs} (h : S[k]? = some 36) (ha : a ≤ k) (hk : ¬ k + 1 < S.length) (hr : K ++ W ((S.drop a).take (k - a)) (S.drop k) = R) : K ++ W ((S.drop a).take (k + 1 - a)) (S.drop (k + 1)) = R := by
  have h2 := step_esc h ha hr
  have d1 : S.drop (k + 2) = [] := List.drop_eq_nil_of_le (by omega)
  have d2 : S.drop (k + 1) = [] := List.drop_eq_nil_of_le (by omega)
  have hl : (S.drop a).length ≤ k + 1 - a := by rw [List.length_drop]; omega
  rw [d1, List.take_of_length_le (by omega)] at h2
  rw [d2, List.take_of_length_le hl]
  exact h2

theorem out_blank {S : Bs} {j : Nat} {K R : List Bs} (h : S[j]? = some 32) (hr : K ++ W [] (S.drop j) = R) : K ++ W [] (S.drop (j + 1)) = R := by
  rw [drop_at h, W_blank] at hr
  exact hr
theorem out_colon {S : Bs} {j : Nat} {K R : List Bs} (h : S[j]? = some 58) (hr : K ++ W [] (S.drop j) = R) : (K ++ [[58]]) ++ W [] (S.drop (j + 1)) = R := by
  rw [drop_at h, W_colon] at hr
  rw [List.append_assoc]
  exact hr
theorem out_bar2 {S : Bs} {j : Nat} {K R : List Bs} (h : S[j]? = some 124) (h2 : S[j + 1]? = some 124) (hr : K ++ W [] (S.drop j) = R) : (K ++ [[124, 124]]) ++ W [] (S.drop (j + 2)) = R := by
  rw [drop_at h, drop_at h2, W_bar2] at hr
  rw [List.append_assoc]
  exact hr
theorem out_bar1 {S : Bs} {j : Nat} {K R : List Bs} (h : S[j]? = some 124) (h2 : S[j + 1]? ≠ some 124) (hr : K ++ W [] (S.drop j) = R) : (K ++ [[124]]) ++ W [] (S.drop (j + 1)) = R := by
  rw [drop_at h, W_bar1 _ _ (by rw [List.head?_drop]; exact h2)] at hr
  rw [List.append_assoc]
  exact hr

theorem ne_byte {c : UInt8} {n : Nat} {d : UInt8} (hd : d.toNat = n) (h : c ≠ d) : ((c.toNat : Int) == (n : Int)) = false := by
  have : ¬ c.toNat = n := fun e => h (UInt8.toNat_inj.1 (e.trans hd.symm))
  simp; omega
theorem nen_byte {c : UInt8} {n : Nat} {d : UInt8} (hd : d.toNat = n) (h : c ≠ d) : ((c.toNat : Int) != (n : Int)) = true := by
  rw [bne, ne_byte hd h]; rfl

theorem app_count1 {S : Bs} {K R Z : List Bs} (h : K ++ Z = R) (hR : words S = R) : K.length ≤ S.length := app_count (h.trans hR.symm)

/-- the row of words that is told so far -/
def Out (w w' : World) (v : Value) (K : List Bs) : Prop := w'.ownsRow w.heap.size 9 1 v K.length (strV K) ∧ Below w.heap.size w w'

set_option maxRecDepth 100000 in
set_option maxHeartbeats 8000000 in
theorem refWords_c (S : Bs) (hS : S.length ≤ 100000) (w : World) :
    Calls Try.prog 12 #[.string (mk S)] w fun e w' => ∃ v, e = .returned v ∧ Strs w' v (words S) ∧ Below w.heap.size w w' := by
  obtain ⟨R, hR⟩ : ∃ R, words S = R := ⟨_, rfl⟩
  have HRR := Lib.hid hR
  rw [hR]
  clear hR
  have hz := mk_size S
  go_enter Try.func12, Try.ntmps12
  go_wp2
  go_loopw [3, 4] (fun out at' W' => ∃ (a : Nat) (K : List Bs) (ad : Option Addr) (n c : Nat), at' = .int .i64 a ∧ a ≤ S.length ∧ out = .slice ad n c ∧ n ≤ 100000 ∧ Hid (K ++ Lx.W [] (S.drop a) = R) ∧ Hid (K.length = n) ∧ Hid (Out w W' (.slice ad n c) K)) (fun _ at' _ => S.length - (intOf at').toNat)
  case atStart => exact ⟨0, [], none, 0, 0, rfl, Nat.zero_le _, rfl, by omega, Lib.hid HRR.out, Lib.hid rfl, Lib.hid ⟨World.ownsRow_nil _ _ _ _, Below.refl _ _⟩⟩
  case round =>
    obtain ⟨a, K, ad, n, c, rfl, ha, rfl, hn, HW, HN, HO⟩ := hrel
    by_cases hlt : a < S.length
    · have hai : (a : Int) < ((mk S).size : Int) := by rw [hz]; omega
      have has : a < (mk S).size := by rw [hz]; exact hlt
      have hb := get_mk S has
      obtain ⟨x, hx⟩ : ∃ x, (mk S)[a] = x := ⟨_, rfl⟩
      have hcb : (mk S)[a].toNat = x.toNat := by rw [hx]
      rw [hx] at hb
      by_cases h32 : x = 32
      · have e32 : (((mk S)[a].toNat : Int) == 32) = true := by rw [hcb, h32]; rfl
        have HNX := Lib.hid (out_blank (h32 ▸ hb) HW.out)
        clear hb hx hcb h32
        go_wp2
        go_roundw
        case rel => exact ⟨a + 1, K, ad, n, c, by go_num, by omega, rfl, hn, HNX, HN, HO⟩
        case measure => simp [intOf]; omega
      have e32 : (((mk S)[a].toNat : Int) == 32) = false := by rw [hcb]; exact ne_byte (d := 32) rfl h32
      by_cases h58 : x = 58
      · have e58 : (((mk S)[a].toNat : Int) == 58) = true := by rw [hcb, h58]; rfl
        have hown : wr.ownsRow w.heap.size 9 1 (.slice ad n c) n (strV K) := by have := HO.out.1; rw [HN.out] at this; exact this
        have HBW := Lib.hid HO.out.2
        have hsz := HO.out.2.size
        have HNX := Lib.hid (out_colon (h58 ▸ hb) HW.out)
        have hnn : n ≤ S.length := by have := app_count1 HW.out HRR.out; rw [HN.out] at this; exact this
        clear hb hx hcb h32 h58
        go_wp2_with (at_builtin; refine wpList_append_str rfl (.tmp 68) (.tmp 69) rfl w.heap.size _ n K rfl (hown.alloc _) ⟨wr.heap.size, 0, none⟩ 1 [58] rfl (cell_one_new _ _ _) (by omega) (by simp; omega) ?_; intro a' c' w1 hown1 hb1)
        go_roundw
        case rel =>
          refine ⟨a + 1, K ++ [[58]], a', n + 1, c', by go_num, by omega, rfl, ?_, HNX, Lib.hid (by rw [List.length_append, HN.out]; rfl), Lib.hid ⟨?_, (HBW.out.alloc hsz _).trans hb1⟩⟩
          · have := app_count1 HNX.out HRR.out
            rw [List.length_append, HN.out, List.length_singleton] at this
            omega
          · rw [List.length_append, HN.out]; exact hown1
        case measure => simp [intOf]; omega
      have e58 : (((mk S)[a].toNat : Int) == 58) = false := by rw [hcb]; exact ne_byte (d := 58) rfl h58
      by_cases h124 : x = 124
      · have e124 : (((mk S)[a].toNat : Int) == 124) = true := by rw [hcb, h124]; rfl
        have hwr : IntKind.i64.wrap ((a : Int) + 1) = (a : Int) + 1 := IntWalk.i64_in _ (by omega)
        by_cases h1 : S[a + 1]? = some 124
        · have hl1 : a + 1 < S.length := (List.getElem?_eq_some_iff.1 h1).1
          have hl1i : (a : Int) + 1 < ((mk S).size : Int) := by rw [hz]; omega
          have hl1s : a + 1 < (mk S).size := by rw [hz]; exact hl1
          have e124b : (((mk S)[a + 1].toNat : Int) == 124) = true := by
            have := get_mk S hl1s
            rw [h1] at this
            rw [← Option.some.inj this]; rfl
          have hown : wr.ownsRow w.heap.size 9 1 (.slice ad n c) n (strV K) := by have := HO.out.1; rw [HN.out] at this; exact this
          have HBW := Lib.hid HO.out.2
          have hsz := HO.out.2.size
          have HNX := Lib.hid (out_bar2 (h124 ▸ hb) h1 HW.out)
          have hnn : n ≤ S.length := by have := app_count1 HW.out HRR.out; rw [HN.out] at this; exact this
          clear hb hx hcb h32 h58 h124 h1
          go_wp2_with (at_builtin; refine wpList_append_str rfl (.tmp 92) (.tmp 93) rfl w.heap.size _ n K rfl (hown.alloc _) ⟨wr.heap.size, 0, none⟩ 1 [124, 124] rfl (cell_one_new _ _ _) (by omega) (by simp; omega) ?_; intro a' c' w1 hown1 hb1)
          go_roundw
          case rel =>
            refine ⟨a + 2, K ++ [[124, 124]], a', n + 1, c', by go_num, by omega, rfl, ?_, HNX, Lib.hid (by rw [List.length_append, HN.out]; rfl), Lib.hid ⟨?_, (HBW.out.alloc hsz _).trans hb1⟩⟩
            · have := app_count1 HNX.out HRR.out
              rw [List.length_append, HN.out, List.length_singleton] at this
              omega
            · rw [List.length_append, HN.out]; exact hown1
          case measure => simp [intOf]; omega
        · have HNX0 := Lib.hid (out_bar1 (h124 ▸ hb) h1 HW.out)
          have e2 : (decide ((a : Int) + 1 < ((mk S).size : Int)) = false) ∨ ∃ h : a + 1 < (mk S).size, (a : Int) + 1 < ((mk S).size : Int) ∧ (((mk S)[a + 1].toNat : Int) == 124) = false := by
            by_cases hl1 : a + 1 < (mk S).size
            · refine .inr ⟨hl1, by omega, ?_⟩
              have := get_mk S hl1
              refine ne_byte (d := 124) rfl fun e => h1 ?_
              rw [this, e]
            · exact .inl (decide_eq_false (by omega))
          clear h1
          rcases e2 with e2 | ⟨hl1s, hl1i, e2⟩
          · have hl1i : ¬ (a : Int) + 1 < ((mk S).size : Int) := of_decide_eq_false e2
            clear e2
            have hown : wr.ownsRow w.heap.size 9 1 (.slice ad n c) n (strV K) := by have := HO.out.1; rw [HN.out] at this; exact this
            have HBW := Lib.hid HO.out.2
            have hsz := HO.out.2.size
            have HNX := Lib.hid (HNX0.out)
            have hnn : n ≤ S.length := by have := app_count1 HW.out HRR.out; rw [HN.out] at this; exact this
            clear hb hx hcb h32 h58 h124
            go_wp2_with (at_builtin; refine wpList_append_str rfl (.tmp 102) (.tmp 103) rfl w.heap.size _ n K rfl (hown.alloc _) ⟨wr.heap.size, 0, none⟩ 1 [124] rfl (cell_one_new _ _ _) (by omega) (by simp; omega) ?_; intro a' c' w1 hown1 hb1)
            go_roundw
            case rel =>
              refine ⟨a + 1, K ++ [[124]], a', n + 1, c', by go_num, by omega, rfl, ?_, HNX, Lib.hid (by rw [List.length_append, HN.out]; rfl), Lib.hid ⟨?_, (HBW.out.alloc hsz _).trans hb1⟩⟩
              · have := app_count1 HNX.out HRR.out
                rw [List.length_append, HN.out, List.length_singleton] at this
                omega
              · rw [List.length_append, HN.out]; exact hown1
            case measure => simp [intOf]; omega
          · have hown : wr.ownsRow w.heap.size 9 1 (.slice ad n c) n (strV K) := by have := HO.out.1; rw [HN.out] at this; exact this
            have HBW := Lib.hid HO.out.2
            have hsz := HO.out.2.size
            have HNX := Lib.hid (HNX0.out)
            have hnn : n ≤ S.length := by have := app_count1 HW.out HRR.out; rw [HN.out] at this; exact this
            clear hb hx hcb h32 h58 h124
            go_wp2_with (at_builtin; refine wpList_append_str rfl (.tmp 102) (.tmp 103) rfl w.heap.size _ n K rfl (hown.alloc _) ⟨wr.heap.size, 0, none⟩ 1 [124] rfl (cell_one_new _ _ _) (by omega) (by simp; omega) ?_; intro a' c' w1 hown1 hb1)
            go_roundw
            case rel =>
              refine ⟨a + 1, K ++ [[124]], a', n + 1, c', by go_num, by omega, rfl, ?_, HNX, Lib.hid (by rw [List.length_append, HN.out]; rfl), Lib.hid ⟨?_, (HBW.out.alloc hsz _).trans hb1⟩⟩
              · have := app_count1 HNX.out HRR.out
                rw [List.length_append, HN.out, List.length_singleton] at this
                omega
              · rw [List.length_append, HN.out]; exact hown1
            case measure => simp [intOf]; omega
      have e124 : (((mk S)[a].toNat : Int) == 124) = false := by rw [hcb]; exact ne_byte (d := 124) rfl h124
      have HB := Lib.hid hb
      have hplain : stopB x = false := by simp [stopB, h32, h58, h124]
      have HPL := Lib.hid hplain
      clear hb hx hcb h32 h58 h124 hplain
      go_wp2_with fail
      go_loopw [5] (fun end' W' => ∃ k : Nat, end' = .int .i64 k ∧ a ≤ k ∧ k ≤ S.length ∧ Hid (K ++ Lx.W ((S.drop a).take (k - a)) (S.drop k) = R) ∧ wr = W') (fun end' _ => S.length - (intOf end').toNat)
      case atStart => exact ⟨a, rfl, Nat.le_refl _, ha, Lib.hid (by rw [Nat.sub_self]; exact HW.out), rfl⟩
      case round =>
        obtain ⟨k, rfl, hak, hk, HK, rfl⟩ := hrel
        clear e32 e58 e124
        have hstop : ∀ (hs : ∀ c, S[k]? = some c → stopB c = true), a < k ∧ (K ++ [(S.drop a).take (k - a)]) ++ Lx.W [] (S.drop k) = R := fun hs => by
          have hak' : a < k := by
            rcases Nat.lt_or_ge a k with h | h
            · exact h
            · obtain rfl : k = a := by omega
              have := hs _ HB.out
              rw [HPL.out] at this
              cases this
          exact ⟨hak', step_stop hak' hk hs HK.out⟩
        by_cases hkl : k < S.length
        · have hki : (k : Int) < ((mk S).size : Int) := by rw [hz]; omega
          have hks : k < (mk S).size := by rw [hz]; exact hkl
          have hb := get_mk S hks
          obtain ⟨y, hy⟩ : ∃ y, (mk S)[k] = y := ⟨_, rfl⟩
          have hcb : (mk S)[k].toNat = y.toNat := by rw [hy]
          rw [hy] at hb
          by_cases hst : stopB y = true
          · obtain ⟨hak', hnx⟩ := hstop (fun c hc => by rw [hb] at hc; cases hc; exact hst)
            have e3 : (((mk S)[k].toNat : Int) != 32) = false ∨ ((((mk S)[k].toNat : Int) != 32) = true ∧ (((mk S)[k].toNat : Int) != 58) = false) ∨ ((((mk S)[k].toNat : Int) != 32) = true ∧ (((mk S)[k].toNat : Int) != 58) = true ∧ (((mk S)[k].toNat : Int) != 124) = false) := by
              rw [hcb]
              simp only [stopB, Bool.or_eq_true, beq_iff_eq] at hst
              rcases hst with (rfl | rfl) | rfl
              · exact .inl rfl
              · exact .inr (.inl ⟨rfl, rfl⟩)
              · exact .inr (.inr ⟨rfl, rfl, rfl⟩)
            have hown : wr.ownsRow w.heap.size 9 1 (.slice ad n c) n (strV K) := by have := HO.out.1; rw [HN.out] at this; exact this
            have HBW := Lib.hid HO.out.2
            have hsz := HO.out.2.size
            have hex : (mk S).extract a k = mk ((S.drop a).take (k - a)) := mk_extract S a k
            obtain ⟨P, hP⟩ : ∃ P, (S.drop a).take (k - a) = P := ⟨_, rfl⟩
            rw [hP] at hex hnx
            have HNX := Lib.hid hnx
            have hak2 : (a : Int) ≤ (k : Int) := by omega
            have hk2 : (k : Int) ≤ ((mk S).size : Int) := by rw [hz]; omega
            clear hnx hP hstop hb hy hcb hst
            rcases e3 with e3 | ⟨e3, e4⟩ | ⟨e3, e4, e5⟩
            all_goals go_wp2_with (at_builtin; refine wpList_append_str rfl (.tmp 48) (.tmp 53) rfl w.heap.size _ n K rfl (hown.alloc _) ⟨wr.heap.size, 0, none⟩ 1 P rfl (cell_one_new _ _ _) (by omega) (by simp; omega) ?_; intro a' c' w1 hown1 hb1)
            all_goals go_roundw
            case rel =>
              refine ⟨k, K ++ [P], a', n + 1, c', rfl, by omega, rfl, ?_, HNX, Lib.hid (by rw [List.length_append, HN.out]; rfl), Lib.hid ⟨?_, (HBW.out.alloc hsz _).trans hb1⟩⟩
              · have := app_count1 HNX.out HRR.out
                rw [List.length_append, HN.out, List.length_singleton] at this
                omega
              · rw [List.length_append, HN.out]; exact hown1
            case measure => simp [intOf]; omega
            case rel =>
              refine ⟨k, K ++ [P], a', n + 1, c', rfl, by omega, rfl, ?_, HNX, Lib.hid (by rw [List.length_append, HN.out]; rfl), Lib.hid ⟨?_, (HBW.out.alloc hsz _).trans hb1⟩⟩
              · have := app_count1 HNX.out HRR.out
                rw [List.length_append, HN.out, List.length_singleton] at this
                omega
              · rw [List.length_append, HN.out]; exact hown1
            case measure => simp [intOf]; omega
            case rel =>
              refine ⟨k, K ++ [P], a', n + 1, c', rfl, by omega, rfl, ?_, HNX, Lib.hid (by rw [List.length_append, HN.out]; rfl), Lib.hid ⟨?_, (HBW.out.alloc hsz _).trans hb1⟩⟩
              · have := app_count1 HNX.out HRR.out
                rw [List.length_append, HN.out, List.length_singleton] at this
                omega
              · rw [List.length_append, HN.out]; exact hown1
            case measure => simp [intOf]; omega
          · have hst' : stopB y = false := by simpa using hst
            have n32 : y ≠ 32 := by rintro rfl; exact hst rfl
            have n58 : y ≠ 58 := by rintro rfl; exact hst rfl
            have n124 : y ≠ 124 := by rintro rfl; exact hst rfl
            have e32 : (((mk S)[k].toNat : Int) != 32) = true := by rw [hcb]; exact nen_byte (d := 32) rfl n32
            have e58 : (((mk S)[k].toNat : Int) != 58) = true := by rw [hcb]; exact nen_byte (d := 58) rfl n58
            have e124 : (((mk S)[k].toNat : Int) != 124) = true := by rw [hcb]; exact nen_byte (d := 124) rfl n124
            by_cases h36 : y = 36
            · have e36 : (((mk S)[k].toNat : Int) == 36) = true := by rw [hcb, h36]; rfl
              have hwr : IntKind.i64.wrap ((k : Int) + 1) = (k : Int) + 1 := IntWalk.i64_in _ (by omega)
              by_cases hl1 : k + 1 < S.length
              · have hl1i : (k : Int) + 1 < ((mk S).size : Int) := by rw [hz]; omega
                have HNX := Lib.hid (step_esc (h36 ▸ hb) hak HK.out)
                clear hb hy hcb hst hst' n32 n58 n124 h36 hstop hwr
                go_wp2_with fail
                go_roundw
                case rel => exact ⟨k + 2, by go_num, by omega, by omega, HNX, trivial⟩
                case measure => simp [intOf]; omega
              · have hl1i : ¬ (k : Int) + 1 < ((mk S).size : Int) := by rw [hz]; omega
                have HNX := Lib.hid (step_last (h36 ▸ hb) hak hl1 HK.out)
                clear hb hy hcb hst hst' n32 n58 n124 h36 hstop hwr
                go_wp2_with fail
                go_roundw
                case rel => exact ⟨k + 1, by go_num, by omega, by omega, HNX, trivial⟩
                case measure => simp [intOf]; omega
            · have e36 : (((mk S)[k].toNat : Int) == 36) = false := by rw [hcb]; exact ne_byte (d := 36) rfl h36
              have HNX := Lib.hid (step_plain hb hak h36 n32 n58 n124 HK.out)
              clear hb hy hcb hst hst' n32 n58 n124 h36 hstop
              go_wp2_with fail
              go_roundw
              case rel => exact ⟨k + 1, by go_num, by omega, by omega, HNX, trivial⟩
              case measure => simp [intOf]; omega
        · have hki : ¬ (k : Int) < ((mk S).size : Int) := by rw [hz]; omega
          obtain ⟨hak', hnx⟩ := hstop (fun c hc => by have := (List.getElem?_eq_some_iff.1 hc).1; omega)
          have hown : wr.ownsRow w.heap.size 9 1 (.slice ad n c) n (strV K) := by have := HO.out.1; rw [HN.out] at this; exact this
          have HBW := Lib.hid HO.out.2
          have hsz := HO.out.2.size
          have hex : (mk S).extract a k = mk ((S.drop a).take (k - a)) := mk_extract S a k
          obtain ⟨P, hP⟩ : ∃ P, (S.drop a).take (k - a) = P := ⟨_, rfl⟩
          rw [hP] at hex hnx
          have HNX := Lib.hid hnx
          have hak2 : (a : Int) ≤ (k : Int) := by omega
          have hk2 : (k : Int) ≤ ((mk S).size : Int) := by rw [hz]; omega
          clear hnx hP hstop
          go_wp2_with (at_builtin; refine wpList_append_str rfl (.tmp 48) (.tmp 53) rfl w.heap.size _ n K rfl (hown.alloc _) ⟨wr.heap.size, 0, none⟩ 1 P rfl (cell_one_new _ _ _) (by omega) (by simp; omega) ?_; intro a' c' w1 hown1 hb1)
          go_roundw
          case rel =>
            refine ⟨k, K ++ [P], a', n + 1, c', rfl, by omega, rfl, ?_, HNX, Lib.hid (by rw [List.length_append, HN.out]; rfl), Lib.hid ⟨?_, (HBW.out.alloc hsz _).trans hb1⟩⟩
            · have := app_count1 HNX.out HRR.out
              rw [List.length_append, HN.out, List.length_singleton] at this
              omega
            · rw [List.length_append, HN.out]; exact hown1
          case measure => simp [intOf]; omega
    · have hli : ¬ (a : Int) < ((mk S).size : Int) := by rw [hz]; omega
      have hRK : K = R := by
        have := HW.out
        rw [List.drop_eq_nil_of_le (by omega), W_end, fl_nil, List.append_nil] at this
        exact this
      have HRK := Lib.hid hRK
      clear hRK
      go_wp2_with fail
      go_ret
      refine ⟨_, rfl, ?_, HO.out.2⟩
      have := owns_strs HO.out.1
      rw [HRK.out] at this
      exact this
end Go.Proofs.Ytbohnjiachnadaa.Lx
