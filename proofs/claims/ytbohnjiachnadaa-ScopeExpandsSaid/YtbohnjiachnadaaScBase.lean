/-
  YtbohnjiachnadaaS: letters, figures, and others that may be; a text cut at a byte.
-/
import Derived.Test.YtbohnjiachnadaaStrBase
import Derived.Test.YtbohnjiachnadaaScMath
import Derived.Test.YtbohnjiachnadaaScShelf
namespace Go.Proofs.Ytbohnjiachnadaa.Sc
open Go.RowKit

/-- is a byte one of these? -/
def ofB (o : Bs) (c : UInt8) : Bool := decide (0 ≤ Lib.indexByte o c)
theorem of_esc : ∀ n : Nat, n < 256 → ofB [36, 32, 58, 124] (UInt8.ofNat n) = escB (UInt8.ofNat n) := by decide +kernel
theorem of_short : ∀ n : Nat, n < 256 → (alnum (UInt8.ofNat n) || ofB [95, 45] (UInt8.ofNat n)) = shortB (UInt8.ofNat n) := by decide +kernel
theorem of_long : ∀ n : Nat, n < 256 → (alnum (UInt8.ofNat n) || ofB [95, 45, 46] (UInt8.ofNat n)) = longB (UInt8.ofNat n) := by decide +kernel
theorem ofB_esc (c : UInt8) : ofB [36, 32, 58, 124] c = escB c := by have := of_esc c.toNat c.toNat_lt; simpa using this
theorem ofB_short (c : UInt8) : (alnum c || ofB [95, 45] c) = shortB c := by have := of_short c.toNat c.toNat_lt; simpa using this
theorem ofB_long (c : UInt8) : (alnum c || ofB [95, 45, 46] c) = longB c := by have := of_long c.toNat c.toNat_lt; simpa using this

set_option maxHeartbeats 1000000 in
theorem isOf_c (o : Bs) (c : UInt8) (w : World) : Calls Try.prog 39 #[.string (mk o), .int .u8 (c.toNat : Int)] w fun e w' => e = .returned (.bool (ofB o c)) ∧ w = w' := by
  have hi := shstringsIndexByte (mk o) (c.toNat : Int) w
  rw [mk_bytes, Int.toNat_natCast] at hi
  rw [show c.toNat.toUInt8 = c from by simp] at hi
  have hd : ofB o c = decide (0 ≤ Lib.indexByte o c) := rfl
  rw [hd]
  generalize Lib.indexByte o c = p at *
  clear hd
  go_enter Try.func39, Try.ntmps39
  go_wp2_with fail
  refine hi.mono ?_
  rintro e w1 ⟨rfl, rfl⟩
  go_wp2
  go_ret
  exact ⟨rfl, rfl⟩

set_option maxHeartbeats 1000000 in
theorem alnum_c (c : UInt8) (w : World) : Calls Try.prog 47 #[.int .u8 (c.toNat : Int)] w fun e w' => e = .returned (.bool (alnum c)) ∧ w = w' := by
  have hd : alnum c = ((decide (97 ≤ c.toNat) && decide (c.toNat ≤ 122)) || (decide (65 ≤ c.toNat) && decide (c.toNat ≤ 90)) || (decide (48 ≤ c.toNat) && decide (c.toNat ≤ 57))) := rfl
  rw [hd]
  have h1 : decide ((97 : Int) ≤ (c.toNat : Int)) = decide (97 ≤ c.toNat) := decide_eq_decide.2 (by omega)
  have h2 : decide ((c.toNat : Int) ≤ 122) = decide (c.toNat ≤ 122) := decide_eq_decide.2 (by omega)
  have h3 : decide ((65 : Int) ≤ (c.toNat : Int)) = decide (65 ≤ c.toNat) := decide_eq_decide.2 (by omega)
  have h4 : decide ((c.toNat : Int) ≤ 90) = decide (c.toNat ≤ 90) := decide_eq_decide.2 (by omega)
  have h5 : decide ((48 : Int) ≤ (c.toNat : Int)) = decide (48 ≤ c.toNat) := decide_eq_decide.2 (by omega)
  have h6 : decide ((c.toNat : Int) ≤ 57) = decide (c.toNat ≤ 57) := decide_eq_decide.2 (by omega)
  clear hd
  generalize c.toNat = n at *
  generalize decide (97 ≤ n) = b1 at *
  generalize decide (n ≤ 122) = b2 at *
  generalize decide (65 ≤ n) = b3 at *
  generalize decide (n ≤ 90) = b4 at *
  generalize decide (48 ≤ n) = b5 at *
  generalize decide (n ≤ 57) = b6 at *
  go_enter Try.func47, Try.ntmps47
  cases b1 <;> cases b2 <;> cases b3 <;> cases b4 <;> cases b5 <;> cases b6 <;>
  · simp only [decide_eq_true_eq, decide_eq_false_iff_not] at h1 h2 h3 h4 h5 h6
    first
      | (exfalso; omega)
      | (go_wp2
         go_ret
         exact ⟨rfl, rfl⟩)

/-- how many bytes of a kind a text begins with -/
def headN (p : UInt8 → Bool) (s : Bs) : Nat := (s.takeWhile p).length

theorem headN_split {p : UInt8 → Bool} {s : Bs} {j : Nat} (hj : j ≤ s.length) (h : (s.take j).all p = true) : headN p s = j + headN p (s.drop j) := by
  unfold headN
  have e : s.takeWhile p = s.take j ++ (s.drop j).takeWhile p := by
    conv => lhs; rw [← List.take_append_drop j s]
    rw [List.takeWhile_append_of_pos (by simpa [List.all_eq_true] using h)]
  rw [e, List.length_append, List.length_take]
  omega

theorem headN_stop {p : UInt8 → Bool} {s : Bs} {j : Nat} {c : UInt8} (h : (s.take j).all p = true) (hc : s[j]? = some c) (hp : p c = false) : headN p s = j := by
  obtain ⟨hj, e⟩ := List.getElem?_eq_some_iff.1 hc
  rw [headN_split (by omega) h, List.drop_eq_getElem_cons hj, e]
  unfold headN
  simp [hp]

theorem headN_all {p : UInt8 → Bool} {s : Bs} (h : s.all p = true) : headN p s = s.length := by
  have := headN_split (p := p) (s := s) (j := s.length) (Nat.le_refl _) (by rw [List.take_length]; exact h)
  rw [this, List.drop_length]
  rfl

theorem all_snoc {p : UInt8 → Bool} {s : Bs} {j : Nat} {c : UInt8} (h : (s.take j).all p = true) (hc : s[j]? = some c) (hp : p c = true) : (s.take (j + 1)).all p = true := by
  rw [List.take_add_one, hc, List.all_append, h]
  simp [hp]

theorem headN_le (p : UInt8 → Bool) (s : Bs) : headN p s ≤ s.length := takeWhile_len s

set_option maxRecDepth 100000 in
set_option maxHeartbeats 2000000 in
theorem nameLen_c (s o : Bs) (hs : s.length ≤ 1000000) (w : World) : Calls Try.prog 41 #[.string (mk s), .string (mk o)] w fun e w' => e = .returned (.int .i64 (headN (fun c => alnum c || ofB o c) s : Nat)) ∧ w = w' := by
  have hz := mk_size s
  obtain ⟨p, hp⟩ : ∃ p : UInt8 → Bool, (fun c => alnum c || ofB o c) = p := ⟨_, rfl⟩
  have hpc : ∀ c, p c = (alnum c || ofB o c) := fun c => by rw [← hp]
  rw [hp]
  have HP := Lib.hid hpc
  clear hp hpc
  go_enter Try.func41, Try.ntmps41
  go_wp2
  go_loopw [5] (fun i W' => ∃ j : Nat, i = .int .i64 j ∧ j ≤ s.length ∧ Hid ((s.take j).all p = true) ∧ w = W') (fun i _ => s.length - (intOf i).toNat)
  case atStart => exact ⟨0, rfl, Nat.zero_le _, Lib.hid rfl, rfl⟩
  case round =>
    obtain ⟨j, rfl, hj, HA, rfl⟩ := hrel
    by_cases hlt : j < s.length
    · have hji : (j : Int) < ((mk s).size : Int) := by rw [hz]; omega
      have hjs : j < (mk s).size := by rw [hz]; exact hlt
      have hb := get_mk s hjs
      have ha := alnum_c ((mk s)[j])
      have ho := isOf_c o ((mk s)[j])
      have hpv := HP.out ((mk s)[j])
      have hstop := headN_stop HA.out hb
      have hnext := all_snoc HA.out hb
      generalize alnum ((mk s)[j]) = b1 at *
      generalize ofB o ((mk s)[j]) = b2 at *
      rw [hpv] at hstop hnext
      clear hpv hb
      cases b1 <;> cases b2
      · have HE := Lib.hid (hstop rfl)
        clear hstop hnext
        go_wp2_with (first | (go_at_call 47; refine (ha _).mono ?_; rintro e w1 ⟨rfl, rfl⟩) | (go_at_call 39; refine (ho _).mono ?_; rintro e w1 ⟨rfl, rfl⟩))
        go_ret
        rw [HE.out]
        exact ⟨rfl, rfl⟩
      all_goals
        have HN := Lib.hid (hnext rfl)
        clear hstop hnext
        go_wp2_with (first | (go_at_call 47; refine (ha _).mono ?_; rintro e w1 ⟨rfl, rfl⟩) | (go_at_call 39; refine (ho _).mono ?_; rintro e w1 ⟨rfl, rfl⟩))
        go_roundw
        case rel => exact ⟨j + 1, by go_num, by omega, HN, trivial⟩
        case measure => simp [intOf]; omega
    · have hji : ¬ (j : Int) < ((mk s).size : Int) := by rw [hz]; omega
      have hE : headN p s = j := by
        rw [headN_all]
        · omega
        · have := HA.out
          rw [List.take_of_length_le (by omega)] at this
          exact this
      have HE := Lib.hid hE
      clear hE
      go_wp2
      go_ret
      rw [HE.out]
      exact ⟨rfl, rfl⟩

theorem short_fun : (fun c => alnum c || ofB [95, 45] c) = shortB := funext ofB_short
theorem long_fun : (fun c => alnum c || ofB [95, 45, 46] c) = longB := funext ofB_long

theorem shortLen_c (s : Bs) (hs : s.length ≤ 1000000) (w : World) : Calls Try.prog 41 #[.string (mk s), .string ⟨#[95, 45]⟩] w fun e w' => e = .returned (.int .i64 (headN shortB s : Nat)) ∧ w = w' := by
  have := nameLen_c s [95, 45] hs w
  rw [short_fun] at this
  exact this
theorem longLen_c (s : Bs) (hs : s.length ≤ 1000000) (w : World) : Calls Try.prog 41 #[.string (mk s), .string ⟨#[95, 45, 46]⟩] w fun e w' => e = .returned (.int .i64 (headN longB s : Nat)) ∧ w = w' := by
  have := nameLen_c s [95, 45, 46] hs w
  rw [long_fun] at this
  exact this

theorem headN_iff (p : UInt8 → Bool) (s : Bs) : s.all p = decide (headN p s = s.length) := by
  cases h : s.all p with
  | true => rw [decide_eq_true (headN_all h)]
  | false =>
    symm
    refine decide_eq_false fun e => ?_
    unfold headN at e
    have hp : s.takeWhile p <+: s := List.takeWhile_prefix p
    have he : s.takeWhile p = s := hp.eq_of_length e
    have : s.all p = true := by
      rw [← he]
      exact List.all_takeWhile
    rw [this] at h
    cases h

theorem empty_toList (s : Bs) : (mk s).toList.isEmpty = s.isEmpty := by rw [mk_toList]

set_option maxHeartbeats 1000000 in
theorem name_c (s : Bs) (hs : s.length ≤ 1000000) (w : World) : Calls Try.prog 26 #[.string (mk s)] w fun e w' => e = .returned (.bool (nameB s)) ∧ w = w' := by
  have hl := longLen_c s hs w
  have hz := mk_size s
  have hn : nameB s = (!s.isEmpty && decide (headN longB s = s.length)) := by unfold nameB; rw [headN_iff]
  have he := empty_toList s
  have hle := headN_le longB s
  rw [hn]
  clear hn
  generalize headN longB s = n at *
  cases hse : s.isEmpty with
  | true =>
    rw [hse] at he
    clear hse
    go_enter Try.func26, Try.ntmps26
    go_wp2
    go_ret
    exact ⟨rfl, rfl⟩
  | false =>
    rw [hse] at he
    clear hse
    by_cases hnl : n = s.length
    · rw [decide_eq_true hnl]
      have e1 : ((n : Int) == ((mk s).size : Int)) = true := by rw [hz, hnl]; simp
      have HL := Lib.hid hnl
      clear hnl hz
      go_enter Try.func26, Try.ntmps26
      go_wp2_with (refine hl.mono ?_; rintro e w1 ⟨rfl, rfl⟩)
      go_ret
      exact ⟨rfl, rfl⟩
    · rw [decide_eq_false hnl]
      have e1 : ((n : Int) == ((mk s).size : Int)) = false := by rw [hz]; simp; omega
      clear hnl hz
      go_enter Try.func26, Try.ntmps26
      go_wp2_with (refine hl.mono ?_; rintro e w1 ⟨rfl, rfl⟩)
      go_ret
      exact ⟨rfl, rfl⟩

/-! a text cut at a byte -/
theorem index_none {l : Bs} {b : UInt8} (h : Lib.indexByte l b = -1) : b ∉ l := by
  intro hb
  obtain ⟨k, hk, e⟩ := List.mem_iff_getElem.1 hb
  exact Lib.indexByte_none h k (by rw [List.getElem?_eq_getElem hk, e])

theorem index_some {l : Bs} {b : UInt8} {o : Nat} (h : Lib.indexByte l b = (o : Int)) : o < l.length ∧ cutAt b l = l.take o ∧ l = l.take o ++ b :: l.drop (o + 1) ∧ b ∉ l.take o := by
  obtain ⟨h1, h2⟩ := Lib.indexByte_some h
  obtain ⟨ho, he⟩ := List.getElem?_eq_some_iff.1 h1
  have hl : l = l.take o ++ b :: l.drop (o + 1) := by
    rw [← he]
    simp
  have hn : b ∉ l.take o := by
    intro hb
    obtain ⟨k, hk, e⟩ := List.mem_iff_getElem.1 hb
    rw [List.length_take] at hk
    exact h2 k (by omega) (by rw [List.getElem?_eq_getElem (by omega), ← e]; simp)
  refine ⟨ho, ?_, hl, hn⟩
  unfold cutAt
  conv => lhs; rw [hl]
  rw [List.takeWhile_append_of_pos]
  · simp
  · intro x hx
    simp
    rintro rfl
    exact hn hx

/-- what a cut at a byte tells -/
def Cut (r : Bs) (b : UInt8) (e : Ending) : Prop :=
  (b ∉ r ∧ e = .returned (.tuple #[.string (mk r), .string ⟨#[]⟩, .bool false])) ∨
  (∃ x y : Bs, r = x ++ b :: y ∧ b ∉ x ∧ cutAt b r = x ∧ e = .returned (.tuple #[.string (mk x), .string (mk y), .bool true]))

set_option maxHeartbeats 1000000 in
theorem slCut_c (s : ByteArray) (b : UInt8) (w : World) (hs : s.size < 4611686018427387904) :
    Calls Try.prog 45 #[.string s, .string ⟨#[b]⟩] w fun e w' => (∃ n, w' = w.drewN n) ∧
      ((Lib.indexByte s.data.toList b = -1 ∧ e = .returned (.tuple #[.string s, .string ⟨#[]⟩, .bool false])) ∨
       (∃ o : Nat, Lib.indexByte s.data.toList b = (o : Int) ∧ e = .returned (.tuple #[.string (s.extract 0 o), .string (s.extract (o + 1) s.size), .bool true]))) := by
  have hge := Lib.indexByte_ge s.data.toList b
  have hlt : ∀ o : Nat, Lib.indexByte s.data.toList b = (o : Int) → o < s.size := fun o h => by rw [Lib.size_eq]; exact (index_some h).1
  have hz1 : (⟨#[b]⟩ : ByteArray).size = 1 := rfl
  go_enter Try.func45, Try.ntmps45
  go_wp2_with fail
  refine (shstringsliteIndexone s b w).mono ?_
  rintro e w1 ⟨rfl, rfl⟩
  obtain ⟨H, hH⟩ : ∃ H, Lib.indexByte s.data.toList b = H := ⟨_, rfl⟩
  rw [hH] at hge hlt ⊢
  by_cases hn : H = -1
  · subst hn
    go_wp2
    go_ret3
    exact ⟨⟨0, rfl⟩, .inl ⟨hH, rfl⟩⟩
  · obtain ⟨o, rfl⟩ : ∃ o : Nat, H = (o : Int) := ⟨H.toNat, by omega⟩
    have ho := hlt o rfl
    go_wp2
    go_quiet (fail)
    go_wp2
    go_ret3
    exact ⟨⟨_, rfl⟩, .inr ⟨o, hH, rfl⟩⟩

set_option maxHeartbeats 1000000 in
/-- strings.Cut at a byte -/
theorem cut_c (r : Bs) (b : UInt8) (w : World) (hs : r.length ≤ 1000000) :
    Calls Try.prog 35 #[.string (mk r), .string ⟨#[b]⟩] w fun e w' => (∃ n, w' = w.drewN n) ∧ Cut r b e := by
  go_enter Try.func35, Try.ntmps35
  go_wp2_with fail
  refine (slCut_c (mk r) b w (by rw [mk_size]; omega)).mono ?_
  rintro e w1 ⟨⟨n, rfl⟩, ⟨hH, rfl⟩ | ⟨o, hH, rfl⟩⟩
  · go_wp2
    go_ret3
    exact ⟨⟨_, rfl⟩, .inl ⟨index_none hH, rfl⟩⟩
  · go_wp2
    go_ret3
    rw [mk_bytes] at hH
    obtain ⟨ho, hc, hl, hn⟩ := index_some hH
    refine ⟨⟨_, rfl⟩, .inr ⟨r.take o, r.drop (o + 1), hl, hn, hc, ?_⟩⟩
    have e1 : (r.drop 0).take (o - 0) = r.take o := by simp
    have e2 : (r.drop (o + 1)).take (r.length - (o + 1)) = r.drop (o + 1) := List.take_of_length_le (by rw [List.length_drop]; omega)
    rw [mk_extract, mk_extract, mk_size, e1, e2]
    rfl
end Go.Proofs.Ytbohnjiachnadaa.Sc
