/-
  ESCAPED TEXTS (the program's and the document's); names by the document; what the chapter's example says.
-/
import Derived.Test.YtbohnjiachnadaaScExp2
namespace Go.Proofs.Ytbohnjiachnadaa.Sc
open Go.RowKit Go.Maps

theorem esc_take {s : Bs} {j : Nat} {c : UInt8} (h : s[j]? = some c) : esc (s.take (j + 1)) = esc (s.take j) ++ (if escB c = true then [36, c] else [c]) := by
  rw [List.take_add_one, h]
  exact esc_snoc _ _

set_option maxRecDepth 100000 in
set_option maxHeartbeats 4000000 in
theorem escape_c (s : Bs) (hs : s.length ≤ 400000) (w : World) : Calls Try.prog 24 #[.string (mk s)] w fun e w' => e = .returned (.string (mk (esc s))) ∧ Below w.heap.size w w' := by
  have hz := mk_size s
  have HB0 := Lib.hid (bld_new w)
  go_enter Try.func24, Try.ntmps24
  go_wp2
  go_loopw [4, 7] (fun _ i W' => ∃ j : Nat, i = .int .i64 j ∧ j ≤ s.length ∧ Hid (Bld w.heap.size w.heap.size (esc (s.take j)) W') ∧ Hid (Below w.heap.size w W')) (fun _ i _ => s.length - (intOf i).toNat)
  case atStart => exact ⟨0, rfl, Nat.zero_le _, HB0, Lib.hid (below_alloc _ _)⟩
  case round =>
    clear HB0
    obtain ⟨j, rfl, hj, HBL, HB⟩ := hrel
    by_cases hlt : j < s.length
    · have hjs : j < (mk s).size := by rw [hz]; exact hlt
      have hb := get_mk s hjs
      obtain ⟨c, hc⟩ : ∃ c, (mk s)[j] = c := ⟨_, rfl⟩
      have hcN : ((mk s)[j].toNat : Int) = (c.toNat : Int) := by rw [hc]
      rw [hc] at hb
      have ho := fun W => isOf_c [36, 32, 58, 124] c W
      rw [ofB_esc] at ho
      have hnext := esc_take hb
      have hl := esc_len (s.take j)
      have hlj : (s.take j).length ≤ 400000 := by rw [List.length_take]; omega
      have hji : (j : Int) < (s.length : Int) := by omega
      cases he : escB c with
      | true =>
        rw [he] at ho hnext
        have HN := Lib.hid hnext
        have hw1 := writeB_c (x := 36) HBL.out (by omega) HB.out.size
        clear hc hb hnext he
        go_wp2_with fail
        refine (ho _).mono ?_
        rintro e w1 ⟨rfl, rfl⟩
        go_wp2_with fail
        refine hw1.mono ?_
        rintro e w2 ⟨⟨z, rfl⟩, hb1, hbe1, _⟩
        have hw2 := writeB_c (x := c) hb1 (by rw [List.length_append]; simp; omega) (Nat.le_trans HB.out.size hbe1.size)
        have HB2 := Lib.hid (HB.out.trans hbe1)
        clear hb1 hbe1 hw1
        go_wp2_with fail
        refine hw2.mono ?_
        rintro e w3 ⟨⟨z, rfl⟩, hb3, hbe3, _⟩
        have HB3 := Lib.hid (HB2.out.trans hbe3)
        have HBL3 := Lib.hid (show Bld w.heap.size w.heap.size (esc (s.take (j + 1))) w3 by
          rw [HN.out, if_pos trivial]
          rw [List.append_assoc] at hb3
          exact hb3)
        clear hb3 hbe3
        go_wp2_with fail
        go_roundw
        case rel => exact ⟨j + 1, by go_num, by omega, HBL3, HB3⟩
        case measure => simp [intOf]; omega
      | false =>
        rw [he] at ho hnext
        have HN := Lib.hid hnext
        have hw2 := writeB_c (x := c) HBL.out (by omega) HB.out.size
        clear hc hb hnext he
        go_wp2_with fail
        refine (ho _).mono ?_
        rintro e w1 ⟨rfl, rfl⟩
        go_wp2_with fail
        refine hw2.mono ?_
        rintro e w3 ⟨⟨z, rfl⟩, hb3, hbe3, _⟩
        have HB3 := Lib.hid (HB.out.trans hbe3)
        have HBL3 := Lib.hid (show Bld w.heap.size w.heap.size (esc (s.take (j + 1))) w3 by
          rw [HN.out]
          exact hb3)
        clear hb3 hbe3
        go_wp2_with fail
        go_roundw
        case rel => exact ⟨j + 1, by go_num, by omega, HBL3, HB3⟩
        case measure => simp [intOf]; omega
    · have hji : ¬ (j : Int) < (s.length : Int) := by omega
      have hall : s.take j = s := List.take_of_length_le (by omega)
      have hst := string_c HBL.out HB.out.size
      rw [hall] at hst
      clear hall
      go_wp2_with fail
      refine hst.mono ?_
      rintro e w1 ⟨rfl, hb1⟩
      go_wp2_with fail
      go_ret
      exact ⟨rfl, HB.out.trans hb1⟩

theorem escB_eqs (c : UInt8) : ∃ b1 b2 b3 b4 : Bool, ((c.toNat : Int) == 36) = b1 ∧ ((c.toNat : Int) == 32) = b2 ∧ ((c.toNat : Int) == 58) = b3 ∧ ((c.toNat : Int) == 124) = b4 ∧ escB c = (b1 || b2 || b3 || b4) := by
  refine ⟨_, _, _, _, rfl, rfl, rfl, rfl, ?_⟩
  have key : ∀ n : Nat, n < 256 → escB (UInt8.ofNat n) = (((n : Int) == 36) || ((n : Int) == 32) || ((n : Int) == 58) || ((n : Int) == 124)) := by decide +kernel
  have := key c.toNat c.toNat_lt
  simpa using this

theorem one_of (s : Bs) {j : Nat} {c : UInt8} (h : s[j]? = some c) : (mk s).extract j (j + 1) = mk [c] := by
  rw [mk_extract]
  congr 1
  obtain ⟨hj, e⟩ := List.getElem?_eq_some_iff.1 h
  rw [List.drop_eq_getElem_cons hj, e, Nat.add_sub_cancel_left]
  rfl

set_option maxRecDepth 100000 in
set_option maxHeartbeats 4000000 in
theorem refEscape_c (s : Bs) (hs : s.length ≤ 400000) (w : World) : Calls Try.prog 25 #[.string (mk s)] w fun e w' => e = .returned (.string (mk (esc s))) ∧ w = w' := by
  have hz := mk_size s
  go_enter Try.func25, Try.ntmps25
  go_wp2
  go_loopw [3, 4] (fun x i W' => ∃ j : Nat, i = .int .i64 j ∧ j ≤ s.length ∧ x = .string (mk (esc (s.take j))) ∧ w = W') (fun _ i _ => s.length - (intOf i).toNat)
  case atStart => exact ⟨0, rfl, Nat.zero_le _, rfl, rfl⟩
  case round =>
    obtain ⟨j, rfl, hj, rfl, rfl⟩ := hrel
    by_cases hlt : j < s.length
    · have hjs : j < (mk s).size := by rw [hz]; exact hlt
      have hb := get_mk s hjs
      obtain ⟨c, hc⟩ : ∃ c, (mk s)[j] = c := ⟨_, rfl⟩
      have hcN : ((mk s)[j].toNat : Int) = (c.toNat : Int) := by rw [hc]
      rw [hc] at hb
      have hex := one_of s hb
      have hnext := esc_take hb
      have hl := esc_len (s.take j)
      have hlj : (s.take j).length ≤ 400000 := by rw [List.length_take]; omega
      have hji : (j : Int) < (s.length : Int) := by omega
      obtain ⟨E, hE⟩ : ∃ E, esc (s.take j) = E := ⟨_, rfl⟩
      rw [hE] at hnext hl ⊢
      have hzE := mk_size E
      have hEl : E.length ≤ 800000 := by omega
      have hj1 : (j : Int) ≤ (j : Int) + 1 := by omega
      have hj2 : (j : Int) + 1 ≤ ((mk s).size : Int) := by rw [hz]; omega
      have hj3 : (j : Int) + 1 ≤ (s.length : Int) := by omega
      have hc1 : (mk [c]).size = 1 := mk_size [c]
      obtain ⟨b1, b2, b3, b4, e1, e2, e3, e4, he⟩ := escB_eqs c
      rw [he] at hnext
      have hcat1 : mk E ++ ⟨#[36]⟩ = mk (E ++ [36]) := mk_append E [36]
      have hzE1 : (mk (E ++ [36])).size = E.length + 1 := by rw [mk_size, List.length_append]; rfl
      have hcat2 : mk (E ++ [36]) ++ mk [c] = mk (E ++ [36, c]) := by rw [mk_append, List.append_assoc]; rfl
      have hcat3 : mk E ++ mk [c] = mk (E ++ [c]) := mk_append E [c]
      have HN := Lib.hid hnext
      clear hc hb hnext he hE hl
      cases b1 <;> cases b2 <;> cases b3 <;> cases b4 <;>
      · go_wp2
        go_roundw
        case rel => exact ⟨j + 1, by go_num, by omega, by rw [HN.out]; rfl, trivial⟩
        case measure => simp [intOf]; omega
    · have hji : ¬ (j : Int) < (s.length : Int) := by omega
      have hall : s.take j = s := List.take_of_length_le (by omega)
      rw [hall]
      clear hall
      go_wp2_with fail
      go_ret
      exact ⟨rfl, rfl⟩

theorem short_eqs (c : UInt8) : ∃ b : Bool, shortB c = b ∧ longB c = (b || ((c.toNat : Int) == 46)) := by
  refine ⟨_, rfl, ?_⟩
  unfold longB
  have key : ∀ n : Nat, n < 256 → ((UInt8.ofNat n) == 46) = ((n : Int) == 46) := by decide +kernel
  have := key c.toNat c.toNat_lt
  rw [show (c == 46) = ((c.toNat : Int) == 46) by simpa using this]

set_option maxHeartbeats 1000000 in
theorem short_c (c : UInt8) (w : World) : Calls Try.prog 38 #[.int .u8 (c.toNat : Int)] w fun e w' => e = .returned (.bool (shortB c)) ∧ w = w' := by
  have hd : shortB c = ((decide (97 ≤ c.toNat) && decide (c.toNat ≤ 122)) || (decide (65 ≤ c.toNat) && decide (c.toNat ≤ 90)) || (decide (48 ≤ c.toNat) && decide (c.toNat ≤ 57)) || ((c.toNat : Int) == 95) || ((c.toNat : Int) == 45)) := by
    have key : ∀ n : Nat, n < 256 → shortB (UInt8.ofNat n) = ((decide (97 ≤ n) && decide (n ≤ 122)) || (decide (65 ≤ n) && decide (n ≤ 90)) || (decide (48 ≤ n) && decide (n ≤ 57)) || ((n : Int) == 95) || ((n : Int) == 45)) := by decide +kernel
    have := key c.toNat c.toNat_lt
    simpa using this
  rw [hd]
  have h1 : decide ((97 : Int) ≤ (c.toNat : Int)) = decide (97 ≤ c.toNat) := decide_eq_decide.2 (by omega)
  have h2 : decide ((c.toNat : Int) ≤ 122) = decide (c.toNat ≤ 122) := decide_eq_decide.2 (by omega)
  have h3 : decide ((65 : Int) ≤ (c.toNat : Int)) = decide (65 ≤ c.toNat) := decide_eq_decide.2 (by omega)
  have h4 : decide ((c.toNat : Int) ≤ 90) = decide (c.toNat ≤ 90) := decide_eq_decide.2 (by omega)
  have h5 : decide ((48 : Int) ≤ (c.toNat : Int)) = decide (48 ≤ c.toNat) := decide_eq_decide.2 (by omega)
  have h6 : decide ((c.toNat : Int) ≤ 57) = decide (c.toNat ≤ 57) := decide_eq_decide.2 (by omega)
  obtain ⟨b7, h7⟩ : ∃ b, ((c.toNat : Int) == 95) = b := ⟨_, rfl⟩
  obtain ⟨b8, h8⟩ : ∃ b, ((c.toNat : Int) == 45) = b := ⟨_, rfl⟩
  rw [h7, h8]
  clear hd
  generalize c.toNat = n at *
  generalize decide (97 ≤ n) = b1 at *
  generalize decide (n ≤ 122) = b2 at *
  generalize decide (65 ≤ n) = b3 at *
  generalize decide (n ≤ 90) = b4 at *
  generalize decide (48 ≤ n) = b5 at *
  generalize decide (n ≤ 57) = b6 at *
  go_enter Try.func38, Try.ntmps38
  cases b1 <;> cases b2 <;> cases b3 <;> cases b4 <;> cases b5 <;> cases b6 <;>
  · simp only [decide_eq_true_eq, decide_eq_false_iff_not] at h1 h2 h3 h4 h5 h6
    first
      | (exfalso; omega)
      | (cases b7 <;> cases b8 <;>
         · go_wp2
           go_ret
           exact ⟨rfl, rfl⟩)

set_option maxRecDepth 100000 in
set_option maxHeartbeats 4000000 in
theorem refName_c (s : Bs) (hs : s.length ≤ 1000000) (w : World) : Calls Try.prog 27 #[.string (mk s)] w fun e w' => e = .returned (.bool (nameB s)) ∧ w = w' := by
  have hz := mk_size s
  obtain ⟨R, hR⟩ : ∃ R, nameB s = R := ⟨_, rfl⟩
  have HR := Lib.hid hR
  rw [hR]
  clear hR
  go_enter Try.func27, Try.ntmps27
  go_wp2
  go_loopw [3] (fun i W' => ∃ j : Nat, i = .int .i64 j ∧ j ≤ s.length ∧ Hid ((s.take j).all longB = true) ∧ w = W') (fun i _ => s.length - (intOf i).toNat)
  case atStart => exact ⟨0, rfl, Nat.zero_le _, Lib.hid rfl, rfl⟩
  case round =>
    obtain ⟨j, rfl, hj, HA, rfl⟩ := hrel
    by_cases hlt : j < s.length
    · have hjs : j < (mk s).size := by rw [hz]; exact hlt
      have hb := get_mk s hjs
      obtain ⟨c, hc⟩ : ∃ c, (mk s)[j] = c := ⟨_, rfl⟩
      have hcN : ((mk s)[j].toNat : Int) = (c.toNat : Int) := by rw [hc]
      rw [hc] at hb
      have hsc := fun W => short_c c W
      obtain ⟨b, eb, el⟩ := short_eqs c
      obtain ⟨b2, eb2⟩ : ∃ b2, ((c.toNat : Int) == 46) = b2 := ⟨_, rfl⟩
      have eb3 : ((c.toNat : Int) != 46) = !b2 := by rw [bne, eb2]
      have hji : (j : Int) < (s.length : Int) := by omega
      simp only [eb] at hsc
      rw [eb2] at el
      have hnext := all_snoc HA.out hb
      have hno : longB c = false → R = false := fun h => by
        rw [← HR.out]
        unfold nameB
        have : s.all longB = false := by
          cases ha : s.all longB with
          | false => rfl
          | true =>
            rw [List.all_eq_true] at ha
            have := ha c (List.mem_of_getElem? hb)
            rw [h] at this
            cases this
        rw [this, Bool.and_false]
      clear hc hb eb
      cases b <;> cases b2
      · have e1 := hno el
        subst e1
        clear hnext hno el
        go_wp2_with (refine (hsc _).mono ?_; rintro e w1 ⟨rfl, rfl⟩)
        go_ret
        exact ⟨rfl, rfl⟩
      all_goals
        have HN := Lib.hid (hnext el)
        clear hnext hno el
        go_wp2_with (refine (hsc _).mono ?_; rintro e w1 ⟨rfl, rfl⟩)
        go_roundw
        case rel => exact ⟨j + 1, by go_num, by omega, HN, trivial⟩
        case measure => simp [intOf]; omega
    · have hji : ¬ (j : Int) < (s.length : Int) := by omega
      have hall : s.all longB = true := by
        have := HA.out
        rw [List.take_of_length_le (by omega)] at this
        exact this
      have e1 : R = decide (0 < s.length) := by
        rw [← HR.out]
        unfold nameB
        rw [hall, Bool.and_true]
        cases s <;> simp
      have HE := Lib.hid e1
      clear hall e1
      obtain ⟨n, hn⟩ : ∃ n, s.length = n := ⟨_, rfl⟩
      rw [hn] at hz hji HE
      clear hn
      go_wp2_with fail
      go_ret
      rw [HE.out]
      exact ⟨rfl, rfl⟩

def exText : Bs := [97, 36, 120, 36, 36, 36, 123, 120, 125, 98]
theorem ex_expand : expand (getL [upd (fun _ => none) [120] [49, 32, 50]]) exText = ([97, 49, 32, 50, 36, 49, 32, 50, 98], 0) := by decide +kernel

theorem getL_one_le {l t : Bs} {M : Nat} (h : t.length ≤ M) : ∀ x, (getL [upd (fun _ => none) l t] x).length ≤ M := by
  intro x
  unfold getL upd
  split <;> rename_i h1
  · split at h1
    · cases h1; exact h
    · cases h1
  · simp [getL]

set_option maxRecDepth 100000 in
set_option maxHeartbeats 4000000 in
theorem awake_c (w : World) : Calls Try.prog 23 #[] w fun e w' => e = .returned (.bool true) ∧ Below w.heap.size w w' := by
  have hnew := new_c none w
  rw [ptr_none] at hnew
  have hnode := node_new none w (fun q h => by cases h)
  rw [ptr_none] at hnode
  have hset := set_c hnode (by omega) [120] [49, 32, 50] (by decide) (by decide)
  clear hnode
  go_enter Try.func23, Try.ntmps23
  go_wp2_with fail
  refine hnew.mono ?_
  rintro e w1 ⟨rfl, rfl⟩
  go_wp2_with fail
  refine hset.mono ?_
  rintro e w2 ⟨rfl, mv, hq⟩
  have hbel : Below w.heap.size w w2 := (below_alloc _ _).trans (hq.off.below (by rintro k (rfl | h); exact Nat.le_refl _; cases h) (by simp))
  have hex := expand_c (.cons hq.node .nil) (fun x => getL_one_le (M := 900000) (by decide) x) exText (by decide)
  rw [ex_expand] at hex
  have HB := Lib.hid hbel
  clear hq hbel hset hnew
  go_wp2_with fail
  refine hex.mono ?_
  rintro e w3 ⟨rfl, hb3⟩
  have e1 : ((mk [97, 49, 32, 50, 36, 49, 32, 50, 98]).toList == [97, 49, 32, 50, 36, 49, 32, 50, 98]) = true := by rw [mk_toList]; rfl
  go_wp2_with fail
  go_ret
  exact ⟨rfl, HB.out.trans (hb3.mono HB.out.size)⟩
end Go.Proofs.Ytbohnjiachnadaa.Sc
