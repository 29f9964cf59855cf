/-
  Right, Dir, Base, Join.
-/
import Derived.Test.YteakcmnjmcbkhaaNames
namespace Go.Proofs.Yteakcmnjmcbkhaa
open Go.RowKit

theorem cleanL_len (s : Bs) : (cleanL s).1.length ≤ 100 := by
  rcases cleanL_cases s with ⟨e, h, _⟩ | ⟨_, _, _, _, h4, h⟩
  · rw [h]; simp
  · rw [h]; exact h4

theorem cmpS (a b : Bs) : ((mk a).toList == (mk b).toList) = decide (a = b) := by
  rw [mk_toList, mk_toList]
  exact Bool.eq_iff_iff.2 (by simp)

set_option maxHeartbeats 1000000 in
theorem right_c (s : Bs) (hs : s.length ≤ 9223372036854775807) (w : World) :
    Calls Try.prog 10 #[.string (mk s)] w fun e w' => e = .returned (.bool (rightL s)) ∧ Below w.heap.size w w' := by
  have hcl := clean_c s hs w
  have hr : rightL s = (decide ((cleanL s).2 = 0) && decide ((cleanL s).1 = s)) := rfl
  have hlen := cleanL_len s
  obtain ⟨⟨c, e⟩, hC⟩ : ∃ C, cleanL s = C := ⟨_, rfl⟩
  rw [hC] at hcl hr hlen
  have HR := Lib.hid hr
  clear hr hC
  go_enter Try.func10, Try.ntmps10
  go_wp2_with fail
  refine hcl.mono ?_
  rintro e w1 ⟨rfl, hb⟩
  go_wp2
  all_goals go_ret
  all_goals refine ⟨?_, hb⟩
  all_goals rw [HR.out]
  · rename_i h
    rw [cmpS, decide_eq_true h, Bool.true_and]
    rfl
  · rename_i h
    rw [decide_eq_false h, Bool.false_and]
    rfl

/-- the place of the last slash; -1: none -/
def lastS (s : Bs) : Int := Lib.lastIndexByte (mk s) 47
def dirL (s : Bs) : Bs := s.take (lastS s).toNat
def baseL (s : Bs) : Bs := s.drop (lastS s + 1).toNat

theorem byte_bang (s : Bs) {j : Nat} (h : j < s.length) : (mk s).data[j]! = s[j] := by
  unfold mk
  simp [h]

theorem last_spec (s : Bs) : (lastS s = -1 ∧ ∀ b ∈ s, b ≠ 47) ∨ (∃ a b, s = a ++ 47 :: b ∧ (∀ x ∈ b, x ≠ 47) ∧ lastS s = (a.length : Int)) := by
  rcases Lib.lastIndexByte_spec (mk s) 47 with ⟨h, hn⟩ | ⟨i, hi, h, hc, hn⟩
  · refine .inl ⟨h, fun b hb e => ?_⟩
    obtain ⟨j, hj, rfl⟩ := List.mem_iff_getElem.1 hb
    have := hn j (by rw [mk_size]; exact hj)
    rw [byte_bang s hj, e] at this
    exact this rfl
  · rw [mk_size] at hi
    rw [byte_bang s hi] at hc
    have e47 : s[i] = 47 := by
      have h1 : s[i].toNat = 47 := by omega
      exact UInt8.toNat_inj.1 (by rw [h1]; rfl)
    refine .inr ⟨s.take i, s.drop (i + 1), ?_, fun x hx => ?_, ?_⟩
    · rw [← e47]; simp
    · intro e
      obtain ⟨j, hj, rfl⟩ := List.mem_iff_getElem.1 hx
      rw [List.length_drop] at hj
      have hj2 : i + 1 + j < s.length := by omega
      have := hn (i + 1 + j) (by omega) (by rw [mk_size]; exact hj2)
      rw [List.getElem_drop] at e
      rw [byte_bang s hj2, e] at this
      exact this rfl
    · show Lib.lastIndexByte (mk s) 47 = _
      rw [h, List.length_take]
      omega

theorem last_bounds (s : Bs) : -1 ≤ lastS s ∧ lastS s < s.length := by
  rcases last_spec s with ⟨h, _⟩ | ⟨a, b, rfl, _, h⟩
  · rw [h]; omega
  · rw [h]; simp; omega

set_option maxHeartbeats 1000000 in
theorem dir_c (s : Bs) (hs : s.length ≤ 1000000) (w : World) :
    Calls Try.prog 14 #[.string (mk s)] w fun e w' => e = .returned (.string (mk (dirL s))) ∧ Below w.heap.size w w' := by
  obtain ⟨hlo, hhi⟩ := last_bounds s
  have hcall := shstringsLastIndexByte (mk s) 47 (by rw [mk_size]; omega) w
  have hd : dirL s = s.take (lastS s).toNat := rfl
  have hz := mk_size s
  rw [show Lib.lastIndexByte (mk s) 47 = lastS s from rfl] at hcall
  generalize lastS s = at0 at *
  obtain ⟨D, hD⟩ : ∃ D, dirL s = D := ⟨_, rfl⟩
  rw [hD] at hd ⊢
  have HD := Lib.hid hd
  clear hd hD
  by_cases hn : at0 = -1
  · subst hn
    go_enter Try.func14, Try.ntmps14
    go_wp2_with (go_at_call 22; refine hcall.mono ?_; rintro e w1 ⟨rfl, rfl⟩)
    have he : (mk s).extract 0 (max 0 (-1 : Int)).toNat = mk D := by rw [HD.out, mk_extract]; rfl
    rw [he]
    refine (clone_c (mk D) w1 (by rw [mk_size, HD.out]; simp)).mono ?_
    rintro e w2 ⟨rfl, hb⟩
    go_wp2
    go_ret
    exact ⟨rfl, hb⟩
  · obtain ⟨o, rfl⟩ : ∃ o : Nat, at0 = (o : Int) := ⟨at0.toNat, by omega⟩
    go_enter Try.func14, Try.ntmps14
    go_wp2_with (go_at_call 22; refine hcall.mono ?_; rintro e w1 ⟨rfl, rfl⟩)
    have he : (mk s).extract 0 o = mk D := by rw [HD.out, mk_extract]; simp
    rw [he]
    refine (clone_c (mk D) w1 (by rw [mk_size, HD.out, List.length_take]; omega)).mono ?_
    rintro e w2 ⟨rfl, hb⟩
    go_wp2
    go_ret
    exact ⟨rfl, hb⟩

set_option maxHeartbeats 1000000 in
theorem base_c (s : Bs) (hs : s.length ≤ 1000000) (w : World) :
    Calls Try.prog 15 #[.string (mk s)] w fun e w' => e = .returned (.string (mk (baseL s))) ∧ Below w.heap.size w w' := by
  obtain ⟨hlo, hhi⟩ := last_bounds s
  have hcall := shstringsLastIndexByte (mk s) 47 (by rw [mk_size]; omega) w
  have hd : baseL s = s.drop (lastS s + 1).toNat := rfl
  have hz := mk_size s
  rw [show Lib.lastIndexByte (mk s) 47 = lastS s from rfl] at hcall
  obtain ⟨o, ho, hol⟩ : ∃ o : Nat, lastS s + 1 = (o : Int) ∧ o ≤ s.length := ⟨(lastS s + 1).toNat, by omega, by omega⟩
  rw [ho] at hd
  have ha : lastS s = (o : Int) - 1 := by omega
  rw [ha] at hcall
  have hsum : (o : Int) - 1 + 1 = (o : Int) := by omega
  obtain ⟨D, hD⟩ : ∃ D, baseL s = D := ⟨_, rfl⟩
  rw [hD] at hd ⊢
  have HD := Lib.hid hd
  have hol2 : (o : Int) ≤ ((mk s).size : Int) := by rw [hz]; omega
  clear hd hD ha ho hlo hhi
  go_enter Try.func15, Try.ntmps15
  go_wp2_with (go_at_call 22; refine hcall.mono ?_; rintro e w1 ⟨rfl, rfl⟩)
  have he : (mk s).extract o s.length = mk D := by
    rw [HD.out, mk_extract]
    congr 1
    exact List.take_of_length_le (by rw [List.length_drop]; omega)
  rw [he]
  refine (clone_c (mk D) w1 (by rw [mk_size, HD.out, List.length_drop]; omega)).mono ?_
  rintro e w2 ⟨rfl, hb⟩
  go_wp2
  go_ret
  exact ⟨rfl, hb⟩

def wholeL (d s : Bs) : Bs := if d = [] then s else d ++ 47 :: s

set_option maxHeartbeats 1000000 in
/-- path.Join -/
theorem join_c (d s : Bs) (hd : d.length ≤ 1000000) (hs : s.length ≤ 1000000) (w : World) :
    Calls Try.prog 13 #[.string (mk d), .string (mk s)] w fun e w' => e = .returned (.tuple #[.string (mk (cleanL (wholeL d s)).1), .int .i64 (cleanL (wholeL d s)).2]) ∧ Below w.heap.size w w' := by
  have hcl := clean_c (wholeL d s) (by unfold wholeL; split; omega; simp; omega) w
  by_cases h0 : d = []
  · have hw : wholeL d s = s := if_pos h0
    rw [hw] at hcl ⊢
    have e0 : (mk d).toList.isEmpty = true := by rw [mk_toList, h0]; rfl
    clear h0 hw
    go_enter Try.func13, Try.ntmps13
    go_wp2_with (go_at_call 8; refine hcl.mono ?_; rintro e w1 ⟨rfl, hb⟩)
    go_ret2
    exact ⟨rfl, hb⟩
  · have hw : wholeL d s = d ++ 47 :: s := if_neg h0
    have hd1 : mk d ++ ⟨#[47]⟩ = mk (d ++ [47]) := mk_append d [47]
    have hd2 : mk (d ++ [47]) ++ mk s = mk (wholeL d s) := by rw [hw, mk_append]; simp
    have e0 : (mk d).toList.isEmpty = false := by rw [mk_toList]; cases d with | nil => exact absurd rfl h0 | cons a r => rfl
    have z1 := mk_size d
    have z2 := mk_size (d ++ [47])
    have z3 := mk_size s
    clear h0 hw
    go_enter Try.func13, Try.ntmps13
    go_wp2_with (go_at_call 8; refine hcl.mono ?_; rintro e w1 ⟨rfl, hb⟩)
    go_ret2
    exact ⟨rfl, hb⟩
end Go.Proofs.Yteakcmnjmcbkhaa
