/-
  SIGNS; TWO ROWS OF WORDS THAT ARE ALIKE; what the chapter's example says.
-/
import Derived.Test.YtbohnjiachnadaaDoorLxW2
namespace Go.Proofs.YtbohnjiachnadaaDoor.Lx
open Go.RowKit

set_option maxHeartbeats 1000000 in
theorem sign_c (s : Bs) (w : World) : Calls Tryd.prog 16 #[.string (mk s)] w fun e w' => e = .returned (.bool (isSign s)) ∧ w = w' := by
  have h1 : ((mk s).toList == [58]) = decide (s = [58]) := by rw [← cmpS s [58], mk_toList [58]]
  have h2 : ((mk s).toList == [124]) = decide (s = [124]) := by rw [← cmpS s [124], mk_toList [124]]
  have h3 : ((mk s).toList == [124, 124]) = decide (s = [124, 124]) := by rw [← cmpS s [124, 124], mk_toList [124, 124]]
  have hs : isSign s = (decide (s = [58]) || decide (s = [124]) || decide (s = [124, 124])) := by
    unfold isSign
    exact Bool.eq_iff_iff.2 (by simp [or_assoc])
  rw [hs]
  clear hs
  generalize decide (s = [58]) = b1 at *
  generalize decide (s = [124]) = b2 at *
  generalize decide (s = [124, 124]) = b3 at *
  cases b1 <;> cases b2 <;> cases b3 <;>
  · go_enter Tryd.func16, Tryd.ntmps16
    go_wp2
    go_ret
    exact ⟨rfl, rfl⟩

set_option maxRecDepth 100000 in
set_option maxHeartbeats 2000000 in
theorem same_c {w : World} {va vb : Value} {A : List Bs} (ha : Strs w va A) (hb : Strs w vb A) (hl : A.length ≤ 1000000) :
    Calls Tryd.prog 8 #[va, vb] w fun e w' => e = .returned (.bool true) ∧ ∃ n, w' = w.drewN n := by
  obtain ⟨a, ca, rfl, hac, ha⟩ := ha
  obtain ⟨b, cb, rfl, hbc, hb⟩ := hb
  obtain ⟨n, hn⟩ : ∃ n, A.length = n := ⟨_, rfl⟩
  rw [hn] at hac hbc hl ⊢
  have HN := Lib.hid hn
  have HA := Lib.hid ha
  have HB := Lib.hid hb
  clear ha hb hn
  go_enter Tryd.func8, Tryd.ntmps8
  go_wp2_with fail
  go_loopw [5] (fun i W' => ∃ j k : Nat, i = .int .i64 j ∧ j ≤ n ∧ w.drewN k = W') (fun i _ => n - (intOf i).toNat)
  case atStart => exact ⟨0, 0, rfl, Nat.zero_le _, rfl⟩
  case round =>
    obtain ⟨j, k, rfl, hj, rfl⟩ := hrel
    by_cases hlt : j < n
    · obtain ⟨p, hp⟩ : ∃ p, A[j]? = some p := ⟨_, List.getElem?_eq_getElem (by rw [HN.out]; exact hlt)⟩
      have hne : A ≠ [] := by rintro rfl; cases hp
      obtain ⟨g, off, rfl, _, hcg⟩ := HA.out.resolve_left hne
      obtain ⟨g2, off2, rfl, _, hcg2⟩ := HB.out.resolve_left hne
      have c1 := hcg j p hp
      have c2 := hcg2 j p hp
      have c1' : ∀ q, (w.drewN q).cell? ⟨g, off + j, none⟩ = some (.string (mk p)) := fun q => by rw [← c1]; exact World.cell?_drewN ..
      have c2' : ∀ q, (w.drewN q).cell? ⟨g2, off2 + j, none⟩ = some (.string (mk p)) := fun q => by rw [← c2]; exact World.cell?_drewN ..
      clear hcg hcg2 hne hp c1 c2 HA HB
      go_wp2_with fail
      go_quiet (fail)
      go_wp2
      go_roundw
      case rel => exact ⟨j + 1, _, by go_num, by omega, rfl⟩
      case measure => simp [intOf]; omega
    · have hli : ¬ (j : Int) < (n : Int) := by omega
      go_wp2_with fail
      go_ret
      exact ⟨rfl, k, rfl⟩

theorem below_drewN {B : Nat} {a w : World} (h : Below B a w) (n : Nat) : Below B a (w.drewN n) := ⟨h.os, h.tape, h.output, h.size, h.block⟩

theorem Strs.drewN {w : World} {v : Value} {K : List Bs} (h : Strs w v K) (n : Nat) : Strs (w.drewN n) v K := h

/-- a row of constants -/
theorem strs_new (w : World) (K : List Bs) (hK : K ≠ []) (c : Nat) (hc : K.length ≤ c) : Strs (w.alloc (.cells (strV K).toArray 9)) (.slice (some ⟨w.heap.size, 0, none⟩) K.length c) K := by
  refine ⟨_, c, rfl, hc, .inr ⟨w.heap.size, 0, rfl, by simp, fun j p hp => ?_⟩⟩
  have := World.news_of_block (w := w.alloc (.cells (strV K).toArray 9)) (cs := (strV K).toArray) (t := 9) (fr := (0, 0)) (heap_alloc_new w _) j (.string (mk p)) (by simp [strV, hp])
  rw [Go.WideShapes.add_plain] at this
  exact this

def exText : Bs := [97, 58, 98, 32, 124, 124, 32, 99, 36, 32, 100]
def exWords : List Bs := [[97], [58], [98], [124, 124], [99, 36, 32, 100]]
theorem ex_words : words exText = exWords := by decide

set_option maxRecDepth 100000 in
set_option maxHeartbeats 2000000 in
theorem awake_c (w : World) : Calls Tryd.prog 7 #[] w fun e w' => e = .returned (.bool true) ∧ Below w.heap.size w w' := by
  have hw := words_c exText (by decide) w
  rw [ex_words] at hw
  have hs1 := sign_c [124, 124]
  have hs2 := sign_c [124, 124, 124]
  rw [show isSign [124, 124] = true from by decide] at hs1
  rw [show isSign [124, 124, 124] = false from by decide] at hs2
  have hst := fun w1 => strs_new w1 exWords (by decide) 5 (by decide)
  go_enter Tryd.func7, Tryd.ntmps7
  go_wp2_with fail
  refine hw.mono ?_
  rintro e w1 ⟨v, rfl, hv, hb⟩
  have hsm := same_c (hv.below (below_alloc w1 (.cells (strV exWords).toArray 9))) (hst w1) (by decide)
  have HB := Lib.hid (hb.alloc hb.size (.cells (strV exWords).toArray 9))
  clear hv hb
  go_wp2_with fail
  refine hsm.mono ?_
  rintro e w2 ⟨rfl, n, rfl⟩
  go_wp2_with fail
  refine (hs1 _).mono ?_
  rintro e w3 ⟨rfl, rfl⟩
  go_wp2_with fail
  refine (hs2 _).mono ?_
  rintro e w3 ⟨rfl, rfl⟩
  go_wp2_with fail
  go_ret
  exact ⟨rfl, (below_drewN HB.out n)⟩
end Go.Proofs.YtbohnjiachnadaaDoor.Lx
