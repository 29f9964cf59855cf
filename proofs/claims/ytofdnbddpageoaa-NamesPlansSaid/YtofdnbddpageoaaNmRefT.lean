/-
  THE DOCUMENT's BOOK TAKES ANY RECORD; what the program's book does is the same.
-/
import Derived.Test.YtofdnbddpageoaaNmRefOW
namespace Go.Proofs.Ytofdnbddpageoaa.Nm
open Go.RowKit Go.Maps

set_option maxRecDepth 100000 in
set_option maxHeartbeats 8000000 in
theorem refTake_c {S : Nat → Prop} {w : World} {p : Nat} {N : List ByteArray} {L : List Dp} {vN vL : Value} {G : List Gd} {a : Option Addr} {n c : Nat} {l : List Nat} (h : Rb S w p N L vN vL G) (hSw : ∀ k, S k → k < w.heap.size) (hrow : Pk.Row w a l) (hn : Hid (n = l.length)) (hc : n ≤ c) (hl : l.length ≤ 300000) (hb : ∀ x ∈ l, x < 256) (hN : N.length ≤ 100000) (hL : L.length < 900000) :
    Calls Try.prog 11 #[.pointer (some ⟨p, 0, Option.none⟩), .slice a n c] w (RtQ S w p N L (refT N L l)) := by
  cases l with
  | nil =>
    obtain rfl : n = 0 := hn.out
    have H := Lib.hid h
    clear h hrow hSw hb hl hn
    go_enter Try.func11, Try.ntmps11
    go_wp2_with fail
    go_ret
    exact rt_none H.out (Below.refl _ _) rfl
  | cons k t =>
    by_cases e1 : k = 1
    · subst e1
      exact refName_c h hSw hrow hn hc (by omega) (fun x hx => hb x (by simp [hx])) hN
    by_cases e2 : k = 2
    · subst e2
      exact refOut_c h hSw hrow hn hc hl (fun x hx => hb x (by simp [hx])) hN hL
    obtain ⟨b, off, rfl, hbl, hcell, -⟩ := row_tail hrow
    obtain ⟨m, rfl⟩ : ∃ m, n = m + 1 := ⟨t.length, hn.out⟩
    have HR : Hid (refT N L (k :: t) = Option.none) := Lib.hid (by simp [refT, e1, e2])
    have H := Lib.hid h
    have z1 : (0 : Int) < (m : Int) + 1 := by omega
    have z2 : ¬ ((m : Int) + 1 = 0) := by omega
    have t1 : (((k : Nat) : Int) != 1) = true := by rw [bne_iff_ne]; omega
    have t2 : (((k : Nat) : Int) != 2) = true := by rw [bne_iff_ne]; omega
    have t3 : ¬ (((k : Nat) : Int) = 1) := by omega
    have t4 : ¬ (((k : Nat) : Int) = 2) := by omega
    clear h hrow hSw hb hl hn
    go_enter Try.func11, Try.ntmps11
    go_wp2_with fail
    go_ret
    exact rt_none H.out (Below.refl _ _) HR.out

/-- the two books, side by side: after a record -/
theorem both_take {B : Bo} (hB : OkB B) (hn : B.N.Nodup) (l : List Nat) :
    (refT B.N (allL B) l = (takeB B l).map fun B' => (B'.N, allL B')) ∧ ∀ B', takeB B l = some B' → OkB B' ∧ B'.N.Nodup := by
  cases l with
  | nil => exact ⟨rfl, fun B' h => by cases h⟩
  | cons k t =>
    by_cases e1 : k = 1
    · subst e1
      have e : takeB B (1 :: t) = takeN B t := takeB_1 B t
      have e0 : takeN ⟨B.N, []⟩ t = (takeN B t).map fun B' => ⟨B'.N, [Option.none]⟩ := by
        unfold takeN
        split <;> rfl
      rw [e]
      have e3 : refT B.N (allL B) (1 :: t) = (takeN ⟨B.N, []⟩ t).map (fun B' => (B'.N, allL B)) := by simp [refT]
      rw [e3, e0]
      cases hT : takeN B t with
      | none => exact ⟨rfl, fun B' h => by cases h⟩
      | some B' =>
        obtain ⟨h1, h2, h3, h4⟩ := takeN_all hB hn hT
        refine ⟨?_, fun B'' h => by cases h; exact ⟨h3, h4⟩⟩
        show some (B'.N, allL B) = some (B'.N, allL B')
        rw [h2]
    by_cases e2 : k = 2
    · subst e2
      rw [takeB_2, refT_2]
      have e0 : fitsO ⟨B.N, []⟩ t = fitsO B t := rfl
      rw [e0]
      cases hT : takeO B t with
      | none =>
        have : ¬ fitsO B t = true := fun h => by unfold takeO at hT; rw [if_pos h] at hT; cases hT
        rw [if_neg this]
        exact ⟨rfl, fun B' h => by cases h⟩
      | some B' =>
        have : fitsO B t = true := by
          unfold takeO at hT
          split at hT
          · assumption
          · cases hT
        rw [if_pos this]
        obtain ⟨h1, h2, h3, h4⟩ := takeO_all hB hn hT
        refine ⟨?_, fun B'' h => by cases h; exact ⟨h3, h4⟩⟩
        show some _ = some (B'.N, allL B')
        rw [h1, h2]
    · have h1 : takeB B (k :: t) = Option.none := by simp [takeB, e1, e2]
      have h2 : refT B.N (allL B) (k :: t) = Option.none := by simp [refT, e1, e2]
      rw [h1, h2]
      exact ⟨rfl, fun B' h => by cases h⟩
end Go.Proofs.Ytofdnbddpageoaa.Nm
