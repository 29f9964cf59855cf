/-
  All, WHERE NOTHING WAS FOUND.
-/
import Derived.Test.YtofdnbddpageoaaNmShelf
import Derived.Test.YtofdnbddpageoaaNmNames
namespace Go.Proofs.Ytofdnbddpageoaa.Nm
open Go.RowKit Go.Maps

theorem sort_none (w : World) (p : Option Addr) (c : Nat) (fv : Value) : Calls Try.prog 43 #[.slice p 0 c, fv] w fun e w' => e = .returned (.tuple #[]) ∧ w' = w :=
  AnyF.slices_SortFunc_none { shsortD with } p c fv w

set_option maxRecDepth 100000 in
set_option maxHeartbeats 2000000 in
theorem allN_c {b lo hi : Nat} {w : World} {p : Nat} {B : Bo} (h : Own b lo hi w p B) (hn : ∀ (i : Nat) fd, B.F[i]? ≠ some (some fd)) :
    Calls Try.prog 23 #[.pointer (some ⟨p, 0, Option.none⟩)] w fun e w' => e = .returned (.slice Option.none 0 0) ∧ w = w' := by
  obtain ⟨S, v1, v2, v3, Q, h1, -⟩ := h
  obtain ⟨-, -, c2, -⟩ := h1.cells
  have hfew : B.F.length ≤ 1000000 := by rw [h1.len]; exact h1.few
  have hno := h1.no
  have hF := h1.found
  have hall : ∀ j : Nat, j < B.F.length → Q[j]? = some Option.none := fun j hj => by
    have hx := List.getElem?_eq_getElem hj
    refine hno j ?_
    cases e : B.F[j] with
    | none => rw [hx, e]
    | some fd => exact absurd (by rw [hx, e]) (hn j fd)
  obtain ⟨a, c, rfl⟩ := own_slice hF
  have hle := own_cap hF
  have hcell : ∀ j : Nat, j < B.F.length → ∃ g, a = some ⟨g, 0, Option.none⟩ ∧ w.cell? ⟨g, j, Option.none⟩ = some (.pointer Option.none) := fun j hj => by
    rcases own_at hF with ⟨e, h0⟩ | ⟨g, cap, e, _, _, _, hc⟩
    · omega
    · cases e
      exact ⟨g, rfl, hc j _ (by rw [List.getElem?_map, hall j hj]; rfl)⟩
  have HC := Lib.hid hcell
  have hs := sort_none w Option.none 0 (.func (.func 44) #[] #[])
  generalize B.F.length = n at *
  clear h1 hno hF hall hcell
  go_enter Try.func23, Try.ntmps23
  go_wp2_with fail
  go_loopw [3, 13] (fun va i wr => ∃ j : Nat, j ≤ n ∧ i = .int .i64 j ∧ va = .slice Option.none 0 0 ∧ w = wr) (fun _ i _ => n - (intOf i).toNat)
  case atStart => exact ⟨0, Nat.zero_le _, rfl, rfl, rfl⟩
  case round =>
    obtain ⟨j, hj, rfl, rfl, rfl⟩ := hrel
    by_cases hlt : j < n
    · obtain ⟨g, rfl, hx⟩ := HC.out j hlt
      have hi0 : (0 : Int) ≤ (j : Int) := by omega
      have hi1 : (j : Int) < (n : Int) := by omega
      go_wp2_with fail
      go_roundw
      case rel => exact ⟨j + 1, by omega, by go_num, by simp, by simp⟩
      case measure => simp [intOf]; omega
    · obtain rfl : j = n := by omega
      go_wp2_with fail
      refine hs.mono ?_
      rintro e w1 ⟨rfl, rfl⟩
      go_wp2_with fail
      go_ret
      exact ⟨rfl, rfl⟩
end Go.Proofs.Ytofdnbddpageoaa.Nm
