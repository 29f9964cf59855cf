/-
  slices.Sort over names of the call's own.
-/
import Derived.Test.YtbflodefmookiaaGrOuts
namespace Go.Proofs.Ytbflodefmookiaa.Gr
open Go.RowKit Go.Maps Go.Sort Go.Shelf Go.Proofs.Ytbflodefmookiaa Go.Proofs.Ytbflodefmookiaa.Pr
def srt (K : List Bs) : List Bs := K.mergeSort (fun x y => decide (x ≤ y))
theorem srt_len (K : List Bs) : (srt K).length = K.length := List.length_mergeSort _
theorem sortS_c {W : World} {base c : Nat} {a : Option Addr} {K : List Bs} (h : W.ownsRow base 9 1 (.slice a K.length c) K.length (strV K)) (hl : K.length ≤ 1000000) :
    Calls Try.prog 43 #[.slice a K.length c] W fun e w' => e = .returned (.tuple #[]) ∧ w'.ownsRow base 9 1 (.slice a K.length c) K.length (strV (srt K)) ∧ W.grownBy w' (Value.slice a K.length c).ownBlock := by
  rcases h.2 with ⟨e, hz⟩ | ⟨gb, cap, cur, e, hbase, hgb, r1, r2, r3, r4⟩
  · have hK : K = [] := List.eq_nil_of_length_eq_zero hz
    subst hK
    injection e with e1 _ e3
    subst e1 e3
    refine (AnyM.slices_Sort_string_none shsortS none 0 W).mono ?_
    rintro e w' ⟨rfl, rfl⟩
    exact ⟨rfl, by rw [show srt [] = [] by simp [srt]]; exact h, ⟨rfl, rfl, rfl, Nat.le_refl _, fun _ _ _ => rfl⟩⟩
  · injection e with e1 _ e3
    subst e1 e3
    have hgl := lt_some hgb
    refine (AnyM.slices_Sort_string shsortS gb 0 c K W (holds_of_block hgb (by rw [encStr_mk]; simpa [strV] using r4)) hgl (by omega)).mono ?_
    rintro e w' ⟨rfl, nn, os, rfl⟩
    exact ⟨rfl, ownsRow_sorted (by simp) hbase hgb r1 r2 r3, grownBy_sorted _⟩
end Go.Proofs.Ytbflodefmookiaa.Gr
