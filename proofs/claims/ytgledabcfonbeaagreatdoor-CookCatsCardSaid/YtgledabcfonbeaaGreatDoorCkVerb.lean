/-
  cat, rev, put and fail, whatever they are given.
-/
import Derived.Test.YtgledabcfonbeaaGreatDoorCkFail
namespace Go.Proofs.YtgledabcfonbeaaGreatDoor.Df
open Go.RowKit Go.Maps Go.Proofs.YtgledabcfonbeaaGreatDoor

/-- what a verb that reads alone comes to: bytes of its own -/
def VeQ (W : World) (o : Option Bs) (e : Ending) (w' : World) : Prop :=
  Fa o (fun r e => ∃ v, e = .returned v ∧ w'.ownsRow W.heap.size 5 1 v r.length (bytesV r) ∧ r.length ≤ 65536) e ∧ Below W.heap.size W w'

theorem growO_len {a b r : Bs} (h : growO a b = some r) : r.length ≤ 65536 ∧ r = a ++ b := by
  unfold growO at h
  split at h
  · cases h; exact ⟨by rw [List.length_append]; assumption, rfl⟩
  · cases h

section
variable {W : World} {k m0 m1 m2 n0 n1 : Nat} {n : Int} {fv : Value} {decl : List Bs} {T : List Value} {F' : Bs → Option Value} {F : Bs → Option Bs}
set_option maxRecDepth 100000 in
set_option maxHeartbeats 8000000 in
theorem cat_a (h : Kn W k m0 m1 m2 n fv decl n0 T F' n1) (hF : FT W F' F) {av : Value} {A : List Bs} (hav : Strs W av A) (hal : A.length ≤ 1000000) (hax : ∀ a ∈ A, a.length ≤ 1000000) (hfb : ∀ s b, F s = some b → b.length ≤ 1000000) :
    Calls Tryz.prog 46 #[.pointer (some ⟨k, 0, none⟩), av] W (VeQ W (catO decl F A [])) := by
  have HK := Lib.hid h
  have HV := Lib.hid hav
  have HF := Lib.hid hF
  have HX := Lib.hid hax
  have HFB := Lib.hid hfb
  obtain ⟨aa, ac, rfl, -, -⟩ := hav
  clear h hF hax hfb
  go_enter Tryz.func46, Tryz.ntmps46
  go_wp2_with fail
  go_loopw [5, 7, 10] (fun o _ i wr => ∃ (j : Nat) (R : Bs) (oa : Option Addr) (oc : Nat), j ≤ A.length ∧ i = .int .i64 j ∧ o = .slice oa R.length oc ∧ Hid (catO decl F (A.take j) [] = some R) ∧ Hid (R.length ≤ 65536) ∧ Hid (wr.ownsRow W.heap.size 5 1 (.slice oa R.length oc) R.length (bytesV R)) ∧ Hid (Below W.heap.size W wr)) (fun _ _ i _ => A.length - (intOf i).toNat)
  case atStart => exact ⟨0, [], none, 0, Nat.zero_le _, rfl, rfl, Lib.hid rfl, Lib.hid (by simp), Lib.hid (World.ownsRow_nil _ _ _ _), Lib.hid (Below.refl _ _)⟩
  case round =>
    obtain ⟨j, R, oa, oc, hj, rfl, rfl, HC, HRL, hO, hBw⟩ := hrel
    by_cases hlt : j < A.length
    · have hx := List.getElem?_eq_getElem hlt
      have hal1 := HX.out _ (List.getElem_mem hlt)
      obtain ⟨_, _, e, _, hrow⟩ := HV.out.below hBw.out
      cases e
      rcases hrow with h0 | ⟨g, off, rfl, hg, hcell⟩
      · rw [h0] at hlt; simp at hlt
      have c0 := hcell j _ hx
      have hsn : catO decl F (A.take (j + 1)) [] = (argO decl F A[j]).bind (growO R) := foldO_snoc hx HC.out
      have hfl : catO decl F (A.take (j + 1)) [] = none → catO decl F A [] = none := fun h => foldO_fail h
      generalize A[j] = x at *
      have ca := argument_a (HK.out.below hBw.out) (HF.out.below hBw.out) hal1
      have hao : ∀ b, argO decl F x = some b → b.length ≤ 1000000 := fun b hb => by
        unfold argO at hb
        split at hb
        · exact HFB.out _ _ hb
        · cases hb
      have HSN := Lib.hid hsn
      have HFL := Lib.hid hfl
      have HAO := Lib.hid hao
      have hi0 : (0 : Int) ≤ (j : Int) := by omega
      have hi1 : (j : Int) < (A.length : Int) := by omega
      generalize argO decl F x = o at *
      clear hcell hx hsn hfl hao
      go_wp2_with fail
      refine ca.mono ?_
      rintro e w2 ⟨hq, hb2⟩
      have hO2 := owns_below hO.out hb2
      have HB2 := Lib.hid (hBw.out.trans (hb2.mono hBw.out.size))
      cases o with
      | none =>
        obtain rfl : e = .panicked pch := hq
        have HE := HFL.out (HSN.out.trans rfl)
        refine ⟨rfl, ?_, HB2.out⟩
        rw [HE]
        rfl
      | some b =>
      obtain ⟨v, rfl, hv, -⟩ := hq
      have cg := grown_a hO2 HB2.out.size hv (by have := HRL.out; omega) (HAO.out _ rfl)
      have HSN2 : Hid (catO decl F (A.take (j + 1)) [] = growO R b) := Lib.hid (HSN.out.trans rfl)
      have HLO := Lib.hid (own_lo hO2)
      clear ca hb2 hO2 hv HSN HAO
      have HGL : Hid (∀ r, growO R b = some r → r.length ≤ 65536) := Lib.hid fun r h => (growO_len h).1
      generalize growO R b = o2 at *
      go_wp2_with fail
      refine cg.mono ?_
      cases o2 with
      | none =>
        rintro e w3 ⟨rfl, rfl⟩
        have HE := HFL.out HSN2.out
        refine ⟨rfl, ?_, HB2.out⟩
        rw [HE]
        rfl
      | some r =>
      rintro e w3 ⟨a3, c3, rfl, ho3, hg3⟩
      have HO3 := Lib.hid ho3
      have HB3 := Lib.hid (grown_below HB2.out hg3 HLO.out)
      clear cg ho3 hg3
      go_wp2_with fail
      go_roundw
      case rel => exact ⟨j + 1, r, a3, c3, by omega, by go_num, rfl, HSN2, Lib.hid (HGL.out _ rfl), HO3, HB3⟩
      case measure => simp [intOf] <;> omega
    · obtain rfl : j = A.length := by omega
      have HTA : Hid (A.take A.length = A) := Lib.hid List.take_length
      go_wp2_with fail
      go_ret
      have hc := HC.out
      rw [HTA.out] at hc
      refine ⟨?_, hBw.out⟩
      rw [hc]
      exact ⟨_, rfl, hO.out, HRL.out⟩

set_option maxRecDepth 100000 in
set_option maxHeartbeats 4000000 in
theorem fail_a (W : World) (kv av : Value) : Calls Tryz.prog 51 #[kv, av] W (VeQ W none) := by
  go_enter Tryz.func51, Tryz.ntmps51
  go_wp2_with fail
  exact ⟨rfl, rfl, Below.refl _ _⟩
end
end Go.Proofs.YtgledabcfonbeaaGreatDoor.Df
