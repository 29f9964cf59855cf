/-
  ARGUMENTS OF THE LAWS, OPENED: bytes, whole numbers.
-/
import Derived.Test.YtfmelhcpccghdaaGreatLed
import Derived.WalkKit
import Derived.ProofKit
import Derived.OpenShut
import Derived.ShutString
import Derived.ChangeOld
import Derived.Below
import Derived.Lib.SmallJoins
namespace Go.Proofs.YtfmelhcpccghdaaGreat
open Go.RowKit Go.Maps Go.ChangeShapes Go.WideShapes Go.ChangeAt

set_option maxRecDepth 100000
theorem lt_of_cell {w : World} {p : Addr} {v : Value} (h : w.cell? p = some v) : p.block < w.heap.size := by
  rcases Nat.lt_or_ge p.block w.heap.size with h' | h'
  · exact h'
  · simp [World.cell?, Array.getElem?_eq_none h'] at h

theorem brow_of {H : Type} {enc : TypeId × Value → H} {W : World} {base fuel : Nat} {held : Bool} {cs : List Value} {x : DataW H × List MemPlace} (h : DataW.trod enc Tryz.prog W base (fun _ => true) held fuel 31 cs = some x) :
    ∃ v bs, cs = [v] ∧ BRow W v bs := by
  rcases open_ints Tryz.underlying31 Tryz.underlying5 (by kernel_rfl) h with ⟨rfl, _⟩ | ⟨a, len, cap, zs, rfl, _, hl, hm, hz, rfl, hcell, hw⟩
  · exact ⟨_, [], rfl, .inl ⟨rfl, rfl⟩⟩
  · have hz2 : zs.length = cap := by simpa using hz
    refine ⟨_, (zs.take len).map fun z => UInt8.ofNat z.toNat, rfl, .inr ⟨a, cap, ?_, fun h0 => ?_, fun j u hj => ?_⟩⟩
    · simp; omega
    · have h1 : 0 < zs.length := by
        rcases Nat.eq_zero_or_pos zs.length with e | e
        · exact absurd (by rw [List.eq_nil_of_length_eq_zero e]; simp) h0
        · exact e
      have := lt_of_cell (hcell 0 h1)
      rw [add_block] at this
      exact this
    · simp only [bytesV, List.map_map, List.getElem?_map, Option.map_eq_some_iff] at hj
      obtain ⟨z, hz3, rfl⟩ := hj
      have hz4 : zs[j]? = some z := by
        rw [List.getElem?_take] at hz3
        split at hz3
        · exact hz3
        · cases hz3
      have hj2 : j < zs.length := (List.getElem?_eq_some_iff.1 hz4).1
      have hb := hw z (List.mem_of_getElem? hz4)
      have hb2 : 0 ≤ z ∧ z ≤ 255 := by simpa [Lit.wf, IntKind.min, IntKind.max, IntKind.signed, IntKind.bits] using hb
      rw [hcell j hj2, List.getD_eq_getElem?_getD, hz4]
      have e2 : (UInt8.ofNat z.toNat).toNat = z.toNat := by
        simp
        omega
      simp only [Option.getD_some, Function.comp, e2]
      rw [Int.toNat_of_nonneg hb2.1]
theorem trow_of {H : Type} {enc : TypeId × Value → H} {W : World} {base fuel : Nat} {held : Bool} {cs : List Value} {x : DataW H × List MemPlace} (h : DataW.trod enc Tryz.prog W base (fun _ => true) held fuel 32 cs = some x) :
    ∃ v ts, cs = [v] ∧ TRow W v ts := by
  rcases open_ints Tryz.underlying32 Tryz.underlying3 (by kernel_rfl) h with ⟨rfl, _⟩ | ⟨a, len, cap, zs, rfl, _, hl, hm, hz, rfl, hcell, hw⟩
  · exact ⟨_, [], rfl, tnil W⟩
  · have hz2 : zs.length = cap := by simpa using hz
    obtain ⟨b, o, f⟩ := a
    refine ⟨_, zs.take len, rfl, some ⟨b, o, f⟩, cap, ?_, ?_⟩
    · rw [List.length_take, Nat.min_eq_left (by omega)]
    · by_cases h0 : 0 < zs.length
      · right
        obtain ⟨b', o', e, hc⟩ := ints_at hcell h0
        cases e
        refine ⟨b, o, rfl, lt_of_cell (hc 0 h0), fun j t hj => ?_⟩
        have hz4 : zs[j]? = some t := by
          rw [List.getElem?_take] at hj
          split at hj
          · exact hj
          · cases hj
        rw [hc j (List.getElem?_eq_some_iff.1 hz4).1, List.getD_eq_getElem?_getD, hz4]
        rfl
      · left
        have : zs = [] := List.eq_nil_of_length_eq_zero (by omega)
        rw [this, List.take_nil]
end Go.Proofs.YtfmelhcpccghdaaGreat
