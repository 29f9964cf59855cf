/-
  A ROW WITH A Ytofdnbddpageoaa, ONCE: the laws' with, walked.
-/
import Derived.Test.YtofdnbddpageoaaNmNames
import Derived.Deep.AppendLies
namespace Go.Proofs.Ytofdnbddpageoaa.Nm
open Go.RowKit Go.Maps

/-- what with comes to -/
def WiQ (w : World) (base : Nat) (v : Value) (N : List ByteArray) (s : ByteArray) (e : Ending) (w' : World) : Prop :=
  ∃ a c, e = .returned (.slice a (withL N s).length c) ∧ w'.ownsRow base 9 1 (.slice a (withL N s).length c) (withL N s).length (strV (withL N s)) ∧ Mod (fun k => v.ownBlock = some k) w w' ∧ (∀ k, (Value.slice a (withL N s).length c).ownBlock = some k → v.ownBlock = some k ∨ w.heap.size ≤ k)

theorem ixOf_take {N : List ByteArray} {s : ByteArray} {j : Nat} {x : ByteArray} (hx : N[j]? = some x) (hne : x ≠ s) (h : ixOf (N.take j) s = Option.none) : ixOf (N.take (j + 1)) s = Option.none := by
  rw [List.take_add_one, hx, Option.toList_some, ixOf_snoc, h, if_neg hne]
  rfl

theorem str_app {w : World} {base : Nat} {a : Option Addr} {c : Nat} {N : List ByteArray} {s : ByteArray} (h : w.ownsRow base 9 1 (.slice a N.length c) N.length (strV N)) (hbw : base ≤ w.heap.size) (hN : N.length ≤ 100000) (ty : TypeId) :
    ∃ a' c' w', (Builtin.append_ #[27, 27] ty #[.slice a N.length c, .slice (some ⟨w.heap.size, 0, Option.none⟩) 1 1]).run Try.prog (w.alloc (.cells #[.string s] 9)) = .ok (.slice a' (N ++ [s]).length c') w' ∧ w'.ownsRow base 9 1 (.slice a' (N ++ [s]).length c') (N ++ [s]).length (strV (N ++ [s])) ∧ (w.alloc (.cells #[.string s] 9)).grownBy w' (Value.slice a N.length c).ownBlock ∧ ((Value.slice a' (N ++ [s]).length c').ownBlock = (Value.slice a N.length c).ownBlock ∨ (Value.slice a' (N ++ [s]).length c').ownBlock = some (w.heap.size + 1)) := by
  obtain ⟨W1, hW1⟩ : ∃ W, w.alloc (.cells #[.string s] 9) = W := ⟨_, rfl⟩
  have b1 : Below w.heap.size w W1 := by rw [← hW1]; exact Pk.below_alloc _ _
  have e1 : W1.heap[w.heap.size]? = some (.cells #[.string s] 9 (0, 0)) := by rw [← hW1]; exact heap_alloc_new _ _
  have hs : StrRow W1 (.slice (some ⟨w.heap.size, 0, Option.none⟩) [s].length 1) [s] := ⟨_, _, rfl, Nat.le_refl _, .inr ⟨_, 0, rfl, lt_some e1, fun i x hi => by
    obtain ⟨rfl, rfl⟩ : i = 0 ∧ x = s := by
      cases i with
      | zero => simp at hi; exact ⟨rfl, hi.symm⟩
      | succ i => simp at hi
    simp [World.cell?, e1]⟩⟩
  rw [hW1]
  obtain ⟨v', w', hr, ho, hg, h5⟩ := run_appS (ty := ty) (owns_below h b1) hs (fun n c e => by cases e) (by simp; omega) (Nat.le_trans hbw b1.size)
  have el : (N ++ [s]).length = N.length + [s].length := List.length_append
  have ev : strV (N ++ [s]) = strV N ++ strV [s] := by simp [strV]
  rw [← el, ← ev] at ho
  obtain ⟨a', c', rfl⟩ := own_slice ho
  exact ⟨a', c', w', hr, ho, hg, by rw [← hW1, World.size_alloc] at h5; exact h5⟩

set_option maxRecDepth 100000 in
set_option maxHeartbeats 2000000 in
theorem with_c {w : World} {base : Nat} {v : Value} {N : List ByteArray} {s : ByteArray} (h : w.ownsRow base 9 1 v N.length (strV N)) (hbw : base ≤ w.heap.size) (hN : N.length ≤ 100000) :
    Calls Try.prog 28 #[v, .string s] w (WiQ w base v N s) := by
  obtain ⟨a, c, rfl⟩ := own_slice h
  obtain ⟨⟨_, _, e, hc, hrow⟩, -⟩ := strRow_of h
  cases e
  have H := Lib.hid h
  have HROW := Lib.hid hrow
  obtain ⟨a9, c9, w9, hr9, ho9, hg9, hw9⟩ := str_app (s := s) (ty := 27) h hbw hN
  have HO9 := Lib.hid ho9
  have HG9 := Lib.hid hg9
  have HW9 := Lib.hid hw9
  have HR9 := Lib.hid hr9
  clear hrow h ho9 hg9 hw9 hr9
  go_enter Try.func28, Try.ntmps28
  go_wp2_with fail
  go_loopw [5] (fun i wr => ∃ j : Nat, j ≤ N.length ∧ i = .int .i64 j ∧ Hid (ixOf (N.take j) s = Option.none) ∧ w = wr) (fun i _ => N.length - (intOf i).toNat)
  case atStart => exact ⟨0, Nat.zero_le _, rfl, Lib.hid rfl, rfl⟩
  case round =>
    obtain ⟨j, hj, rfl, hT, rfl⟩ := hrel
    by_cases hlt : j < N.length
    · have hx := List.getElem?_eq_getElem hlt
      rcases HROW.out with h | ⟨b, off, rfl, hb, hcell⟩
      · rw [h] at hlt; simp at hlt
      have x0 := hcell j _ hx
      generalize N[j] = x at *
      have hi0 : (0 : Int) ≤ (j : Int) := by omega
      have hi1 : (j : Int) < (N.length : Int) := by omega
      by_cases hz : x = s
      · have t0 : (x.toList == s.toList) = true := by rw [hz]; simp
        have hxe : withL N s = N := by
          have : s ∈ N := by rw [← hz]; exact List.mem_of_getElem? hx
          obtain ⟨i, hi⟩ := ixOf_mem this
          unfold withL
          rw [hi]
        have HXE := Lib.hid hxe
        clear hcell hx hz hxe
        go_wp2_with fail
        go_ret
        have hh := H.out
        refine ⟨some ⟨b, off, Option.none⟩, c, ?_, ?_, Mod.refl _ _, fun k hk => .inl ?_⟩
        · rw [HXE.out]; rfl
        · rw [HXE.out]; exact hh
        · rw [HXE.out] at hk; exact hk
      · have t0 : (x.toList == s.toList) = false := Pk.toList_ne hz
        have HT := Lib.hid (ixOf_take hx hz hT.out)
        clear hcell hx hz
        go_wp2_with fail
        go_roundw
        case rel => exact ⟨j + 1, by omega, by go_num, HT, by simp⟩
        case measure => simp [intOf]; omega
    · obtain rfl : j = N.length := by omega
      rw [List.take_length] at hT
      go_wp2_with (at_builtin; refine wpList_run rfl (.tmp 19) (.tmp 21) rfl rfl rfl HR9.out ?_)
      go_ret
      have hxe : withL N s = N ++ [s] := by
        unfold withL
        rw [hT.out]
      refine ⟨a9, c9, by rw [hxe, List.length_append]; rfl, by rw [hxe]; exact HO9.out, ?_, fun k hk => ?_⟩
      · exact (Mod.ofBelow (Pk.below_alloc w _)).trans2 (Mod.grown HG9.out fun k hk => hk)
      · rw [hxe] at hk
        rcases HW9.out with h | h
        · exact .inl (h.symm.trans hk)
        · rw [h] at hk; cases hk; exact .inr (Nat.le_succ _)
end Go.Proofs.Ytofdnbddpageoaa.Nm
