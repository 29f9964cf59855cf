/-
  STRINGS AS LISTS OF BYTES; THE SMALL FUNCTIONS OF THE LIBRARY THAT THE PROGRAM CALLS.
-/
import Derived.Test.YtlhhpggjdbbcmaaDoorDfShelf
import Derived.Test.YtlhhpggjdbbcmaaDoorPaMath
import Derived.WalkKit
import Derived.WalkLawsBesides
import Derived.WalkMore
import Derived.Lib.Hide
import Derived.OpenShut
import Derived.Laws.AppendOwnNone
import Derived.Deep.QuietTactic
import Derived.BigQuiet
import Derived.Deep.RegionHeld3
namespace Go.Proofs.YtlhhpggjdbbcmaaDoor
open Go.RowKit

/-- the string of these bytes -/
def mk (l : Bs) : ByteArray := ⟨l.toArray⟩
theorem mk_bytes (l : Bs) : (mk l).data.toList = l := rfl
theorem mk_of (s : ByteArray) : mk s.data.toList = s := Lib.mk_data s
theorem mk_size (l : Bs) : (mk l).size = l.length := by rw [Lib.size_eq, mk_bytes]
theorem mk_inj {a b : Bs} (h : mk a = mk b) : a = b := by rw [← mk_bytes a, h, mk_bytes]
theorem mk_extract (l : Bs) (a b : Nat) : (mk l).extract a b = mk ((l.drop a).take (b - a)) := by rw [← mk_of ((mk l).extract a b), Lib.extract_data, mk_bytes]
theorem mk_append (a b : Bs) : mk a ++ mk b = mk (a ++ b) := by
  rw [← mk_of (mk a ++ mk b)]
  congr 1
theorem str_eq {a b : ByteArray} (h : a = b) : Value.string a = .string b := by rw [h]
theorem ret_eq {k : IntKind} {a b : Int} (h : a = b) : Ending.returned (.int k a) = .returned (.int k b) := by rw [h]
theorem val_eq {k : IntKind} {a b : Int} (h : a = b) : Value.int k a = Value.int k b := by rw [h]
theorem below_alloc (w : World) (o : Obj) : Below w.heap.size w (w.alloc o) := (Below.refl _ _).alloc (Nat.le_refl _) _
theorem below_step {w W w1 : World} (hb : Below W.heap.size W w1) (h : Below w.heap.size w W) : Below w.heap.size w w1 := h.trans (hb.mono h.size)

set_option maxHeartbeats 1000000 in
/-- stringslite.Cut at a slash -/
theorem slCut_c (s : ByteArray) (w : World) (hs : s.size < 4611686018427387904) :
    Calls Tryd.prog 70 #[.string s, .string ⟨#[47]⟩] w fun e w' => (∃ n, w' = w.drewN n) ∧
      ((Lib.indexByte s.data.toList 47 = -1 ∧ e = .returned (.tuple #[.string s, .string ⟨#[]⟩, .bool false])) ∨
       (∃ o : Nat, Lib.indexByte s.data.toList 47 = (o : Int) ∧ e = .returned (.tuple #[.string (s.extract 0 o), .string (s.extract (o + 1) s.size), .bool true]))) := by
  have hge := Lib.indexByte_ge s.data.toList 47
  have hlt : ∀ o : Nat, Lib.indexByte s.data.toList 47 = (o : Int) → o < s.size := fun o h => by rw [Lib.size_eq]; exact (cut_some h).1
  go_enter Tryd.func70, Tryd.ntmps70
  go_wp2_with fail
  refine (shstringsliteIndexone s 47 w).mono ?_
  rintro e w1 ⟨rfl, rfl⟩
  obtain ⟨H, hH⟩ : ∃ H, Lib.indexByte s.data.toList 47 = H := ⟨_, rfl⟩
  rw [hH] at hge hlt ⊢
  by_cases hn : H = -1
  · subst hn
    go_wp2
    go_ret3
    exact ⟨⟨0, rfl⟩, .inl ⟨hH, rfl⟩⟩
  · obtain ⟨o, rfl⟩ : ∃ o : Nat, H = (o : Int) := ⟨H.toNat, by omega⟩
    have ho := hlt o rfl
    go_wp2
    go_quiet (fail)
    go_wp2
    go_ret3
    exact ⟨⟨_, rfl⟩, .inr ⟨o, hH, rfl⟩⟩

set_option maxHeartbeats 1000000 in
theorem cut0_c (s : ByteArray) (w : World) (hs : s.size < 4611686018427387904) :
    Calls Tryd.prog 68 #[.string s, .string ⟨#[47]⟩] w fun e w' => (∃ n, w' = w.drewN n) ∧
      ((Lib.indexByte s.data.toList 47 = -1 ∧ e = .returned (.tuple #[.string s, .string ⟨#[]⟩, .bool false])) ∨
       (∃ o : Nat, Lib.indexByte s.data.toList 47 = (o : Int) ∧ e = .returned (.tuple #[.string (s.extract 0 o), .string (s.extract (o + 1) s.size), .bool true]))) := by
  go_enter Tryd.func68, Tryd.ntmps68
  go_wp2_with fail
  refine (slCut_c s w hs).mono ?_
  rintro e w1 ⟨⟨n, rfl⟩, ⟨hH, rfl⟩ | ⟨o, hH, rfl⟩⟩
  · go_wp2
    go_ret3
    exact ⟨⟨_, rfl⟩, .inl ⟨hH, rfl⟩⟩
  · go_wp2
    go_ret3
    exact ⟨⟨_, rfl⟩, .inr ⟨o, hH, rfl⟩⟩

/-- strings.Cut at a slash, told by the parts -/
theorem cut_c (r : Bs) (w : World) (hs : r.length < 4611686018427387904) :
    Calls Tryd.prog 68 #[.string (mk r), .string ⟨#[47]⟩] w fun e w' => (∃ n, w' = w.drewN n) ∧
      ((splitC [] r = [r] ∧ e = .returned (.tuple #[.string (mk r), .string ⟨#[]⟩, .bool false])) ∨
       (∃ a b : Bs, splitC [] r = a :: splitC [] b ∧ b.length < r.length ∧ e = .returned (.tuple #[.string (mk a), .string (mk b), .bool true]))) := by
  refine (cut0_c (mk r) w (by rw [mk_size]; exact hs)).mono ?_
  rintro e w1 ⟨hn, ⟨hH, rfl⟩ | ⟨o, hH, rfl⟩⟩
  · exact ⟨hn, .inl ⟨cut_none hH, rfl⟩⟩
  · obtain ⟨ho, hc⟩ := cut_some (l := r) hH
    refine ⟨hn, .inr ⟨r.take o, r.drop (o + 1), hc, by rw [List.length_drop]; omega, ?_⟩⟩
    rw [mk_extract, mk_extract, mk_size]
    have e1 : (r.drop 0).take (o - 0) = r.take o := by simp
    have e2 : (r.drop (o + 1)).take (r.length - (o + 1)) = r.drop (o + 1) := List.take_of_length_le (by rw [List.length_drop]; omega)
    rw [e1, e2]

set_option maxHeartbeats 1000000 in
/-- strings.Clone -/
theorem clone_c (s : ByteArray) (w : World) (hs : s.size ≤ 281474976710656) :
    Calls Tryd.prog 52 #[.string s] w fun e w' => e = .returned (.string s) ∧ Below w.heap.size w w' := by
  go_enter Tryd.func52, Tryd.ntmps52
  go_wp2_with fail
  refine (shstringsliteClone s w hs).mono ?_
  rintro e w1 ⟨rfl, hb⟩
  go_wp2
  go_ret
  exact ⟨rfl, hb⟩
end Go.Proofs.YtlhhpggjdbbcmaaDoor
