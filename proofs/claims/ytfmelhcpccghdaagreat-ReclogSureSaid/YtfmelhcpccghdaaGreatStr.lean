/-
  STRINGS AS LISTS OF BYTES.
-/
import Derived.Lib.Strings
import Derived.RowKit3
import Derived.Below
namespace Go.Proofs.YtfmelhcpccghdaaGreat
open Go.RowKit

/-- the string of these bytes -/
def mk (l : List UInt8) : ByteArray := ⟨l.toArray⟩
theorem mk_bytes (l : List UInt8) : (mk l).data.toList = l := rfl
theorem mk_of (s : ByteArray) : mk s.data.toList = s := Lib.mk_data s
theorem mk_size (l : List UInt8) : (mk l).size = l.length := by rw [Lib.size_eq, mk_bytes]
theorem mk_inj {a b : List UInt8} (h : mk a = mk b) : a = b := by rw [← mk_bytes a, h, mk_bytes]
theorem mk_extract (l : List UInt8) (a b : Nat) : (mk l).extract a b = mk ((l.drop a).take (b - a)) := by rw [← mk_of ((mk l).extract a b), Lib.extract_data, mk_bytes]
theorem mk_append (a b : List UInt8) : mk a ++ mk b = mk (a ++ b) := by
  rw [← mk_of (mk a ++ mk b)]
  congr 1
theorem mk_toList (x : List UInt8) : (mk x).toList = x := by rw [Lib.toList_data, mk_bytes]
theorem str_eq {a b : ByteArray} (h : a = b) : Value.string a = .string b := by rw [h]
theorem ret_eq {k : IntKind} {a b : Int} (h : a = b) : Ending.returned (.int k a) = .returned (.int k b) := by rw [h]
theorem val_eq {k : IntKind} {a b : Int} (h : a = b) : Value.int k a = Value.int k b := by rw [h]
theorem below_alloc (w : World) (o : Obj) : Below w.heap.size w (w.alloc o) := (Below.refl _ _).alloc (Nat.le_refl _) _
theorem below_step {w W w1 : World} (hb : Below W.heap.size W w1) (h : Below w.heap.size w W) : Below w.heap.size w w1 := h.trans (hb.mono h.size)
theorem cmpS (a b : List UInt8) : ((mk a).toList == (mk b).toList) = decide (a = b) := by
  rw [mk_toList, mk_toList]
  exact Bool.eq_iff_iff.2 (by simp)
def strV (k : List (List UInt8)) : List Value := k.map fun p => Value.string (mk p)
theorem strV_length (k : List (List UInt8)) : (strV k).length = k.length := by simp [strV]
theorem strV_snoc (k : List (List UInt8)) (p : List UInt8) : strV (k ++ [p]) = strV k ++ [Value.string (mk p)] := by simp [strV]
end Go.Proofs.YtfmelhcpccghdaaGreat
