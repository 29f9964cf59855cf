/-
  THE DOCUMENT's OWN HEAD, FRAME, FILE.
-/
import Derived.Test.YtfmelhcpccghdaaRlLaw
import Derived.Test.YtfmelhcpccghdaaCrcR
import Derived.Test.YtfmelhcpccghdaaPkRef
namespace Go.Proofs.Ytfmelhcpccghdaa.Rl
open Go.RowKit Go.Maps

variable {w : World}

theorem shorts_of_light {rs : List (List UInt8)} (h : Light rs) : Shorts rs := fun r hr => by have := h.2 r hr; omega

set_option maxRecDepth 100000 in
set_option maxHeartbeats 1000000 in
theorem refHead_c (k : UInt8) (w : World) : Calls Try.prog 12 #[.int .u8 k.toNat] w fun e w' => ∃ a c, e = .returned (.slice a 8 c) ∧ w'.ownsRow w.heap.size 5 1 (.slice a 8 c) 8 (bytesV (head k)) ∧ Below w.heap.size w w' := by
  obtain ⟨w1, hw1⟩ : ∃ W, w.alloc (.cells #[.int .u8 66, .int .u8 76, .int .u8 87, .int .u8 49, .int .u8 k.toNat, .int .u8 0, .int .u8 0, .int .u8 0] 5) = W := ⟨_, rfl⟩
  have hb1 : Below w.heap.size w w1 := by rw [← hw1]; exact below_alloc _ _
  have e1 : w1.heap[w.heap.size]? = some (.cells #[.int .u8 66, .int .u8 76, .int .u8 87, .int .u8 49, .int .u8 k.toNat, .int .u8 0, .int .u8 0, .int .u8 0] 5 (0, 0)) := by rw [← hw1]; exact heap_alloc_new _ _
  have hown : w1.ownsRow w.heap.size 5 1 (.slice (some ⟨w.heap.size, 0, none⟩) 8 8) 8 (bytesV (head k)) :=
    ⟨rfl, .inr ⟨w.heap.size, 8, _, rfl, Nat.le_refl _, e1, Nat.le_refl _, by unfold maxLen; omega, rfl, rfl⟩⟩
  have HO := Lib.hid hown
  have HB := Lib.hid hb1
  clear hown hb1 e1
  go_enter Try.func12, Try.ntmps12
  go_wp2
  go_ret
  exact ⟨_, _, rfl, HO.out, HB.out⟩

theorem body_app (k : UInt8) (rs : List (List UInt8)) (i : Nat) (r : List UInt8) (h : rs[i]? = some r) : body k (rs.take (i + 1)) = body k (rs.take i) ++ frame r := by
  obtain ⟨hi, rfl⟩ := List.getElem?_eq_some_iff.1 h
  rw [List.take_succ_eq_append_getElem hi, body_snoc]
theorem light_size : ∀ {rs : List (List UInt8)}, (∀ r ∈ rs, r.length ≤ 500) → (all rs).length ≤ 508 * rs.length
  | [], _ => Nat.le_refl _
  | r :: rs, h => by
    have := light_size (rs := rs) fun x hx => h x (by simp [hx])
    have h1 := h r (by simp)
    rw [all_cons, List.length_append, frame_length, List.length_cons]
    omega

end Go.Proofs.Ytfmelhcpccghdaa.Rl
