/-
  THE DOCUMENT's OWN HEAD, FRAME, FILE.
-/
import Derived.Test.YtfmelhcpccghdaaGreatRlLaw


namespace Go.Proofs.YtfmelhcpccghdaaGreat.Rl
open Go.RowKit Go.Maps

variable {w : World}

theorem shorts_of_light {rs : List (List UInt8)} (h : Light rs) : Shorts rs := fun r hr => by have := h.2 r hr; omega

theorem body_app (k : UInt8) (rs : List (List UInt8)) (i : Nat) (r : List UInt8) (h : rs[i]? = some r) : body k (rs.take (i + 1)) = body k (rs.take i) ++ frame r := by
  obtain ⟨hi, rfl⟩ := List.getElem?_eq_some_iff.1 h
  rw [List.take_succ_eq_append_getElem hi, body_snoc]
theorem light_size : ∀ {rs : List (List UInt8)}, (∀ r ∈ rs, r.length ≤ 500) → (all rs).length ≤ 508 * rs.length
  | [], _ => Nat.le_refl _
  | r :: rs, h => by
    have := light_size (rs := rs) fun x hx => h x (by simp [hx])
    have h1 := h r (by simp)
    rw [all_cons, List.length_append, frame_length, List.length_cons]
    omega

end Go.Proofs.YtfmelhcpccghdaaGreat.Rl
