/-
  THE LAW ReclogNone, WALKED.
-/
import Derived.Test.YtfmelhcpccghdaaGreatRlOpn
import Derived.Test.YtfmelhcpccghdaaGreatRlRew
import Derived.Test.YtfmelhcpccghdaaGreatRlLaw
namespace Go.Proofs.YtfmelhcpccghdaaGreat.Rl
open Go.RowKit Go.Maps

variable {X : Nat → Prop} {K : Nat} {w : World} {p lp : Nat} {d : Ds} {nm : List UInt8} {k : UInt8}

theorem ran_first {Q : Nat → Ds → Int → Ds → Prop} : ∀ {j : Nat} {e : Ds}, Ran Q d (j + 1) e → ∃ c, Q 0 d 0 c
  | 0, e, ⟨c, hc, hq⟩ => ⟨e, by rw [show c = d from hc] at hq; exact hq⟩
  | j + 1, _, ⟨_, hc, _⟩ => ran_first (j := j) hc
/-- nothing is done on a disk that is down -/
theorem turn_down {Q : Nat → Ds → Int → Ds → Prop} {n : Nat} {m : Int} {d' : Ds} (hn : 0 < n) (h8 : ∀ m e, Q 0 d m e → m = 8 ∧ e = d) (h : TurnQ Q n d m d') : m = 8 ∧ d' = d := by
  obtain ⟨n, rfl⟩ : ∃ k, n = k + 1 := ⟨n - 1, by omega⟩
  rcases h with ⟨_, hr⟩ | ⟨_, j, c, _, hr, hq⟩
  · obtain ⟨c, hc⟩ := ran_first hr
    exact absurd (h8 _ _ hc).1 (by decide)
  · cases j with
    | zero =>
      rw [show c = d from hr] at hq
      exact h8 _ _ hq
    | succ j =>
      obtain ⟨c, hc⟩ := ran_first hr
      exact absurd (h8 _ _ hc).1 (by decide)
theorem open_down {n : Int} {d' : Ds} {sp : List UInt8} {rs : List (List UInt8)} (hu : d.up = false) (h : openF K nm sp k d n d' rs) : n = 8 ∧ d' = d := by
  have key : ∀ n e, dropF sp d n e → n = 8 ∧ e = d := by
    intro n e h
    rcases h with ⟨h1, _⟩ | ⟨_, h1⟩
    · rw [hu] at h1; cases h1
    · exact deed_down h1 hu
  rcases h with ⟨_, h1⟩ | ⟨d1, h1, _⟩
  · exact key _ _ h1
  · exact absurd (key _ _ h1).1 (by decide)
theorem rdy_new (n : Nat) (nm sp : List UInt8) : Rdy nm sp (newD n) := ⟨rfl, rfl, rfl, fun m l h => by
  rw [show lead (newD n) m l = none from by show turns (fun _ => none) (([] : List Ch).take m) l = none; rw [List.take_nil]; rfl] at h
  exact absurd rfl h, Nat.zero_le _⟩

def logN : List UInt8 := [108, 111, 103]
theorem right_log : rightL logN = true := by decide +kernel
theorem right_spare : rightL (newN logN) = true := by decide +kernel
theorem log_ne : logN ≠ newN logN := by decide
theorem spare_ne : newN logN ≠ [] := by decide
theorem okHead_nil (k : UInt8) : okHead k [] := rfl

theorem mat_one {a : Option Addr} {n c : Nat} {l : List UInt8} (h : BRow w (.slice a n c) l) : Mat (w.alloc (.cells #[.slice a n c] 31)) (.slice (some ⟨w.heap.size, 0, none⟩) 1 1) [l] := by
  refine ⟨_, 1, rfl, fun j r hj => ?_⟩
  match j, hj with
  | 0, hj =>
    simp at hj
    subst hj
    exact ⟨w.heap.size, 0, .slice a n c, rfl, by simp, cell_at_new _ _ _ _ _ rfl, h.below (below_alloc _ _)⟩
theorem same_below {B : Nat} {w' : World} (hs : Same X w w') (hB : B ≤ w.heap.size) (hX : ∀ b, b < B → X b) {w0 : World} (h0 : Below w0.heap.size w0 w) (h : B = w0.heap.size) : Below w0.heap.size w0 w' := by
  subst h
  exact h0.trans (hs.below hB hX)

end Go.Proofs.YtfmelhcpccghdaaGreat.Rl
