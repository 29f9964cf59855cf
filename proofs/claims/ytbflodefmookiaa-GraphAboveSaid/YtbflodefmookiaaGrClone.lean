/-
  slices.Clone of names; own: an edge that shares no row.
-/
import Derived.Test.YtbflodefmookiaaGrIno
namespace Go.Proofs.Ytbflodefmookiaa.Gr
open Go.RowKit Go.Maps Go.Proofs.Ytbflodefmookiaa Go.Proofs.Ytbflodefmookiaa.Pr

theorem nilS_yes (w : World) (c : Nat) : Sem.run Try.prog (binOp BinOp.eql 23 (.slice none 0 c) (.slice none 0 0)) w = .ok (.bool true) w := by kernel_rfl
theorem nilS_no (w : World) (ad : Addr) (n c : Nat) : Sem.run Try.prog (binOp BinOp.eql 23 (.slice (some ad) n c) (.slice none 0 0)) w = .ok (.bool false) w := by kernel_rfl

set_option maxRecDepth 100000 in
set_option maxHeartbeats 4000000 in
theorem clone_c {w : World} {v : Value} {K : List Bs} (h : Strs w v K) (hl : K.length ≤ 1000000) :
    Calls Try.prog 35 #[v] w fun e w' => ∃ a c, e = .returned (.slice a K.length c) ∧ StrsT w' (.slice a K.length c) K ∧ Below w.heap.size w w' := by
  obtain ⟨a, c, rfl, hc, hr⟩ := id h
  cases a with
  | none =>
    have hK : K = [] := by
      rcases hr with h | ⟨g, off, e, _⟩
      · exact h
      · cases e
    subst hK
    have hy := fun w => nilS_yes w c
    clear h hr hl hc
    go_enter Try.func35, Try.ntmps35
    go_wp2_with fail
    go_ret
    exact ⟨_, _, rfl, ⟨⟨_, _, rfl, Nat.le_refl _, .inl rfl⟩, .inl rfl⟩, Below.refl _ _⟩
  | some ad =>
    have hy := fun w => nilS_no w ad K.length c
    have hA := below_alloc w (.cells #[] 9)
    obtain ⟨a', c', W, hrun, hS, hB⟩ := run_copyK (heap_alloc_new w (.cells #[] 9)) (h.below hA) hl
    have HR := Lib.hid hrun
    have HF := Lib.hid (show StrsT W (.slice a' K.length c') K ∧ Below w.heap.size w W from ⟨hS, hA.trans (hB.mono hA.size)⟩)
    clear h hr hl hc hA hrun hS hB
    go_enter Try.func35, Try.ntmps35
    go_wp2_with (at_builtin; refine wpList_run rfl (.tmp 5) (.tmp 6) rfl rfl rfl HR.out ?_)
    go_ret
    exact ⟨_, _, rfl, HF.out⟩
end Go.Proofs.Ytbflodefmookiaa.Gr
