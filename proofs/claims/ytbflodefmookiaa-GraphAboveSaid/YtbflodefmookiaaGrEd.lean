/-
  EDGES, and whether they are few and short. No program, no world.
-/
import Derived.Test.YtbflodefmookiaaGrStr
namespace Go.Proofs.Ytbflodefmookiaa.Df
end Go.Proofs.Ytbflodefmookiaa.Df
namespace Go.Proofs.Ytbflodefmookiaa.Pr

/-- an edge -/
structure Ed where
  outs : List Bs
  ins : List Bs
  imp : List Bs
  ord : List Bs
  cmd : Bs
  dep : Bs

/-! few, and short -/
def nm (e : Ed) : List Bs := e.outs ++ e.ins ++ e.imp ++ e.ord
def fewE (e : Ed) : Bool := decide (e.outs.length ≤ 10) && decide (e.ins.length ≤ 10) && decide (e.imp.length ≤ 10) && decide (e.ord.length ≤ 10) && decide (e.cmd.length ≤ 300) && decide (e.dep.length ≤ 200)
def shortN (s : Bs) : Bool := decide (s.length ≤ 200)
def allN (L : List Ed) (D : List Bs) : List Bs := D ++ L.flatMap nm
def fewM (L : List Ed) (D : List Bs) : Bool := decide (L.length ≤ 30) && decide (D.length ≤ 20) && L.all fewE && (allN L D).all shortN
theorem allN_take {L : List Ed} {D : List Bs} {j : Nat} {x : Ed} (h : L[j]? = some x) : allN (L.take (j + 1)) D = allN (L.take j) D ++ nm x := by
  rw [List.take_add_one, h]
  simp [allN]

/-- an edge whose parts are few, and short -/
structure Sm (e : Ed) : Prop where
  o : e.outs.length ≤ 10
  i : e.ins.length ≤ 10
  m : e.imp.length ≤ 10
  r : e.ord.length ≤ 10
  c : e.cmd.length ≤ 300
  d : e.dep.length ≤ 200
  xo : ∀ x ∈ e.outs, x.length ≤ 200
  xi : ∀ x ∈ e.ins, x.length ≤ 200
  xm : ∀ x ∈ e.imp, x.length ≤ 200
  xr : ∀ x ∈ e.ord, x.length ≤ 200
theorem fewM_of {L : List Ed} {D : List Bs} (h : fewM L D = true) : L.length ≤ 30 ∧ D.length ≤ 20 ∧ (∀ x ∈ D, x.length ≤ 200) ∧ ∀ e ∈ L, Sm e := by
  unfold fewM at h
  simp only [Bool.and_eq_true, decide_eq_true_eq, List.all_eq_true] at h
  obtain ⟨⟨⟨h1, h2⟩, h3⟩, h4⟩ := h
  have hs : ∀ x ∈ allN L D, x.length ≤ 200 := fun x hx => by have := h4 x hx; unfold shortN at this; exact of_decide_eq_true this
  refine ⟨h1, h2, fun x hx => hs x (by simp [allN, hx]), fun e he => ?_⟩
  have hf := h3 e he
  unfold fewE at hf
  simp only [Bool.and_eq_true, decide_eq_true_eq] at hf
  obtain ⟨⟨⟨⟨⟨a1, a2⟩, a3⟩, a4⟩, a5⟩, a6⟩ := hf
  have hn : ∀ x ∈ nm e, x.length ≤ 200 := fun x hx => hs x (by
    unfold allN
    rw [List.mem_append, List.mem_flatMap]
    exact .inr ⟨e, he, hx⟩)
  exact ⟨a1, a2, a3, a4, a5, a6, fun x hx => hn x (by simp [nm, hx]), fun x hx => hn x (by simp [nm, hx]), fun x hx => hn x (by simp [nm, hx]), fun x hx => hn x (by simp [nm, hx])⟩

end Go.Proofs.Ytbflodefmookiaa.Pr
