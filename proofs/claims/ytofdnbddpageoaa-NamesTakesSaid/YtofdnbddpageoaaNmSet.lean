/-
  A MAP OF TEXTS TO NOTHING: those that are in it.
-/
import Derived.Test.YtofdnbddpageoaaNmAll
namespace Go.Proofs.Ytofdnbddpageoaa.Nm
open Go.RowKit Go.Maps

noncomputable def setE (v : Value) : Option (DW × List MemPlace) :=
  @ite _ (v = .agg #[]) (Classical.propDecidable _) (some (.lit (.int .i64 0), [])) Option.none
theorem setE_at : setE (.agg #[]) = some (.lit (.int .i64 0), []) := by
  unfold setE
  rw [@if_pos _ (Classical.propDecidable _) rfl]
theorem setE_inv {v : Value} {z : DW × List MemPlace} (h : setE v = some z) : v = .agg #[] := by
  unfold setE at h
  by_cases h0 : v = .agg #[]
  · exact h0
  · rw [@if_neg _ (Classical.propDecidable _) h0] at h; cases h
theorem zeroSt (w : World) : (zeroValue 98).run Try.prog w = .ok (.agg #[]) w := by kernel_rfl

/-- block m is a map of at most n texts: those of f -/
def Si (w : World) (n m : Nat) (f : Bs → Bool) : Prop :=
  ∃ D : DW, w.ownsMap Try.prog 9 setE m n D ∧ (∀ l, Maps.has D (.string l) = f l)
section
variable {w w' : World} {n m : Nat} {f : Bs → Bool}
theorem Si.lt (h : Si w n m f) : m < w.heap.size := by obtain ⟨D, h, _⟩ := h; exact h.lt
theorem Si.kept (h : Si w n m f) (hb : w'.heap[m]? = w.heap[m]?) : Si w' n m f := by
  obtain ⟨D, ⟨es, c, hm, r1, r2, r3⟩, r⟩ := h
  exact ⟨D, ⟨es, c, hb.trans hm, r1, r2, r3⟩, r⟩
theorem Si.made (w : World) : Si (w.alloc (.map #[] 0)) 0 w.heap.size (fun _ => false) := ⟨.map [], World.ownsMap_made _ _ _ _, fun _ => rfl⟩
theorem Si.look (h : Si w n m f) {s : ByteArray} (hl : s.size ≤ maxLen) :
    (Instr.lookup 97 (.map (some m)) (.string s) true).run Try.prog w = .ok (.tuple #[.agg #[], .bool (f (bsOf s))]) w := by
  obtain ⟨D, hD, hhas⟩ := h
  obtain ⟨v, ps, hrun, hv⟩ := hD.look_ok law9 Try.underlying97 (zeroSt w) (zd := .lit (.int .i64 0)) (zp := []) setE_at (keyS hl)
  rw [setE_inv hv, hhas] at hrun
  exact hrun
theorem Si.put (h : Si w n m f) (hn : n < maxLen) {s : ByteArray} (hl : s.size ≤ maxLen) :
    ∃ w', (Instr.mapUpdate 97 (.map (some m)) (.string s) (.agg #[])).run Try.prog w = .ok () w' ∧ Si w' (n + 1) m (upd f (bsOf s) true) ∧ w.grownBy w' (some m) ∧ w'.heap.size = w.heap.size := by
  obtain ⟨D, hD, hhas⟩ := h
  obtain ⟨w', hrun, ho, ht⟩ := hD.store law9 Try.underlying97 hn (val := .agg #[]) (d := .lit (.int .i64 0)) (ps := []) (keyS hl) setE_at
  have hk : WideAt.IsKeyLit (.string (bsOf s)) := law9.key (keyS hl)
  refine ⟨w', hrun, ⟨_, ho, fun x => ?_⟩, ht.grown, ?_⟩
  · by_cases hx : x = bsOf s
    · subst hx; rw [has_put_same hD.isMap hk, upd, if_pos rfl]
    · rw [has_put_other (by intro e; cases e; exact hx rfl), upd, if_neg hx, hhas]
  · obtain ⟨es, c, es', c', _, rfl⟩ := ht
    simp [Go.ChangeMaps.setBlock]
end

/-- is it in a row? -/
def inB (L : List ByteArray) (s : ByteArray) : Bool := L.any fun x => decide (x = s)
theorem inB_mem {L : List ByteArray} {s : ByteArray} : inB L s = true ↔ s ∈ L := by
  unfold inB
  rw [List.any_eq_true]
  constructor
  · rintro ⟨x, hx, h⟩
    simp at h
    subst h
    exact hx
  · intro h
    exact ⟨s, h, by simp⟩
theorem inB_snoc (L : List ByteArray) (s x : ByteArray) : inB (L ++ [s]) x = (inB L x || decide (s = x)) := by
  unfold inB
  rw [List.any_append]
  simp
/-- the names in a row -/
def inL (L : List ByteArray) : Bs → Bool := fun l => inB L (mkS l)
theorem inL_nil : inL [] = fun _ => false := rfl
theorem inL_at (L : List ByteArray) (s : ByteArray) : inL L (bsOf s) = inB L s := by unfold inL; rw [mkS_of]
theorem inL_snoc (L : List ByteArray) (s : ByteArray) : upd (inL L) (bsOf s) true = inL (L ++ [s]) := by
  funext x
  unfold upd inL
  rw [inB_snoc]
  by_cases hx : x = bsOf s
  · subst hx
    rw [if_pos rfl, mkS_of]
    simp
  · have hne : ¬ s = mkS x := fun e => hx (by rw [e, of_mkS])
    rw [if_neg hx]
    simp [hne]
theorem inL_take {L : List ByteArray} {j : Nat} {s : ByteArray} (h : L[j]? = some s) : upd (inL (L.take j)) (bsOf s) true = inL (L.take (j + 1)) := by
  rw [inL_snoc, List.take_add_one, h]
  rfl
end Go.Proofs.Ytofdnbddpageoaa.Nm
