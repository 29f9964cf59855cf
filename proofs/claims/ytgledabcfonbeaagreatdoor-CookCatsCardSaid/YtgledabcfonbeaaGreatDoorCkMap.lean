/-
  A MAP OF TEXTS TO ANY VALUES; the kitchen.
-/
import Derived.Test.YtgledabcfonbeaaGreatDoorCkBytes
namespace Go.Proofs.YtgledabcfonbeaaGreatDoor.Df
open Go.RowKit Go.Maps Go.Proofs.YtgledabcfonbeaaGreatDoor

/-- the values of a list, by where they stand -/
noncomputable def valE (T : List Value) (v : Value) : Option (DW × List MemPlace) :=
  @dite _ (∃ i : Nat, T[i]? = some v) (Classical.propDecidable _) (fun h => some (.lit (.int .i64 (Classical.choose h : Nat)), [])) (fun _ => none)
theorem valE_at {T : List Value} {v : Value} (h : v ∈ T) : ∃ i : Nat, T[i]? = some v ∧ valE T v = some (.lit (.int .i64 i), []) := by
  have h1 : ∃ i : Nat, T[i]? = some v := List.getElem?_of_mem h
  exact ⟨Classical.choose h1, Classical.choose_spec h1, by unfold valE; rw [@dif_pos _ (Classical.propDecidable _) h1]⟩
theorem valE_inv {T : List Value} {v : Value} {n : Nat} {ps : List MemPlace} (h : valE T v = some (.lit (.int .i64 n), ps)) : T[n]? = some v := by
  unfold valE at h
  by_cases h1 : ∃ i : Nat, T[i]? = some v
  · rw [@dif_pos _ (Classical.propDecidable _) h1] at h
    injection h with h
    injection h with h _
    injection h with h
    injection h with _ h
    have hs := Classical.choose_spec h1
    have e : Classical.choose h1 = n := by omega
    rw [e] at hs
    exact hs
  · rw [@dif_neg _ (Classical.propDecidable _) h1] at h
    cases h

def zFile : Value := .agg #[.string ⟨#[]⟩, .slice none 0 0]
theorem zeroFile (w : World) : (zeroValue 52).run Tryz.prog w = .ok zFile w := by kernel_rfl

/-- block m is a map of at most n texts to values of T -/
def Vi (w : World) (n m : Nat) (T : List Value) (f : Bs → Option Value) : Prop :=
  ∃ D : DW, w.ownsMap Tryz.prog 9 (valE T) m n D ∧ (∀ l, Maps.has D (.string l) = (f l).isSome) ∧ ∀ l v, f l = some v → ∃ i : Nat, T[i]? = some v ∧ ∀ z, D.atKey (.string l) z = .lit (.int .i64 i)
section
variable {w w' : World} {n m : Nat} {T : List Value} {f : Bs → Option Value}
theorem Vi.kept (h : Vi w n m T f) (hb : w'.heap[m]? = w.heap[m]?) : Vi w' n m T f := by
  obtain ⟨D, ⟨es, c, hm, r1, r2, r3⟩, r⟩ := h
  exact ⟨D, ⟨es, c, hb.trans hm, r1, r2, r3⟩, r⟩
theorem Vi.lt (h : Vi w n m T f) : m < w.heap.size := by obtain ⟨D, h, _⟩ := h; exact h.lt
theorem Vi.made (w : World) (T : List Value) : Vi (w.alloc (.map #[] 0)) 0 w.heap.size T (fun _ => none) := ⟨.map [], World.ownsMap_made _ _ _ _, fun _ => rfl, fun _ _ h => by cases h⟩
theorem Vi.look (h : Vi w n m T f) (hz : zFile ∈ T) {s : Bs} (hl : s.length ≤ maxLen) {v : Value} (hv : f s = some v) :
    (Instr.lookup 82 (.map (some m)) (.string (mk s)) true).run Tryz.prog w = .ok (.tuple #[v, .bool true]) w := by
  obtain ⟨D, hD, hhas, hat⟩ := h
  obtain ⟨iz, _, ez⟩ := valE_at hz
  obtain ⟨u, ps, hrun, hu⟩ := hD.look_ok law9 Tryz.underlying82 (zeroFile w) ez (keyS hl)
  obtain ⟨i, hi, hati⟩ := hat s v hv
  rw [hati] at hu
  have e := valE_inv hu
  rw [hi] at e
  rw [hhas, hv, ← Option.some.inj e] at hrun
  exact hrun
theorem Vi.miss (h : Vi w n m T f) (hz : zFile ∈ T) {s : Bs} (hl : s.length ≤ maxLen) (hv : f s = none) :
    (Instr.lookup 82 (.map (some m)) (.string (mk s)) true).run Tryz.prog w = .ok (.tuple #[zFile, .bool false]) w := by
  obtain ⟨D, hD, hhas, hat⟩ := h
  obtain ⟨iz, hiz, ez⟩ := valE_at hz
  obtain ⟨u, ps, hrun, hu⟩ := hD.look_ok law9 Tryz.underlying82 (zeroFile w) ez (keyS hl)
  rw [hhas, hv] at hrun
  have hz2 := atKey_of_not_has (D := D) (k := .string s) (z := .lit (.int .i64 (iz : Nat))) (by rw [hhas, hv]; rfl)
  rw [hz2] at hu
  have e := valE_inv hu
  rw [hiz] at e
  rw [← Option.some.inj e] at hrun
  exact hrun
theorem Vi.put (h : Vi w n m T f) (hn : n < maxLen) {s : Bs} (hl : s.length ≤ maxLen) {v : Value} (hv : v ∈ T) :
    ∃ w', (Instr.mapUpdate 82 (.map (some m)) (.string (mk s)) v).run Tryz.prog w = .ok () w' ∧ Vi w' (n + 1) m T (upd f s (some v)) ∧ w.grownBy w' (some m) := by
  obtain ⟨D, hD, hhas, hat⟩ := h
  obtain ⟨iv, hiv, ev⟩ := valE_at hv
  obtain ⟨w', hrun, ho, ht⟩ := hD.store law9 Tryz.underlying82 hn (keyS hl) ev
  have hk : WideAt.IsKeyLit (.string s) := law9.key (keyS hl)
  refine ⟨w', hrun, ⟨_, ho, fun x => ?_, fun x u hx => ?_⟩, ht.grown⟩
  · by_cases hx : x = s
    · subst hx; rw [has_put_same hD.isMap hk, upd, if_pos rfl]; rfl
    · rw [has_put_other (by intro e; cases e; exact hx rfl), upd, if_neg hx, hhas]
  · by_cases hxs : x = s
    · subst hxs
      rw [upd, if_pos rfl] at hx
      cases hx
      exact ⟨iv, hiv, fun z => atKey_put_same hD.isMap hk _ z⟩
    · rw [upd, if_neg hxs] at hx
      obtain ⟨i, h1, h2⟩ := hat x u hx
      exact ⟨i, h1, fun z => by rw [atKey_put_other (by intro e; cases e; exact hxs rfl)]; exact h2 z⟩
end
end Go.Proofs.YtgledabcfonbeaaGreatDoor.Df
