/-
  A MAP OF A RECORD's KINDS TO THE METHODS THAT TAKE THEM.
-/
import Derived.Test.YtmppjlgmopfaeaaNmOut
namespace Go.Proofs.Ytmppjlgmopfaeaa.Nm
open Go.RowKit Go.Maps

def fnV (F p : Nat) : Value := .func (.func F) #[.pointer (some ⟨p, 0, Option.none⟩)] #[]

/-- the values of the map: nothing, takeName, takeOutput -/
noncomputable def fnE (p : Nat) (v : Value) : Option (DW × List MemPlace) :=
  @ite _ (v = .nilFunc) (Classical.propDecidable _) (some (.lit (.int .i64 0), []))
    (@ite _ (v = fnV 34 p) (Classical.propDecidable _) (some (.lit (.int .i64 1), []))
      (@ite _ (v = fnV 35 p) (Classical.propDecidable _) (some (.lit (.int .i64 2), [])) Option.none))

theorem fnE_nil (p : Nat) : fnE p .nilFunc = some (.lit (.int .i64 0), []) := by
  unfold fnE
  rw [@if_pos _ (Classical.propDecidable _) rfl]
theorem fnE_1 (p : Nat) : fnE p (fnV 34 p) = some (.lit (.int .i64 1), []) := by
  unfold fnE
  rw [@if_neg _ (Classical.propDecidable _) (by unfold fnV; intro e; cases e), @if_pos _ (Classical.propDecidable _) rfl]
theorem fnE_2 (p : Nat) : fnE p (fnV 35 p) = some (.lit (.int .i64 2), []) := by
  unfold fnE
  rw [@if_neg _ (Classical.propDecidable _) (by unfold fnV; intro e; cases e), @if_neg _ (Classical.propDecidable _) (by unfold fnV; intro e; injection e with e1; injection e1 with e2; exact absurd e2 (by decide)), @if_pos _ (Classical.propDecidable _) rfl]
theorem fnE_inv {p : Nat} {v : Value} {n : Int} {ps : List MemPlace} (h : fnE p v = some (.lit (.int .i64 n), ps)) : (n = 0 ∧ v = .nilFunc) ∨ (n = 1 ∧ v = fnV 34 p) ∨ (n = 2 ∧ v = fnV 35 p) := by
  unfold fnE at h
  by_cases h0 : v = .nilFunc
  · rw [@if_pos _ (Classical.propDecidable _) h0] at h
    simp at h
    exact .inl ⟨h.1.symm, h0⟩
  · rw [@if_neg _ (Classical.propDecidable _) h0] at h
    by_cases h1 : v = fnV 34 p
    · rw [@if_pos _ (Classical.propDecidable _) h1] at h
      simp at h
      exact .inr (.inl ⟨h.1.symm, h1⟩)
    · rw [@if_neg _ (Classical.propDecidable _) h1] at h
      by_cases h2 : v = fnV 35 p
      · rw [@if_pos _ (Classical.propDecidable _) h2] at h
        simp at h
        exact .inr (.inr ⟨h.1.symm, h2⟩)
      · rw [@if_neg _ (Classical.propDecidable _) h2] at h
        cases h

theorem keyed5 : Keyed Try.prog 5 := int_keyed Try.underlying5
theorem key5 {k : Nat} (h : k < 256) : keyOf Try.prog 5 (.int .u8 (k : Int)) = some (.int .u8 (k : Int)) :=
  keyOf_int_mk Try.underlying5 (by simp [Lit.wf, IntKind.min, IntKind.max, IntKind.signed, IntKind.bits]; omega)
theorem zeroFn (w : World) : (zeroValue 79).run Try.prog w = .ok .nilFunc w := by kernel_rfl

def kindD : DW := ((DataW.map []).put (.int .u8 1) (.lit (.int .i64 1))).put (.int .u8 2) (.lit (.int .i64 2))

/-- what the map tells of a kind -/
def kindV (p k : Nat) : Value := if k = 1 then .tuple #[fnV 34 p, .bool true] else if k = 2 then .tuple #[fnV 35 p, .bool true] else .tuple #[.nilFunc, .bool false]

/-- the map literal: made, and two entries laid -/
theorem kinds_made (W : World) (p : Nat) : ∃ W1 W2, (Instr.mapUpdate 80 (.map (some W.heap.size)) (.int .u8 1) (fnV 34 p)).run Try.prog (W.alloc (.map #[] 0)) = .ok () W1 ∧
    (Instr.mapUpdate 80 (.map (some W.heap.size)) (.int .u8 2) (fnV 35 p)).run Try.prog W1 = .ok () W2 ∧ Below W.heap.size W W2 ∧
    ∀ k : Nat, k < 256 → (Instr.lookup 80 (.map (some W.heap.size)) (.int .u8 (k : Int)) true).run Try.prog W2 = .ok (kindV p k) W2 := by
  have h0 : (W.alloc (.map #[] 0)).ownsMap Try.prog 5 (fnE p) W.heap.size 0 (.map []) := World.ownsMap_made _ _ _ _
  obtain ⟨W1, r1, o1, t1⟩ := h0.store keyed5 Try.underlying80 (by unfold maxLen; omega) (key5 (k := 1) (by omega)) (fnE_1 p)
  obtain ⟨W2, r2, o2, t2⟩ := o1.store keyed5 Try.underlying80 (by unfold maxLen; omega) (key5 (k := 2) (by omega)) (fnE_2 p)
  have g1 := t1.grown
  have g2 := t2.grown
  have z0 : (W.alloc (.map #[] 0)).heap.size = W.heap.size + 1 := Array.size_push _
  have hB : Below W.heap.size W W2 := by
    refine ⟨g2.os.trans g1.os, g2.tape.trans g1.tape, g2.output.trans g1.output, by have := g1.size; have := g2.size; omega, fun k hk => ?_⟩
    have s1 := g1.size
    exact (g2.block k (by omega) (by intro e; have := Option.some.inj e; omega)).trans ((g1.block k (by omega) (by intro e; have := Option.some.inj e; omega)).trans (Below.heap_alloc _ _ _ hk))
  have hk1 : WideAt.IsKeyLit (.int .u8 1) := keyed5.key (key5 (k := 1) (by omega))
  have hk2 : WideAt.IsKeyLit (.int .u8 2) := keyed5.key (key5 (k := 2) (by omega))
  refine ⟨W1, W2, r1, r2, hB, fun k hk => ?_⟩
  obtain ⟨v, ps, hrun, hv⟩ := o2.look_ok keyed5 Try.underlying80 (zeroFn W2) (fnE_nil p) (key5 hk)
  rw [hrun]
  have m0 : IsMap ((DataW.map []).put (.int .u8 1) (.lit (.int .i64 1)) : DW) := o1.isMap
  have mm : IsMap (DataW.map [] : DW) := h0.isMap
  unfold kindV
  by_cases e2 : k = 2
  · subst e2
    have a1 : (((DataW.map []).put (.int .u8 1) (.lit (.int .i64 1))).put (.int .u8 2) (.lit (.int .i64 2)) : DW).atKey (.int .u8 ((2 : Nat) : Int)) (.lit (.int .i64 0)) = .lit (.int .i64 2) := atKey_put_same m0 hk2 _ _
    have a2 : Maps.has (((DataW.map []).put (.int .u8 1) (.lit (.int .i64 1))).put (.int .u8 2) (.lit (.int .i64 2)) : DW) (.int .u8 ((2 : Nat) : Int)) = true := has_put_same m0 hk2 _
    have hv' : fnE p v = some (.lit (.int .i64 2), ps) := hv.trans (congrArg (fun d => some (d, ps)) a1)
    rcases fnE_inv hv' with ⟨h, _⟩ | ⟨h, _⟩ | ⟨_, h⟩
    · omega
    · omega
    · rw [if_neg (by decide), if_pos rfl, h]
      exact congrArg (fun b => Result.ok (Value.tuple #[fnV 35 p, .bool b]) W2) a2
  · have ne2 : (Lit.int .u8 (k : Int)) ≠ Lit.int .u8 2 := fun e => by injection e with _ e; omega
    by_cases e1 : k = 1
    · subst e1
      have a1 : (((DataW.map []).put (.int .u8 1) (.lit (.int .i64 1))).put (.int .u8 2) (.lit (.int .i64 2)) : DW).atKey (.int .u8 ((1 : Nat) : Int)) (.lit (.int .i64 0)) = .lit (.int .i64 1) := (atKey_put_other ne2 _ _).trans (atKey_put_same mm hk1 _ _)
      have a2 : Maps.has (((DataW.map []).put (.int .u8 1) (.lit (.int .i64 1))).put (.int .u8 2) (.lit (.int .i64 2)) : DW) (.int .u8 ((1 : Nat) : Int)) = true := (has_put_other ne2 _).trans (has_put_same mm hk1 _)
      have hv' : fnE p v = some (.lit (.int .i64 1), ps) := hv.trans (congrArg (fun d => some (d, ps)) a1)
      rcases fnE_inv hv' with ⟨h, _⟩ | ⟨_, h⟩ | ⟨h, _⟩
      · omega
      · rw [if_pos rfl, h]
        exact congrArg (fun b => Result.ok (Value.tuple #[fnV 34 p, .bool b]) W2) a2
      · omega
    · have ne1 : (Lit.int .u8 (k : Int)) ≠ Lit.int .u8 1 := fun e => by injection e with _ e; omega
      have a1 : (((DataW.map []).put (.int .u8 1) (.lit (.int .i64 1))).put (.int .u8 2) (.lit (.int .i64 2)) : DW).atKey (.int .u8 (k : Int)) (.lit (.int .i64 0)) = .lit (.int .i64 0) := (atKey_put_other ne2 _ _).trans ((atKey_put_other ne1 _ _).trans rfl)
      have a2 : Maps.has (((DataW.map []).put (.int .u8 1) (.lit (.int .i64 1))).put (.int .u8 2) (.lit (.int .i64 2)) : DW) (.int .u8 (k : Int)) = false := (has_put_other ne2 _).trans ((has_put_other ne1 _).trans rfl)
      have hv' : fnE p v = some (.lit (.int .i64 0), ps) := hv.trans (congrArg (fun d => some (d, ps)) a1)
      rcases fnE_inv hv' with ⟨_, h⟩ | ⟨h, _⟩ | ⟨h, _⟩
      · rw [if_neg e1, if_neg e2, h]
        exact congrArg (fun b => Result.ok (Value.tuple #[Value.nilFunc, .bool b]) W2) a2
      · omega
      · omega
end Go.Proofs.Ytmppjlgmopfaeaa.Nm
