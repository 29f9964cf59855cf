/-
  A MAP OF A RECORD's KINDS TO THE METHODS THAT TAKE THEM.
-/
import Derived.Test.YtofdnbddpageoaaNmOut
namespace Go.Proofs.Ytofdnbddpageoaa.Nm
open Go.RowKit Go.Maps

def fnV (F p : Nat) : Value := .func (.func F) #[.pointer (some ⟨p, 0, Option.none⟩)] #[]

/-- the values of the map: nothing, takeName, takeOutput -/
noncomputable def fnE (p : Nat) (v : Value) : Option (DW × List MemPlace) :=
  @ite _ (v = .nilFunc) (Classical.propDecidable _) (some (.lit (.int .i64 0), []))
    (@ite _ (v = fnV 34 p) (Classical.propDecidable _) (some (.lit (.int .i64 1), []))
      (@ite _ (v = fnV 35 p) (Classical.propDecidable _) (some (.lit (.int .i64 2), [])) Option.none))

theorem fnE_nil (p : Nat) : fnE p .nilFunc = some (.lit (.int .i64 0), []) := by
  unfold fnE
  rw [@if_pos _ (Classical.propDecidable _) rfl]
theorem fnE_1 (p : Nat) : fnE p (fnV 34 p) = some (.lit (.int .i64 1), []) := by
  unfold fnE
  rw [@if_neg _ (Classical.propDecidable _) (by unfold fnV; intro e; cases e), @if_pos _ (Classical.propDecidable _) rfl]
theorem fnE_2 (p : Nat) : fnE p (fnV 35 p) = some (.lit (.int .i64 2), []) := by
  unfold fnE
  rw [@if_neg _ (Classical.propDecidable _) (by unfold fnV; intro e; cases e), @if_neg _ (Classical.propDecidable _) (by unfold fnV; intro e; injection e with e1; injection e1 with e2; exact absurd e2 (by decide)), @if_pos _ (Classical.propDecidable _) rfl]
theorem fnE_inv {p : Nat} {v : Value} {n : Int} {ps : List MemPlace} (h : fnE p v = some (.lit (.int .i64 n), ps)) : (n = 0 ∧ v = .nilFunc) ∨ (n = 1 ∧ v = fnV 34 p) ∨ (n = 2 ∧ v = fnV 35 p) := by
  unfold fnE at h
  by_cases h0 : v = .nilFunc
  · rw [@if_pos _ (Classical.propDecidable _) h0] at h
    simp at h
    exact .inl ⟨h.1.symm, h0⟩
  · rw [@if_neg _ (Classical.propDecidable _) h0] at h
    by_cases h1 : v = fnV 34 p
    · rw [@if_pos _ (Classical.propDecidable _) h1] at h
      simp at h
      exact .inr (.inl ⟨h.1.symm, h1⟩)
    · rw [@if_neg _ (Classical.propDecidable _) h1] at h
      by_cases h2 : v = fnV 35 p
      · rw [@if_pos _ (Classical.propDecidable _) h2] at h
        simp at h
        exact .inr (.inr ⟨h.1.symm, h2⟩)
      · rw [@if_neg _ (Classical.propDecidable _) h2] at h
        cases h

theorem keyed5 : Keyed Try.prog 5 := int_keyed Try.underlying5
theorem key5 {k : Nat} (h : k < 256) : keyOf Try.prog 5 (.int .u8 (k : Int)) = some (.int .u8 (k : Int)) :=
  keyOf_int_mk Try.underlying5 (by simp [Lit.wf, IntKind.min, IntKind.max, IntKind.signed, IntKind.bits]; omega)
theorem zeroFn (w : World) : (zeroValue 79).run Try.prog w = .ok .nilFunc w := by kernel_rfl

def kindD : DW := ((DataW.map []).put (.int .u8 1) (.lit (.int .i64 1))).put (.int .u8 2) (.lit (.int .i64 2))

/-- what the map tells of a kind -/
def kindV (p k : Nat) : Value := if k = 1 then .tuple #[fnV 34 p, .bool true] else if k = 2 then .tuple #[fnV 35 p, .bool true] else .tuple #[.nilFunc, .bool false]

/-- the map literal: made, and two entries laid -/
theorem kinds_made (W : World) (p : Nat) : ∃ W1 W2, (Instr.mapUpdate 80 (.map (some W.heap.size)) (.int .u8 1) (fnV 34 p)).run Try.prog (W.alloc (.map #[] 0)) = .ok () W1 ∧
    (Instr.mapUpdate 80 (.map (some W.heap.size)) (.int .u8 2) (fnV 35 p)).run Try.prog W1 = .ok () W2 ∧ Below W.heap.size W W2 ∧
    ∀ k : Nat, k < 256 → (Instr.lookup 80 (.map (some W.heap.size)) (.int .u8 (k : Int)) true).run Try.prog W2 = .ok (kindV p k) W2 := by
  have h0 : (W.alloc (.map #[] 0)).ownsMap Try.prog 5 (fnE p) W.heap.size 0 (.map []) := World.ownsMap_made _ _ _ _
  obtain ⟨W1, r1, o1, t1⟩ := h0.store keyed5 Try.underlying80 (by unfold maxLen; omega) (key5 (k := 1) (by omega)) (fnE_1 p)
  obtain ⟨W2, r2, o2, t2⟩ := o1.store keyed5 Try.underlying80 (by unfold maxLen; omega) (key5 (k := 2) (by omega)) (fnE_2 p)
  have g1 := t1.grown
  have g2 := t2.grown
  have z0 : (W.alloc (.map #[] 0)).heap.size = W.heap.size + 1 := Array.size_push _
  have hB : Below W.heap.size W W2 := by
    refine ⟨g2.os.trans g1.os, g2.tape.trans g1.tape, g2.output.trans g1.output, by have := g1.size; have := g2.size; omega, fun k hk => ?_⟩
    have s1 := g1.size
    exact (g2.block k (by omega) (by intro e; have := Option.some.inj e; omega)).trans ((g1.block k (by omega) (by intro e; have := Option.some.inj e; omega)).trans (Below.heap_alloc _ _ _ hk))
  have hk1 : WideAt.IsKeyLit (.int .u8 1) := keyed5.key (key5 (k := 1) (by omega))
  have hk2 : WideAt.IsKeyLit (.int .u8 2) := keyed5.key (key5 (k := 2) (by omega))
  refine ⟨W1, W2, r1, r2, hB, fun k hk => ?_⟩
  obtain ⟨v, ps, hrun, hv⟩ := o2.look_ok keyed5 Try.underlying80 (zeroFn W2) (fnE_nil p) (key5 hk)
  rw [hrun]
  have m0 : IsMap ((DataW.map []).put (.int .u8 1) (.lit (.int .i64 1)) : DW) := o1.isMap
  have mm : IsMap (DataW.map [] : DW) := h0.isMap
  unfold kindV
  by_cases e2 : k = 2
  · subst e2
    have a1 : (((DataW.map []).put (.int .u8 1) (.lit (.int .i64 1))).put (.int .u8 2) (.lit (.int .i64 2)) : DW).atKey (.int .u8 ((2 : Nat) : Int)) (.lit (.int .i64 0)) = .lit (.int .i64 2) := atKey_put_same m0 hk2 _ _
    have a2 : Maps.has (((DataW.map []).put (.int .u8 1) (.lit (.int .i64 1))).put (.int .u8 2) (.lit (.int .i64 2)) : DW) (.int .u8 ((2 : Nat) : Int)) = true := has_put_same m0 hk2 _
    have hv' : fnE p v = some (.lit (.int .i64 2), ps) := hv.trans (congrArg (fun d => some (d, ps)) a1)
    rcases fnE_inv hv' with ⟨h, _⟩ | ⟨h, _⟩ | ⟨_, h⟩
    · omega
    · omega
    · rw [if_neg (by decide), if_pos rfl, h]
      exact congrArg (fun b => Result.ok (Value.tuple #[fnV 35 p, .bool b]) W2) a2
  · have ne2 : (Lit.int .u8 (k : Int)) ≠ Lit.int .u8 2 := fun e => by injection e with _ e; omega
    by_cases e1 : k = 1
    · subst e1
      have a1 : (((DataW.map []).put (.int .u8 1) (.lit (.int .i64 1))).put (.int .u8 2) (.lit (.int .i64 2)) : DW).atKey (.int .u8 ((1 : Nat) : Int)) (.lit (.int .i64 0)) = .lit (.int .i64 1) := (atKey_put_other ne2 _ _).trans (atKey_put_same mm hk1 _ _)
      have a2 : Maps.has (((DataW.map []).put (.int .u8 1) (.lit (.int .i64 1))).put (.int .u8 2) (.lit (.int .i64 2)) : DW) (.int .u8 ((1 : Nat) : Int)) = true := (has_put_other ne2 _).trans (has_put_same mm hk1 _)
      have hv' : fnE p v = some (.lit (.int .i64 1), ps) := hv.trans (congrArg (fun d => some (d, ps)) a1)
      rcases fnE_inv hv' with ⟨h, _⟩ | ⟨_, h⟩ | ⟨h, _⟩
      · omega
      · rw [if_pos rfl, h]
        exact congrArg (fun b => Result.ok (Value.tuple #[fnV 34 p, .bool b]) W2) a2
      · omega
    · have ne1 : (Lit.int .u8 (k : Int)) ≠ Lit.int .u8 1 := fun e => by injection e with _ e; omega
      have a1 : (((DataW.map []).put (.int .u8 1) (.lit (.int .i64 1))).put (.int .u8 2) (.lit (.int .i64 2)) : DW).atKey (.int .u8 (k : Int)) (.lit (.int .i64 0)) = .lit (.int .i64 0) := (atKey_put_other ne2 _ _).trans ((atKey_put_other ne1 _ _).trans rfl)
      have a2 : Maps.has (((DataW.map []).put (.int .u8 1) (.lit (.int .i64 1))).put (.int .u8 2) (.lit (.int .i64 2)) : DW) (.int .u8 (k : Int)) = false := (has_put_other ne2 _).trans ((has_put_other ne1 _).trans rfl)
      have hv' : fnE p v = some (.lit (.int .i64 0), ps) := hv.trans (congrArg (fun d => some (d, ps)) a1)
      rcases fnE_inv hv' with ⟨_, h⟩ | ⟨h, _⟩ | ⟨h, _⟩
      · rw [if_neg e1, if_neg e2, h]
        exact congrArg (fun b => Result.ok (Value.tuple #[Value.nilFunc, .bool b]) W2) a2
      · omega
      · omega
end Go.Proofs.Ytofdnbddpageoaa.Nm

/-! A BOOK TAKES A RECORD: Take, walked. -/
namespace Go.Proofs.Ytofdnbddpageoaa.Nm
open Go.RowKit Go.Maps

/-- what Take comes to -/
def TakeQ (S : Nat → Prop) (w : World) (p : Nat) (B : Bo) (R : Option Bo) (e : Ending) (w' : World) : Prop :=
  e = .returned (.int .i64 (if R.isSome then 0 else 4)) ∧ (∃ v1 v2 v3 Q, Bk (more S w w') w' p (R.getD B) v1 v2 v3 Q) ∧ Mod S w w'

theorem take_fin {S : Nat → Prop} {w W w' : World} {r p : Nat} {B : Bo} {R : Option Bo} {e e' : Ending} (hB : Below w.heap.size w W) (hr : w.heap.size ≤ r) (h : TkQ S W r p B R e w') (he : e' = .returned (.int .i64 (if R.isSome then 0 else 4))) : TakeQ S w p B R e' w' := by
  obtain ⟨_, ⟨v1, v2, v3, Q, hk⟩, hm⟩ := h
  refine ⟨he, ⟨v1, v2, v3, Q, hk.wide fun k h1 => ?_⟩, hm.os.trans hB.os, hm.tape.trans hB.tape, hm.output.trans hB.output, Nat.le_trans hB.size hm.size, fun k hk' hn => (hm.block k (Nat.lt_of_lt_of_le hk' hB.size) (by rintro (h1 | h1); exact hn h1; omega)).trans (hB.block k hk')⟩
  rcases h1 with h1 | h1
  · exact .inl h1
  · exact .inr ⟨Nat.le_trans hB.size h1.1, h1.2⟩

theorem take_none {S : Nat → Prop} {w W : World} {p : Nat} {B : Bo} {v1 v2 v3 : Value} {Q : List (Option Nat)} {R : Option Bo} (h : Bk S w p B v1 v2 v3 Q) (hB : Below w.heap.size w W) (hR : R = Option.none) : TakeQ S w p B R (.returned (.int .i64 4)) W := by
  subst hR
  exact ⟨rfl, ⟨_, _, _, _, (h.below hB).wide fun k hk => .inl hk⟩, Mod.ofBelow hB⟩

theorem row_tail {w : World} {a : Option Addr} {k : Nat} {t : List Nat} (h : Pk.Row w a (k :: t)) : ∃ b off, a = some ⟨b, off, Option.none⟩ ∧ b < w.heap.size ∧ w.cell? ⟨b, off, Option.none⟩ = some (.int .u8 (k : Int)) ∧ Pk.Row w (some ⟨b, off + 1, Option.none⟩) t := by
  rcases h with h | ⟨b, off, e, hb, hc⟩
  · cases h
  · refine ⟨b, off, e, hb, ?_, .inr ⟨b, off + 1, rfl, hb, fun i hi => ?_⟩⟩
    · have := hc 0 (by simp)
      simpa using this
    · have := hc (i + 1) (by simp; omega)
      rw [Nat.add_assoc, Nat.add_comm 1 i]
      simpa using this

set_option maxRecDepth 100000 in
set_option maxHeartbeats 8000000 in
theorem take_c {S : Nat → Prop} {w : World} {p : Nat} {B : Bo} {v1 v2 v3 : Value} {Q : List (Option Nat)} {a : Option Addr} {n c : Nat} {l : List Nat} (h : Bk S w p B v1 v2 v3 Q) (hrow : Pk.Row w a l) (hn : Hid (n = l.length)) (hc : n ≤ c) (hl : l.length ≤ 1000000) (hb : ∀ x ∈ l, x < 256) (hN : B.N.length < 1000000) (hSw : ∀ k, S k → k < w.heap.size) :
    Calls Try.prog 12 #[.pointer (some ⟨p, 0, Option.none⟩), .slice a n c] w (TakeQ S w p B (takeB B l)) := by
  have H := Lib.hid h
  have HSW := Lib.hid hSw
  clear hSw
  cases l with
  | nil =>
    obtain rfl : n = 0 := hn.out
    clear h hrow
    go_enter Try.func12, Try.ntmps12
    go_wp2_with fail
    go_ret
    exact take_none H.out (Below.refl _ _) rfl
  | cons k t =>
    obtain ⟨b, off, rfl, hbl, hcell, htail⟩ := row_tail hrow
    have hkl : k < 256 := hb k (by simp)
    have htb : ∀ x ∈ t, x < 256 := fun x hx => hb x (by simp [hx])
    have htl : t.length ≤ 1000000 := by simp at hl; omega
    obtain ⟨m, rfl⟩ : ∃ m, n = m + 1 := ⟨t.length, hn.out⟩
    have hm : Hid (m = t.length) := Lib.hid (by have := hn.out; simp at this; omega)
    obtain ⟨W1, W2, r1, r2, hB2, hlook⟩ := kinds_made w p
    have hlk := hlook k hkl
    have c2 : W2.cell? ⟨b, off, Option.none⟩ = some (.int .u8 (k : Int)) := (cell_of_block (hB2.block b hbl)).trans hcell
    have hmk := @run_makeMap Try.prog
    unfold fnV at r1 r2
    have HB2 := Lib.hid hB2
    have HT := Lib.hid (htail.below hB2)
    have z1 : (0 : Int) < (m : Int) + 1 := by omega
    have z2 : ¬ ((m : Int) + 1 = 0) := by omega
    have z3 : (1 : Int) ≤ (m : Int) + 1 := by omega
    have z4 : (m : Int) + 1 ≤ (c : Int) := by omega
    clear h hrow hcell htail hlook hB2 hn hb hl
    by_cases e1 : k = 1
    · subst e1
      have hlk' : (Instr.lookup 80 (.map (some w.heap.size)) (.int .u8 1) true).run Try.prog W2 = .ok (.tuple #[fnV 34 p, .bool true]) W2 := hlk
      unfold fnV at hlk'
      clear hlk
      by_cases hc1 : (1 : Int) < (c : Int)
      · have hc2 : (1 : Nat) < c := by omega
        have hnew := Pk.new_any (some ⟨b, off + 1, Option.none⟩) m (c - 1) t W2 hm HT.out (by have := hm.out; omega)
        cases hR : takeN B t with
        | none =>
          have HR : Hid (takeB B (1 :: t) = Option.none) := Lib.hid (by rw [takeB_1]; exact hR)
          go_enter Try.func12, Try.ntmps12
          go_wp2_with fail
          refine hnew.mono ?_
          rintro e W3 ⟨r, hr2, rfl, hrd, hb3⟩
          have HB3 := Lib.hid (HB2.out.trans (hb3.mono HB2.out.size))
          have hwr : Hid (w.heap.size ≤ r) := Lib.hid (by have := HB2.out.size; omega)
          have ct := takeName_c (H.out.below HB3.out) hrd (fun hs => by have := HSW.out r hs; have := HB2.out.size; omega) htl htb hN
          rw [hR] at ct
          clear hnew hr2 hrd hb3 hR
          go_wp2_with fail
          refine ct.mono ?_
          rintro e W4 ⟨rfl, hk4, hm4⟩
          have FQ := Lib.hid (show TkQ S W3 r p B Option.none _ W4 from ⟨rfl, hk4, hm4⟩)
          clear ct hk4 hm4
          go_wp2_with fail
          go_ret
          rw [HR.out]
          exact take_fin HB3.out hwr.out FQ.out rfl
        | some B1 =>
          have HR : Hid (takeB B (1 :: t) = some B1) := Lib.hid (by rw [takeB_1]; exact hR)
          go_enter Try.func12, Try.ntmps12
          go_wp2_with fail
          refine hnew.mono ?_
          rintro e W3 ⟨r, hr2, rfl, hrd, hb3⟩
          have HB3 := Lib.hid (HB2.out.trans (hb3.mono HB2.out.size))
          have hwr : Hid (w.heap.size ≤ r) := Lib.hid (by have := HB2.out.size; omega)
          have ct := takeName_c (H.out.below HB3.out) hrd (fun hs => by have := HSW.out r hs; have := HB2.out.size; omega) htl htb hN
          rw [hR] at ct
          clear hnew hr2 hrd hb3 hR
          go_wp2_with fail
          refine ct.mono ?_
          rintro e W4 ⟨rfl, hk4, hm4⟩
          have FQ := Lib.hid (show TkQ S W3 r p B (some B1) _ W4 from ⟨rfl, hk4, hm4⟩)
          clear ct hk4 hm4
          go_wp2_with fail
          go_ret
          rw [HR.out]
          exact take_fin HB3.out hwr.out FQ.out rfl
      · obtain rfl : m = 0 := by omega
        obtain rfl : c = 1 := by omega
        have ht0 : t = [] := List.eq_nil_of_length_eq_zero hm.out.symm
        subst ht0
        have hnew := Pk.new_any (some ⟨b, off, Option.none⟩) 0 0 [] W2 hm (.inl rfl) (by have := hm.out; omega)
        cases hR : takeN B [] with
        | none =>
          have HR : Hid (takeB B (1 :: []) = Option.none) := Lib.hid (by rw [takeB_1]; exact hR)
          go_enter Try.func12, Try.ntmps12
          go_wp2_with fail
          refine hnew.mono ?_
          rintro e W3 ⟨r, hr2, rfl, hrd, hb3⟩
          have HB3 := Lib.hid (HB2.out.trans (hb3.mono HB2.out.size))
          have hwr : Hid (w.heap.size ≤ r) := Lib.hid (by have := HB2.out.size; omega)
          have ct := takeName_c (H.out.below HB3.out) hrd (fun hs => by have := HSW.out r hs; have := HB2.out.size; omega) htl htb hN
          rw [hR] at ct
          clear hnew hr2 hrd hb3 hR
          go_wp2_with fail
          refine ct.mono ?_
          rintro e W4 ⟨rfl, hk4, hm4⟩
          have FQ := Lib.hid (show TkQ S W3 r p B Option.none _ W4 from ⟨rfl, hk4, hm4⟩)
          clear ct hk4 hm4
          go_wp2_with fail
          go_ret
          rw [HR.out]
          exact take_fin HB3.out hwr.out FQ.out rfl
        | some B1 =>
          have HR : Hid (takeB B (1 :: []) = some B1) := Lib.hid (by rw [takeB_1]; exact hR)
          go_enter Try.func12, Try.ntmps12
          go_wp2_with fail
          refine hnew.mono ?_
          rintro e W3 ⟨r, hr2, rfl, hrd, hb3⟩
          have HB3 := Lib.hid (HB2.out.trans (hb3.mono HB2.out.size))
          have hwr : Hid (w.heap.size ≤ r) := Lib.hid (by have := HB2.out.size; omega)
          have ct := takeName_c (H.out.below HB3.out) hrd (fun hs => by have := HSW.out r hs; have := HB2.out.size; omega) htl htb hN
          rw [hR] at ct
          clear hnew hr2 hrd hb3 hR
          go_wp2_with fail
          refine ct.mono ?_
          rintro e W4 ⟨rfl, hk4, hm4⟩
          have FQ := Lib.hid (show TkQ S W3 r p B (some B1) _ W4 from ⟨rfl, hk4, hm4⟩)
          clear ct hk4 hm4
          go_wp2_with fail
          go_ret
          rw [HR.out]
          exact take_fin HB3.out hwr.out FQ.out rfl
    · by_cases e2 : k = 2
      · subst e2
        have hlk' : (Instr.lookup 80 (.map (some w.heap.size)) (.int .u8 2) true).run Try.prog W2 = .ok (.tuple #[fnV 35 p, .bool true]) W2 := hlk
        unfold fnV at hlk'
        clear hlk
        by_cases hc1 : (1 : Int) < (c : Int)
        · have hc2 : (1 : Nat) < c := by omega
          have hnew := Pk.new_any (some ⟨b, off + 1, Option.none⟩) m (c - 1) t W2 hm HT.out (by have := hm.out; omega)
          cases hR : takeO B t with
          | none =>
            have HR : Hid (takeB B (2 :: t) = Option.none) := Lib.hid (by rw [takeB_2]; exact hR)
            go_enter Try.func12, Try.ntmps12
            go_wp2_with fail
            refine hnew.mono ?_
            rintro e W3 ⟨r, hr2, rfl, hrd, hb3⟩
            have HB3 := Lib.hid (HB2.out.trans (hb3.mono HB2.out.size))
            have hwr : Hid (w.heap.size ≤ r) := Lib.hid (by have := HB2.out.size; omega)
            have ct := takeOutput_c (H.out.below HB3.out) hrd (fun hs => by have := HSW.out r hs; have := HB2.out.size; omega) (fun hs => by have := HSW.out _ hs; have := HB2.out.size; omega) htl htb
            rw [hR] at ct
            clear hnew hr2 hrd hb3 hR
            go_wp2_with fail
            refine ct.mono ?_
            rintro e W4 ⟨rfl, hk4, hm4⟩
            have FQ := Lib.hid (show TkQ S W3 r p B Option.none _ W4 from ⟨rfl, hk4, hm4⟩)
            clear ct hk4 hm4
            go_wp2_with fail
            go_ret
            rw [HR.out]
            exact take_fin HB3.out hwr.out FQ.out rfl
          | some B1 =>
            have HR : Hid (takeB B (2 :: t) = some B1) := Lib.hid (by rw [takeB_2]; exact hR)
            go_enter Try.func12, Try.ntmps12
            go_wp2_with fail
            refine hnew.mono ?_
            rintro e W3 ⟨r, hr2, rfl, hrd, hb3⟩
            have HB3 := Lib.hid (HB2.out.trans (hb3.mono HB2.out.size))
            have hwr : Hid (w.heap.size ≤ r) := Lib.hid (by have := HB2.out.size; omega)
            have ct := takeOutput_c (H.out.below HB3.out) hrd (fun hs => by have := HSW.out r hs; have := HB2.out.size; omega) (fun hs => by have := HSW.out _ hs; have := HB2.out.size; omega) htl htb
            rw [hR] at ct
            clear hnew hr2 hrd hb3 hR
            go_wp2_with fail
            refine ct.mono ?_
            rintro e W4 ⟨rfl, hk4, hm4⟩
            have FQ := Lib.hid (show TkQ S W3 r p B (some B1) _ W4 from ⟨rfl, hk4, hm4⟩)
            clear ct hk4 hm4
            go_wp2_with fail
            go_ret
            rw [HR.out]
            exact take_fin HB3.out hwr.out FQ.out rfl
        · obtain rfl : m = 0 := by omega
          obtain rfl : c = 1 := by omega
          have ht0 : t = [] := List.eq_nil_of_length_eq_zero hm.out.symm
          subst ht0
          have hnew := Pk.new_any (some ⟨b, off, Option.none⟩) 0 0 [] W2 hm (.inl rfl) (by have := hm.out; omega)
          cases hR : takeO B [] with
          | none =>
            have HR : Hid (takeB B (2 :: []) = Option.none) := Lib.hid (by rw [takeB_2]; exact hR)
            go_enter Try.func12, Try.ntmps12
            go_wp2_with fail
            refine hnew.mono ?_
            rintro e W3 ⟨r, hr2, rfl, hrd, hb3⟩
            have HB3 := Lib.hid (HB2.out.trans (hb3.mono HB2.out.size))
            have hwr : Hid (w.heap.size ≤ r) := Lib.hid (by have := HB2.out.size; omega)
            have ct := takeOutput_c (H.out.below HB3.out) hrd (fun hs => by have := HSW.out r hs; have := HB2.out.size; omega) (fun hs => by have := HSW.out _ hs; have := HB2.out.size; omega) htl htb
            rw [hR] at ct
            clear hnew hr2 hrd hb3 hR
            go_wp2_with fail
            refine ct.mono ?_
            rintro e W4 ⟨rfl, hk4, hm4⟩
            have FQ := Lib.hid (show TkQ S W3 r p B Option.none _ W4 from ⟨rfl, hk4, hm4⟩)
            clear ct hk4 hm4
            go_wp2_with fail
            go_ret
            rw [HR.out]
            exact take_fin HB3.out hwr.out FQ.out rfl
          | some B1 =>
            have HR : Hid (takeB B (2 :: []) = some B1) := Lib.hid (by rw [takeB_2]; exact hR)
            go_enter Try.func12, Try.ntmps12
            go_wp2_with fail
            refine hnew.mono ?_
            rintro e W3 ⟨r, hr2, rfl, hrd, hb3⟩
            have HB3 := Lib.hid (HB2.out.trans (hb3.mono HB2.out.size))
            have hwr : Hid (w.heap.size ≤ r) := Lib.hid (by have := HB2.out.size; omega)
            have ct := takeOutput_c (H.out.below HB3.out) hrd (fun hs => by have := HSW.out r hs; have := HB2.out.size; omega) (fun hs => by have := HSW.out _ hs; have := HB2.out.size; omega) htl htb
            rw [hR] at ct
            clear hnew hr2 hrd hb3 hR
            go_wp2_with fail
            refine ct.mono ?_
            rintro e W4 ⟨rfl, hk4, hm4⟩
            have FQ := Lib.hid (show TkQ S W3 r p B (some B1) _ W4 from ⟨rfl, hk4, hm4⟩)
            clear ct hk4 hm4
            go_wp2_with fail
            go_ret
            rw [HR.out]
            exact take_fin HB3.out hwr.out FQ.out rfl
      · have hlk' : (Instr.lookup 80 (.map (some w.heap.size)) (.int .u8 (k : Int)) true).run Try.prog W2 = .ok (.tuple #[.nilFunc, .bool false]) W2 := by
          rw [hlk]
          unfold kindV
          rw [if_neg e1, if_neg e2]
        have hR : Hid (takeB B (k :: t) = Option.none) := Lib.hid (by show (if k = 1 then takeN B t else if k = 2 then takeO B t else Option.none) = _; rw [if_neg e1, if_neg e2])
        clear hlk e1 e2
        go_enter Try.func12, Try.ntmps12
        go_wp2_with fail
        go_ret
        exact take_none H.out HB2.out hR.out
end Go.Proofs.Ytofdnbddpageoaa.Nm
