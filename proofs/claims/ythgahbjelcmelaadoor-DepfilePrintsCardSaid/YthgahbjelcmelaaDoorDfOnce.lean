/-
  EACH ONCE: walked.
-/
import Derived.Test.YthgahbjelcmelaaDoorDfOnly
import Derived.StringKeys
import Derived.Maps.OwnSet
namespace Go.Proofs.YthgahbjelcmelaaDoor.Df
open Go.RowKit Go.Maps Go.Proofs.YthgahbjelcmelaaDoor

abbrev DW := DataW Unit
def upd {A B : Type} [DecidableEq A] (f : A → B) (a : A) (b : B) : A → B := fun x => if x = a then b else f x
theorem law9 : Keyed Tryd.prog 9 := string_keyed Tryd.underlying9
theorem keyS {s : Bs} (h : s.length ≤ maxLen) : keyOf Tryd.prog 9 (.string (mk s)) = some (.string s) :=
  WideMaps.keyOf_string_mk (P := Tryd.prog) Tryd.underlying9 (s := mk s) (by rw [mk_size]; exact h)

noncomputable def setE (v : Value) : Option (DW × List MemPlace) :=
  @ite _ (v = .agg #[]) (Classical.propDecidable _) (some (.lit (.int .i64 0), [])) Option.none
theorem setE_at : setE (.agg #[]) = some (.lit (.int .i64 0), []) := by
  unfold setE
  rw [@if_pos _ (Classical.propDecidable _) rfl]
theorem setE_inv {v : Value} {z : DW × List MemPlace} (h : setE v = some z) : v = .agg #[] := by
  unfold setE at h
  by_cases h0 : v = .agg #[]
  · exact h0
  · rw [@if_neg _ (Classical.propDecidable _) h0] at h; cases h
theorem zeroSt (w : World) : (zeroValue 63).run Tryd.prog w = .ok (.agg #[]) w := by kernel_rfl

/-- block m is a map of at most n texts: those of f -/
def Si (w : World) (n m : Nat) (f : Bs → Bool) : Prop :=
  ∃ D : DW, w.ownsMap Tryd.prog 9 setE m n D ∧ (∀ l, Maps.has D (.string l) = f l)
section
variable {w w' : World} {n m : Nat} {f : Bs → Bool}
theorem Si.lt (h : Si w n m f) : m < w.heap.size := by obtain ⟨D, h, _⟩ := h; exact h.lt
theorem Si.map (h : Si w n m f) : ∃ es c, w.heap[m]? = some (.map es c) := by obtain ⟨D, ⟨es, c, h, _⟩, _⟩ := h; exact ⟨es, c, h⟩
theorem Si.kept (h : Si w n m f) (hb : w'.heap[m]? = w.heap[m]?) : Si w' n m f := by
  obtain ⟨D, ⟨es, c, hm, r1, r2, r3⟩, r⟩ := h
  exact ⟨D, ⟨es, c, hb.trans hm, r1, r2, r3⟩, r⟩
theorem Si.made (w : World) : Si (w.alloc (.map #[] 0)) 0 w.heap.size (fun _ => false) := ⟨.map [], World.ownsMap_made _ _ _ _, fun _ => rfl⟩
theorem Si.look (h : Si w n m f) {s : Bs} (hl : s.length ≤ maxLen) :
    (Instr.lookup 62 (.map (some m)) (.string (mk s)) true).run Tryd.prog w = .ok (.tuple #[.agg #[], .bool (f s)]) w := by
  obtain ⟨D, hD, hhas⟩ := h
  obtain ⟨v, ps, hrun, hv⟩ := hD.look_ok law9 Tryd.underlying62 (zeroSt w) (zd := .lit (.int .i64 0)) (zp := []) setE_at (keyS hl)
  rw [setE_inv hv, hhas] at hrun
  exact hrun
theorem Si.put (h : Si w n m f) (hn : n < maxLen) {s : Bs} (hl : s.length ≤ maxLen) :
    ∃ w', (Instr.mapUpdate 62 (.map (some m)) (.string (mk s)) (.agg #[])).run Tryd.prog w = .ok () w' ∧ Si w' (n + 1) m (upd f s true) ∧ w.grownBy w' (some m) ∧ w'.heap.size = w.heap.size := by
  obtain ⟨D, hD, hhas⟩ := h
  obtain ⟨w', hrun, ho, ht⟩ := hD.store law9 Tryd.underlying62 hn (val := .agg #[]) (d := .lit (.int .i64 0)) (ps := []) (keyS hl) setE_at
  have hk : WideAt.IsKeyLit (.string s) := law9.key (keyS hl)
  refine ⟨w', hrun, ⟨_, ho, fun x => ?_⟩, ht.grown, ?_⟩
  · by_cases hx : x = s
    · subst hx; rw [has_put_same hD.isMap hk, upd, if_pos rfl]
    · rw [has_put_other (by intro e; cases e; exact hx rfl), upd, if_neg hx, hhas]
  · obtain ⟨es, c, es', c', _, rfl⟩ := ht
    simp [Go.ChangeMaps.setBlock]
end

theorem once_snoc (L : List Bs) (x : Bs) : onceL (L ++ [x]) = if (onceL L).contains x then onceL L else onceL L ++ [x] := by unfold onceL; simp
theorem once_take {L : List Bs} {j : Nat} {x : Bs} (h : L[j]? = some x) : onceL (L.take (j + 1)) = if (onceL (L.take j)).contains x then onceL (L.take j) else onceL (L.take j) ++ [x] := by
  rw [List.take_add_one, h]
  exact once_snoc _ _
theorem once_len : ∀ (n : Nat) (L : List Bs), L.length = n → (onceL L).length ≤ L.length := by
  intro n
  induction n with
  | zero => intro L h; obtain rfl : L = [] := List.eq_nil_of_length_eq_zero h; simp [onceL]
  | succ n ih =>
    intro L h
    rcases List.eq_nil_or_concat L with rfl | ⟨K, x, rfl⟩
    · simp at h
    · rw [List.concat_eq_append] at h ⊢
      have := ih K (by simp at h; exact h)
      rw [once_snoc]
      split
      · simp; omega
      · simp; exact this
theorem has_snoc (L : List Bs) (x : Bs) : upd (fun l => L.contains l) x true = fun l => (L ++ [x]).contains l := by
  funext l
  unfold upd
  by_cases h : l = x
  · subst h; simp
  · rw [if_neg h]; simp [h]

theorem map_ne {w : World} {p m : Nat} {C : Array Value} {t : TypeId} {fr : Nat × Nat} {es : Array MapEntry} {c : Nat} (h : w.heap[p]? = some (.cells C t fr)) (h' : w.heap[m]? = some (.map es c)) : p ≠ m := by
  rintro rfl
  rw [h] at h'
  cases h'

theorem str_run {w : World} {base : Nat} {a : Option Addr} {c : Nat} {K : List Bs} {p : Bs} (h : w.ownsRow base 9 1 (.slice a K.length c) K.length (strV K)) (hbw : base ≤ w.heap.size) (hK : K.length ≤ 1000000) :
    ∃ a' c' w', (Builtin.append_ #[22, 22] 22 #[.slice a K.length c, .slice (some ⟨w.heap.size, 0, none⟩) 1 1]).run Tryd.prog (w.alloc (.cells #[.string (mk p)] 9)) = .ok (.slice a' (K ++ [p]).length c') w' ∧
      w'.ownsRow base 9 1 (.slice a' (K ++ [p]).length c') (K ++ [p]).length (strV (K ++ [p])) ∧ (w.alloc (.cells #[.string (mk p)] 9)).grownBy w' (Value.slice a K.length c).ownBlock := by
  obtain ⟨i0, hi, hz0, hz1, hz2⟩ := info_parts info9
  have hb1 := below_alloc w (.cells #[.string (mk p)] 9)
  have h1 := owns_below h hb1
  obtain ⟨v', w', hrun, hown, hg, _⟩ := run_append_own (P := Tryd.prog) (w.alloc (.cells #[.string (mk p)] 9)) base 22 22 9 i0 (.string ⟨#[]⟩) 1 16 Tryd.underlying22 hi hz0 hz1 hz2 rfl (by decide) _ _ (strV K) h1 ⟨w.heap.size, 0, none⟩ 1 1 [.string (mk p)] rfl (cell_one_new _ _ _) (by simp [Value.oneCell']) (by unfold maxLen; omega) (by omega) (by have := hb1.size; omega)
  have e : (K ++ [p]).length = K.length + 1 := by simp
  have h3 : w'.ownsRow base 9 1 v' (K ++ [p]).length (strV (K ++ [p])) := by rw [strV_snoc, e]; exact hown
  obtain ⟨a', c', rfl⟩ := owns_len h3
  exact ⟨a', c', w', hrun, h3, hg⟩
theorem wpList_run {ops : Array Oper} {rest : List Oper} {o : Oper} {a : Act} {w w' : World} {Q : Exit → Act → World → Prop} (hgd : o.guard = none) (s x : Operand) {t u : TypeId}
    (ho : o.op = .call { callee := .builtin .append, args := #[s, x], argTypes := #[t, u] }) {v src v' : Value} (hs : a.eval s = v) (hx : a.eval x = src)
    (hr : (Builtin.append_ #[t, u] o.type #[v, src]).run Tryd.prog w = .ok v' w') (h : wpList Tryd.prog ops Q rest (a.put o.dst v') w') : wpList Tryd.prog ops Q (o :: rest) a w := by
  refine wpList_plain hgd fun K hK => ?_
  unfold Oper.wp execOp
  simp only [ho, resolve, invoke, builtin, Sem.run_bind, Sem.run_pure, Result.andThen_ok, List.map_toArray, List.map_cons, List.map_nil, hs, hx, hr]
  exact hK _ _ h

set_option maxRecDepth 100000 in
set_option maxHeartbeats 4000000 in
theorem once_c {w : World} {v : Value} {L : List Bs} (h : Strs w v L) (hL : L.length ≤ 900000) (hx : ∀ x ∈ L, x.length ≤ 1000000) :
    Calls Tryd.prog 16 #[v] w fun e w' => ∃ v', e = .returned v' ∧ w'.ownsRow w.heap.size 9 1 v' (onceL L).length (strV (onceL L)) ∧ Below w.heap.size w w' := by
  obtain ⟨i0, hi, hz0, hz1, hz2⟩ := info_parts info9
  have hmk := @run_makeMap Tryd.prog
  have HS := Lib.hid h
  have HX := Lib.hid hx
  obtain ⟨a, c, rfl, hc, -⟩ := h
  obtain ⟨w1, hw1⟩ : ∃ W, w.alloc (.map #[] 0) = W := ⟨_, rfl⟩
  have hb1 : Below w.heap.size w w1 := by rw [← hw1]; exact below_alloc _ _
  have hm1 : Si w1 0 w.heap.size (fun _ => false) := by rw [← hw1]; exact Si.made w
  obtain ⟨m, hm⟩ : ∃ m, w.heap.size = m := ⟨_, rfl⟩
  have HM := Lib.hid hm
  have HB1 := Lib.hid hb1
  have S0 : Hid (Si w1 0 m (fun l => (onceL (L.take 0)).contains l)) := Lib.hid (by rw [← hm]; exact hm1)
  clear hb1 hm1 hx
  go_enter Tryd.func16, Tryd.ntmps16
  go_wp2_with fail
  clear hm
  go_loopw [4, 6, 7, 8, 12] (fun o _ _ _ i wr => ∃ (j k : Nat), j ≤ L.length ∧ k ≤ j ∧ i = .int .i64 j ∧ ∃ (oa : Option Addr) (oc : Nat), o = .slice oa (onceL (L.take j)).length oc ∧ Hid (wr.ownsRow w.heap.size 9 1 (.slice oa (onceL (L.take j)).length oc) (onceL (L.take j)).length (strV (onceL (L.take j)))) ∧ Hid (Si wr k m (fun l => (onceL (L.take j)).contains l)) ∧ Hid (Below w.heap.size w wr)) (fun _ _ _ _ i _ => L.length - (intOf i).toNat)
  case atStart => exact ⟨0, 0, Nat.zero_le _, Nat.le_refl _, rfl, none, 0, rfl, Lib.hid (World.ownsRow_nil _ _ _ _), S0, HB1⟩
  case round =>
    obtain ⟨j, k, hj, hk, rfl, oa, oc, rfl, hR, hS, hB⟩ := hrel
    clear S0
    by_cases hlt : j < L.length
    · have hxj := List.getElem?_eq_getElem hlt
      have hxl := HX.out _ (List.getElem_mem hlt)
      have HOT := Lib.hid (once_take hxj)
      obtain ⟨_, _, e, _, hrow⟩ := HS.out.below hB.out
      cases e
      rcases hrow with h0 | ⟨g, off, rfl, hg, hcell⟩
      · rw [h0] at hlt; simp at hlt
      have c0 := hcell j _ hxj
      generalize L[j] = x at *
      have hlk := hS.out.look (s := x) (by unfold maxLen; omega)
      obtain ⟨z, hz⟩ : ∃ z, (onceL (L.take j)).contains x = z := ⟨_, rfl⟩
      have HLN : Hid ((onceL (L.take j)).length ≤ 900000) := Lib.hid (by have := once_len _ (L.take j) rfl; rw [List.length_take] at this; omega)
      generalize onceL (L.take j) = O at *
      rw [hz] at hlk HOT
      have HZ := Lib.hid hz
      have hi0 : (0 : Int) ≤ (j : Int) := by omega
      have hi1 : (j : Int) < (L.length : Int) := by omega
      clear hcell hxj hz
      cases z with
      | true =>
        rw [if_pos rfl] at HOT
        have hA := below_alloc wr (.cells #[] 63)
        have HR2 : Hid ((wr.alloc (.cells #[] 63)).ownsRow w.heap.size 9 1 (.slice oa O.length oc) O.length (strV O)) := Lib.hid (owns_below hR.out hA)
        have HS2 : Hid (Si (wr.alloc (.cells #[] 63)) k m (fun l => O.contains l)) := Lib.hid (hS.out.kept (hA.block _ hS.out.lt))
        have HB2 : Hid (Below w.heap.size w (wr.alloc (.cells #[] 63))) := Lib.hid (hB.out.trans (hA.mono hB.out.size))
        clear hA
        go_wp2_with fail
        go_roundw
        case rel => exact ⟨j + 1, k, by omega, by omega, by go_num, oa, oc, by rw [HOT.out], by rw [HOT.out]; exact HR2, by rw [HOT.out]; exact HS2, HB2⟩
        case measure => simp [intOf]; omega
      | false =>
        rw [if_neg (by decide)] at HOT
        have hA := below_alloc wr (.cells #[] 63)
        obtain ⟨w2, hw2⟩ : ∃ W, wr.alloc (.cells #[] 63) = W := ⟨_, rfl⟩
        rw [hw2] at hA
        have hR2 := owns_below hR.out hA
        have hS2 := hS.out.kept (hA.block _ hS.out.lt)
        have hB2 := hB.out.trans (hA.mono hB.out.size)
        obtain ⟨w3, hput, hS3, hg3, hz3⟩ := hS2.put (by unfold maxLen; omega) (s := x) (by unfold maxLen; omega)
        rw [has_snoc] at hS3
        obtain ⟨es, cm, hmap⟩ := hS2.map
        have hR3 : w3.ownsRow w.heap.size 9 1 (.slice oa O.length oc) O.length (strV O) := owns_kept hR2 fun g hgk => by
          obtain ⟨_, cur, hcur⟩ := owns_block hR2 hgk
          exact hg3.block g (lt_some hcur) (fun e => map_ne hcur hmap (Option.some.inj e))
        have hB3 : Below w.heap.size w w3 := hB2.trans ⟨hg3.os, hg3.tape, hg3.output, hg3.size, fun q hq => hg3.block q (by have := hB2.size; omega) (fun e => by have := Option.some.inj e; have := HM.out; omega)⟩
        obtain ⟨a4, c4, w4, hrun, hR4, hg4⟩ := str_run (p := x) hR3 hB3.size (by have := HLN.out; omega)
        have hA3 := below_alloc w3 (.cells #[.string (mk x)] 9)
        obtain ⟨es3, cm3, hmap3⟩ := hS3.map
        have hS4 : Si w4 (k + 1) m (fun l => (O ++ [x]).contains l) := hS3.kept ((hg4.block m (Nat.lt_of_lt_of_le hS3.lt hA3.size) (fun e => by
          obtain ⟨_, cur, hcur⟩ := owns_block hR3 e.symm
          exact map_ne hcur hmap3 rfl)).trans (hA3.block m hS3.lt))
        have hB4 : Below w.heap.size w w4 := (hB3.trans (hA3.mono hB3.size)).trans ⟨hg4.os, hg4.tape, hg4.output, hg4.size, fun q hq => hg4.block q (by have := hB3.size; have := hA3.size; omega) (fun e => by
          have := (owns_block hR3 e.symm).1
          omega)⟩
        have HR4 := Lib.hid hR4
        have HS4 := Lib.hid hS4
        have HB4 := Lib.hid hB4
        have HRUN := Lib.hid hrun
        clear hA hR2 hS2 hB2 hS3 hg3 hz3 hmap hmap3 hR3 hB3 hR4 hg4 hA3 hS4 hB4 hrun
        go_wp2_with (at_builtin; refine wpList_run rfl (.tmp 27) (.tmp 29) rfl rfl rfl HRUN.out ?_)
        go_roundw
        case rel => exact ⟨j + 1, k + 1, by omega, by omega, by go_num, a4, c4, by rw [HOT.out]; simp, by rw [HOT.out]; exact HR4, by rw [HOT.out]; exact HS4, HB4⟩
        case measure => simp [intOf]; omega
    · obtain rfl : j = L.length := by omega
      rw [List.take_length] at hR ⊢
      go_wp2_with fail
      go_ret
      exact ⟨_, rfl, hR.out, hB.out⟩
end Go.Proofs.YthgahbjelcmelaaDoor.Df
