/-
  A COMMAND's WORDS; sets of names; rows of names that grow.
-/
import Derived.Test.YtgledabcfonbeaaGreatDoorCkJ4
import Derived.Test.YtgledabcfonbeaaGreatDoorCkJ3
import Derived.StringKeys
import Derived.Maps.OwnSet
namespace Go.Proofs.YtgledabcfonbeaaGreatDoor.Df
open Go.RowKit Go.Maps Go.Proofs.YtgledabcfonbeaaGreatDoor

abbrev DW := DataW Unit
def upd {A B : Type} [DecidableEq A] (f : A → B) (a : A) (b : B) : A → B := fun x => if x = a then b else f x
theorem law9 : Keyed Tryz.prog 9 := string_keyed Tryz.underlying9
theorem keyS {s : Bs} (h : s.length ≤ maxLen) : keyOf Tryz.prog 9 (.string (mk s)) = some (.string s) :=
  WideMaps.keyOf_string_mk (P := Tryz.prog) Tryz.underlying9 (s := mk s) (by rw [mk_size]; exact h)

noncomputable def setE (v : Value) : Option (DW × List MemPlace) :=
  @ite _ (v = .agg #[]) (Classical.propDecidable _) (some (.lit (.int .i64 0), [])) Option.none
theorem setE_at : setE (.agg #[]) = some (.lit (.int .i64 0), []) := by
  unfold setE
  rw [@if_pos _ (Classical.propDecidable _) rfl]
theorem setE_inv {v : Value} {z : DW × List MemPlace} (h : setE v = some z) : v = .agg #[] := by
  unfold setE at h
  by_cases h0 : v = .agg #[]
  · exact h0
  · rw [@if_neg _ (Classical.propDecidable _) h0] at h; cases h
theorem zeroSt (w : World) : (zeroValue 85).run Tryz.prog w = .ok (.agg #[]) w := by kernel_rfl

/-- block m is a map of at most n texts: those of f -/
def Si (w : World) (n m : Nat) (f : Bs → Bool) : Prop :=
  ∃ D : DW, w.ownsMap Tryz.prog 9 setE m n D ∧ (∀ l, Maps.has D (.string l) = f l)
section
variable {w w' : World} {n m : Nat} {f : Bs → Bool}
theorem Si.lt (h : Si w n m f) : m < w.heap.size := by obtain ⟨D, h, _⟩ := h; exact h.lt
theorem Si.map (h : Si w n m f) : ∃ es c, w.heap[m]? = some (.map es c) := by obtain ⟨D, ⟨es, c, h, _⟩, _⟩ := h; exact ⟨es, c, h⟩
theorem Si.kept (h : Si w n m f) (hb : w'.heap[m]? = w.heap[m]?) : Si w' n m f := by
  obtain ⟨D, ⟨es, c, hm, r1, r2, r3⟩, r⟩ := h
  exact ⟨D, ⟨es, c, hb.trans hm, r1, r2, r3⟩, r⟩
theorem Si.made (w : World) : Si (w.alloc (.map #[] 0)) 0 w.heap.size (fun _ => false) := ⟨.map [], World.ownsMap_made _ _ _ _, fun _ => rfl⟩
theorem Si.look (h : Si w n m f) {s : Bs} (hl : s.length ≤ maxLen) :
    (Instr.lookup 81 (.map (some m)) (.string (mk s)) true).run Tryz.prog w = .ok (.tuple #[.agg #[], .bool (f s)]) w := by
  obtain ⟨D, hD, hhas⟩ := h
  obtain ⟨v, ps, hrun, hv⟩ := hD.look_ok law9 Tryz.underlying81 (zeroSt w) (zd := .lit (.int .i64 0)) (zp := []) setE_at (keyS hl)
  rw [setE_inv hv, hhas] at hrun
  exact hrun
theorem Si.put (h : Si w n m f) (hn : n < maxLen) {s : Bs} (hl : s.length ≤ maxLen) :
    ∃ w', (Instr.mapUpdate 81 (.map (some m)) (.string (mk s)) (.agg #[])).run Tryz.prog w = .ok () w' ∧ Si w' (n + 1) m (upd f s true) ∧ w.grownBy w' (some m) ∧ w'.heap.size = w.heap.size := by
  obtain ⟨D, hD, hhas⟩ := h
  obtain ⟨w', hrun, ho, ht⟩ := hD.store law9 Tryz.underlying81 hn (val := .agg #[]) (d := .lit (.int .i64 0)) (ps := []) (keyS hl) setE_at
  have hk : WideAt.IsKeyLit (.string s) := law9.key (keyS hl)
  refine ⟨w', hrun, ⟨_, ho, fun x => ?_⟩, ht.grown, ?_⟩
  · by_cases hx : x = s
    · subst hx; rw [has_put_same hD.isMap hk, upd, if_pos rfl]
    · rw [has_put_other (by intro e; cases e; exact hx rfl), upd, if_neg hx, hhas]
  · obtain ⟨es, c, es', c', _, rfl⟩ := ht
    simp [Go.ChangeMaps.setBlock]
end

theorem map_ne {w : World} {p m : Nat} {C : Array Value} {t : TypeId} {fr : Nat × Nat} {es : Array MapEntry} {c : Nat} (h : w.heap[p]? = some (.cells C t fr)) (h' : w.heap[m]? = some (.map es c)) : p ≠ m := by
  rintro rfl
  rw [h] at h'
  cases h'

theorem str_run {w : World} {base : Nat} {a : Option Addr} {c : Nat} {K : List Bs} {p : Bs} (h : w.ownsRow base 9 1 (.slice a K.length c) K.length (strV K)) (hbw : base ≤ w.heap.size) (hK : K.length ≤ 1000000) :
    ∃ a' c' w', (Builtin.append_ #[32, 32] 32 #[.slice a K.length c, .slice (some ⟨w.heap.size, 0, none⟩) 1 1]).run Tryz.prog (w.alloc (.cells #[.string (mk p)] 9)) = .ok (.slice a' (K ++ [p]).length c') w' ∧
      w'.ownsRow base 9 1 (.slice a' (K ++ [p]).length c') (K ++ [p]).length (strV (K ++ [p])) ∧ (w.alloc (.cells #[.string (mk p)] 9)).grownBy w' (Value.slice a K.length c).ownBlock := by
  obtain ⟨i0, hi, hz0, hz1, hz2⟩ := info_parts info9
  have hb1 := below_alloc w (.cells #[.string (mk p)] 9)
  have h1 := owns_below h hb1
  obtain ⟨v', w', hrun, hown, hg, _⟩ := run_append_own (P := Tryz.prog) (w.alloc (.cells #[.string (mk p)] 9)) base 32 32 9 i0 (.string ⟨#[]⟩) 1 16 Tryz.underlying32 hi hz0 hz1 hz2 rfl (by decide) _ _ (strV K) h1 ⟨w.heap.size, 0, none⟩ 1 1 [.string (mk p)] rfl (cell_one_new _ _ _) (by simp [Value.oneCell']) (by unfold maxLen; omega) (by omega) (by have := hb1.size; omega)
  have e : (K ++ [p]).length = K.length + 1 := by simp
  have h3 : w'.ownsRow base 9 1 v' (K ++ [p]).length (strV (K ++ [p])) := by rw [strV_snoc, e]; exact hown
  obtain ⟨a', c', rfl⟩ := owns_len h3
  exact ⟨a', c', w', hrun, h3, hg⟩
theorem wpList_run {ops : Array Oper} {rest : List Oper} {o : Oper} {a : Act} {w w' : World} {Q : Exit → Act → World → Prop} (hgd : o.guard = none) (s x : Operand) {t u : TypeId}
    (ho : o.op = .call { callee := .builtin .append, args := #[s, x], argTypes := #[t, u] }) {v src v' : Value} (hs : a.eval s = v) (hx : a.eval x = src)
    (hr : (Builtin.append_ #[t, u] o.type #[v, src]).run Tryz.prog w = .ok v' w') (h : wpList Tryz.prog ops Q rest (a.put o.dst v') w') : wpList Tryz.prog ops Q (o :: rest) a w := by
  refine wpList_plain hgd fun K hK => ?_
  unfold Oper.wp execOp
  simp only [ho, resolve, invoke, builtin, Sem.run_bind, Sem.run_pure, Result.andThen_ok, List.map_toArray, List.map_cons, List.map_nil, hs, hx, hr]
  exact hK _ _ h

set_option maxRecDepth 100000 in
theorem blank_f (W : World) (x : Nat) : Calls Tryz.prog 42 #[.int .i32 (x : Int)] W fun e w' => e = .returned (.bool (x == 32)) ∧ ∃ q, w' = W.drewN q := by
  have h1 : decide ((x : Int) = 32) = (x == 32) := by rw [Bool.eq_iff_iff, decide_eq_true_iff, beq_iff_eq]; omega
  go_enter Tryz.func42, Tryz.ntmps42
  go_wp2_with fail
  go_ret
  refine ⟨?_, 0, rfl⟩
  rw [← h1]
  first | rfl | simp [BEq.beq]

set_option maxRecDepth 100000 in
theorem pred_blank (w : World) : PredAtRunes Tryz.prog 42 #[] (fun n => n == 32) w := fun W x _ _ => blank_f W x

set_option maxRecDepth 100000 in
theorem fields_c (s : Bs) (hs : s.length ≤ 4294967296) (w : World) :
    Calls Tryz.prog 43 #[.string (mk s), .func (.func 42) #[] #[]] w fun e w' => ∃ A, e = .returned (.slice (some ⟨A, 0, none⟩) (words [] s).length (words [] s).length) ∧ w.heap.size ≤ A ∧
      w'.ownsRow w.heap.size 9 1 (.slice (some ⟨A, 0, none⟩) (words [] s).length (words [] s).length) (words [] s).length (strV (words [] s)) ∧ Below w.heap.size w w' := by
  refine (shstringsFieldsFuncrunes 42 #[] (fun _ _ => rfl) (fun n => n == 32) (mk s) w (by rw [mk_size]; exact hs) (pred_blank w)).mono ?_
  rintro e w' ⟨A, rfl, hA, hown, hb⟩
  rw [fields_mk, List.length_map] at hown ⊢
  refine ⟨A, rfl, hA, ?_, hb⟩
  rw [List.map_map] at hown
  exact hown

theorem words_len : ∀ (p cur : Bs), (words cur p).length ≤ p.length + (if cur = [] then 0 else 1)
  | [], cur => by rw [words, fl]; split <;> simp
  | b :: r, cur => by
    rw [words]
    split
    · have h1 := words_len r []
      have h2 : (fl cur).length ≤ if cur = [] then 0 else 1 := by rw [fl]; split <;> simp
      rw [List.length_append, List.length_cons]
      simp at h1
      omega
    · have h1 := words_len r (cur ++ [b])
      rw [if_neg (by simp)] at h1
      rw [List.length_cons]
      omega
theorem words_lens : ∀ (p cur x : Bs), x ∈ words cur p → x.length ≤ cur.length + p.length
  | [], cur, x, hx => by
    rw [words] at hx
    obtain ⟨rfl, _⟩ := fl_mem hx
    simp
  | b :: r, cur, x, hx => by
    rw [words] at hx
    split at hx
    · rcases List.mem_append.1 hx with hx | hx
      · obtain ⟨rfl, _⟩ := fl_mem hx; simp
      · have := words_lens r [] x hx; simp at this ⊢; omega
    · have := words_lens r _ x hx; simp at this ⊢; omega

theorem lt_of_cell {w : World} {p : Addr} {v : Value} (h : w.cell? p = some v) : p.block < w.heap.size := by
  rcases Nat.lt_or_ge p.block w.heap.size with h' | h'
  · exact h'
  · simp [World.cell?, Array.getElem?_eq_none h'] at h

end Go.Proofs.YtgledabcfonbeaaGreatDoor.Df

/-! THE SMALL FUNCTIONS: need, words, verbs, cut, names that are paths, and differ. -/
namespace Go.Proofs.YtgledabcfonbeaaGreatDoor.Df
open Go.RowKit Go.Maps Go.Proofs.YtgledabcfonbeaaGreatDoor

/-! ### need -/
/-- what a command that fails panics with -/
def pz : Value := .iface 72 (.agg #[.int .i64 13])
theorem need_t (w : World) : Calls Tryz.prog 32 #[.bool true] w fun e w' => e = .returned (.tuple #[]) ∧ w = w' := by
  go_enter Tryz.func32, Tryz.ntmps32
  go_wp2_with fail
  go_end0
  exact ⟨rfl, rfl⟩

/-! ### a command's words -/
set_option maxRecDepth 100000 in
set_option maxHeartbeats 4000000 in
theorem wordsOf_c (s : Bs) (hs : s.length ≤ 1000000) (w : World) : Calls Tryz.prog 30 #[.string (mk s)] w fun e w' => ∃ v, e = .returned v ∧ w'.ownsRow w.heap.size 9 1 v (words [] s).length (strV (words [] s)) ∧ Below w.heap.size w w' := by
  have hf := fields_c s (by omega) w
  have hwl := words_len s []
  have hws := words_lens s []
  simp only [if_true] at hwl
  generalize words [] s = ws at *
  have hWL : ws.length ≤ 1000000 := by omega
  have HWS := Lib.hid hws
  clear hws hwl
  go_enter Tryz.func30, Tryz.ntmps30
  go_wp2_with fail
  refine hf.mono ?_
  rintro e w1 ⟨A, rfl, hA, hown, hb⟩
  have HO := Lib.hid hown
  have HB := Lib.hid hb
  have HA := Lib.hid hA
  clear hf hown hb hA
  go_wp2_with fail
  go_loopw [5, 6, 12] (fun _ _ i wr => ∃ j : Nat, j ≤ ws.length ∧ i = .int .i64 j ∧ Hid (wr.ownsRow w.heap.size 9 1 (.slice (some ⟨A, 0, none⟩) ws.length ws.length) ws.length (strV ws)) ∧ Hid (Below w.heap.size w wr)) (fun _ _ i _ => ws.length - (intOf i).toNat)
  case atStart => exact ⟨0, Nat.zero_le _, rfl, HO, HB⟩
  case round =>
    obtain ⟨j, hj, rfl, hR, hBw⟩ := hrel
    by_cases hlt : j < ws.length
    · have hx := List.getElem?_eq_getElem hlt
      have hsm := HWS.out _ (List.getElem_mem hlt)
      have hset : (strV ws).set j (.string (mk ws[j])) = strV ws := by
        refine List.ext_getElem? fun k => ?_
        rw [List.getElem?_set]
        split
        · rename_i e
          subst e
          rw [if_pos (by rw [strV_length]; exact hlt)]
          simp [strV, hlt]
        · rfl
      generalize ws[j] = x at *
      have HSET := Lib.hid hset
      have c0 : wr.cell? ⟨A, j, none⟩ = some (.string (mk x)) := by
        have h1 : (strV ws)[j]? = some (.string (mk x)) := by unfold strV; rw [List.getElem?_map, hx]; rfl
        exact (hR.out.cellAt j (by omega)).trans h1
      have cc := clone_c (mk x) wr (by rw [mk_size]; simp at hsm; omega)
      have hi0 : (0 : Int) ≤ (j : Int) := by omega
      have hi1 : (j : Int) < (ws.length : Int) := by omega
      clear hx hsm hset
      go_wp2_with fail
      refine cc.mono ?_
      rintro e w2 ⟨rfl, hb2⟩
      have hR2 := owns_below hR.out hb2
      have f0 := hR2.frozenAt j
      obtain ⟨u, c2⟩ : ∃ u, w2.cell? ⟨A, j, none⟩ = some u := ⟨_, (cell_of_block (hb2.block A (lt_of_cell c0))).trans c0⟩
      obtain ⟨hR3, hg3⟩ := hR2.stored j (.string (mk x))
      rw [HSET.out] at hR3
      have HR3 := Lib.hid hR3
      have HB3 : Hid (Below w.heap.size w (w2.setCell ⟨A, j, none⟩ (.string (mk x)))) := Lib.hid ((hBw.out.trans (hb2.mono hBw.out.size)).trans ⟨hg3.os, hg3.tape, hg3.output, hg3.size, fun k hk => hg3.block k (by have := hBw.out.size; have := hb2.size; omega) (fun e => by have := Option.some.inj e; have := HA.out; omega)⟩)
      clear cc hb2 hR2 hR3 hg3 c0
      go_wp2_with fail
      go_roundw
      case rel => exact ⟨j + 1, by omega, by go_num, HR3, HB3⟩
      case measure => simp [intOf] <;> omega
    · obtain rfl : j = ws.length := by omega
      go_wp2_with fail
      go_ret
      exact ⟨_, rfl, hR.out, hBw.out⟩

/-! ### a map of functions -/
noncomputable def funE (v : Value) : Option (DW × List MemPlace) :=
  @ite _ (v = .nilFunc) (Classical.propDecidable _) (some (.lit (.int .i64 (-1)), []))
    (@dite _ (∃ n : Nat, v = .func (.func n) #[] #[]) (Classical.propDecidable _) (fun h => some (.lit (.int .i64 (Classical.choose h : Nat)), [])) (fun _ => none))
theorem funE_nil : funE .nilFunc = some (.lit (.int .i64 (-1)), []) := by
  unfold funE
  rw [@if_pos _ (Classical.propDecidable _) rfl]
theorem funE_at (n : Nat) : funE (.func (.func n) #[] #[]) = some (.lit (.int .i64 n), []) := by
  have h : ∃ k : Nat, (Value.func (.func n) #[] #[]) = .func (.func k) #[] #[] := ⟨n, rfl⟩
  unfold funE
  rw [@if_neg _ (Classical.propDecidable _) (by intro e; cases e), @dif_pos _ (Classical.propDecidable _) h]
  have := Classical.choose_spec h
  injection this with e
  injection e with e
  rw [← e]
theorem funE_inv {v : Value} {n : Nat} {ps : List MemPlace} (h : funE v = some (.lit (.int .i64 n), ps)) : v = .func (.func n) #[] #[] := by
  unfold funE at h
  by_cases h0 : v = .nilFunc
  · rw [@if_pos _ (Classical.propDecidable _) h0] at h
    injection h with h
    injection h with h _
    injection h with h
    injection h with _ h
    omega
  · rw [@if_neg _ (Classical.propDecidable _) h0] at h
    by_cases h1 : ∃ n : Nat, v = .func (.func n) #[] #[]
    · rw [@dif_pos _ (Classical.propDecidable _) h1] at h
      injection h with h
      injection h with h _
      injection h with h
      injection h with _ h
      have hs := Classical.choose_spec h1
      have e : Classical.choose h1 = n := by omega
      rw [e] at hs
      exact hs
    · rw [@dif_neg _ (Classical.propDecidable _) h1] at h
      cases h
theorem zeroFn (w : World) : (zeroValue 76).run Tryz.prog w = .ok .nilFunc w := by kernel_rfl

def elF : Option Nat → DW
  | none => .lit (.int .i64 (-1))
  | some n => .lit (.int .i64 n)
/-- block m is a map of at most n texts to functions -/
def Fi (w : World) (n m : Nat) (f : Bs → Option Nat) : Prop :=
  ∃ D : DW, w.ownsMap Tryz.prog 9 funE m n D ∧ (∀ l, Maps.has D (.string l) = (f l).isSome) ∧ ∀ l, D.atKey (.string l) (.lit (.int .i64 (-1))) = elF (f l)
section
variable {w w' : World} {n m : Nat} {f : Bs → Option Nat}
theorem Fi.kept (h : Fi w n m f) (hb : w'.heap[m]? = w.heap[m]?) : Fi w' n m f := by
  obtain ⟨D, ⟨es, c, hm, r1, r2, r3⟩, r⟩ := h
  exact ⟨D, ⟨es, c, hb.trans hm, r1, r2, r3⟩, r⟩
theorem Fi.lt (h : Fi w n m f) : m < w.heap.size := by obtain ⟨D, h, _⟩ := h; exact h.lt
theorem Fi.made (w : World) : Fi (w.alloc (.map #[] 0)) 0 w.heap.size (fun _ => none) := ⟨.map [], World.ownsMap_made _ _ _ _, fun _ => rfl, fun _ => rfl⟩
theorem Fi.look_ok (h : Fi w n m f) {s : Bs} (hl : s.length ≤ maxLen) :
    ∃ v, (Instr.lookup 78 (.map (some m)) (.string (mk s)) true).run Tryz.prog w = .ok (.tuple #[v, .bool (f s).isSome]) w := by
  obtain ⟨D, hD, hhas, hat⟩ := h
  obtain ⟨v, ps, hrun, hv⟩ := hD.look_ok law9 Tryz.underlying78 (zeroFn w) (zd := .lit (.int .i64 (-1))) (zp := []) funE_nil (keyS hl)
  rw [hhas] at hrun
  exact ⟨v, hrun⟩
theorem Fi.look (h : Fi w n m f) {s : Bs} (hl : s.length ≤ maxLen) {k : Nat} (hk : f s = some k) :
    (Instr.lookup 78 (.map (some m)) (.string (mk s)) false).run Tryz.prog w = .ok (.func (.func k) #[] #[]) w := by
  obtain ⟨D, hD, hhas, hat⟩ := h
  obtain ⟨v, ps, hrun, hv⟩ := hD.lookup law9 Tryz.underlying78 (zeroFn w) (zd := .lit (.int .i64 (-1))) (zp := []) funE_nil (keyS hl)
  rw [hat, hk] at hv
  rw [funE_inv hv] at hrun
  exact hrun
theorem Fi.put (h : Fi w n m f) (hn : n < maxLen) {s : Bs} (hl : s.length ≤ maxLen) (k : Nat) :
    ∃ w', (Instr.mapUpdate 78 (.map (some m)) (.string (mk s)) (.func (.func k) #[] #[])).run Tryz.prog w = .ok () w' ∧ Fi w' (n + 1) m (upd f s (some k)) ∧ w.grownBy w' (some m) ∧ w'.heap.size = w.heap.size := by
  obtain ⟨D, hD, hhas, hat⟩ := h
  obtain ⟨w', hrun, ho, ht⟩ := hD.store law9 Tryz.underlying78 hn (val := .func (.func k) #[] #[]) (d := .lit (.int .i64 k)) (ps := []) (keyS hl) (funE_at k)
  have hk : WideAt.IsKeyLit (.string s) := law9.key (keyS hl)
  refine ⟨w', hrun, ⟨_, ho, fun x => ?_, fun x => ?_⟩, ht.grown, ?_⟩
  · by_cases hx : x = s
    · subst hx; rw [has_put_same hD.isMap hk, upd, if_pos rfl]; rfl
    · rw [has_put_other (by intro e; cases e; exact hx rfl), upd, if_neg hx, hhas]
  · by_cases hx : x = s
    · subst hx; rw [atKey_put_same hD.isMap hk, upd, if_pos rfl]; rfl
    · rw [atKey_put_other (by intro e; cases e; exact hx rfl), upd, if_neg hx, hat]
  · obtain ⟨es, c, es', c', _, rfl⟩ := ht
    simp [Go.ChangeMaps.setBlock]
end
end Go.Proofs.YtgledabcfonbeaaGreatDoor.Df
