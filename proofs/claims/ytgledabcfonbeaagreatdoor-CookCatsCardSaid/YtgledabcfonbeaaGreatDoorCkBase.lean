/-
  A COMMAND's WORDS; sets of names; rows of names that grow.
-/
import Derived.Test.YtgledabcfonbeaaGreatDoorDfBase
import Derived.Test.YtgledabcfonbeaaGreatDoorPaRight
import Derived.StringKeys
import Derived.Maps.OwnSet
namespace Go.Proofs.YtgledabcfonbeaaGreatDoor.Df
open Go.RowKit Go.Maps Go.Proofs.YtgledabcfonbeaaGreatDoor

abbrev DW := DataW Unit
def upd {A B : Type} [DecidableEq A] (f : A → B) (a : A) (b : B) : A → B := fun x => if x = a then b else f x
theorem law9 : Keyed Tryz.prog 9 := string_keyed Tryz.underlying9
theorem keyS {s : Bs} (h : s.length ≤ maxLen) : keyOf Tryz.prog 9 (.string (mk s)) = some (.string s) :=
  WideMaps.keyOf_string_mk (P := Tryz.prog) Tryz.underlying9 (s := mk s) (by rw [mk_size]; exact h)

noncomputable def setE (v : Value) : Option (DW × List MemPlace) :=
  @ite _ (v = .agg #[]) (Classical.propDecidable _) (some (.lit (.int .i64 0), [])) Option.none
theorem setE_at : setE (.agg #[]) = some (.lit (.int .i64 0), []) := by
  unfold setE
  rw [@if_pos _ (Classical.propDecidable _) rfl]
theorem setE_inv {v : Value} {z : DW × List MemPlace} (h : setE v = some z) : v = .agg #[] := by
  unfold setE at h
  by_cases h0 : v = .agg #[]
  · exact h0
  · rw [@if_neg _ (Classical.propDecidable _) h0] at h; cases h
theorem zeroSt (w : World) : (zeroValue 85).run Tryz.prog w = .ok (.agg #[]) w := by kernel_rfl

/-- block m is a map of at most n texts: those of f -/
def Si (w : World) (n m : Nat) (f : Bs → Bool) : Prop :=
  ∃ D : DW, w.ownsMap Tryz.prog 9 setE m n D ∧ (∀ l, Maps.has D (.string l) = f l)
section
variable {w w' : World} {n m : Nat} {f : Bs → Bool}
theorem Si.lt (h : Si w n m f) : m < w.heap.size := by obtain ⟨D, h, _⟩ := h; exact h.lt
theorem Si.map (h : Si w n m f) : ∃ es c, w.heap[m]? = some (.map es c) := by obtain ⟨D, ⟨es, c, h, _⟩, _⟩ := h; exact ⟨es, c, h⟩
theorem Si.kept (h : Si w n m f) (hb : w'.heap[m]? = w.heap[m]?) : Si w' n m f := by
  obtain ⟨D, ⟨es, c, hm, r1, r2, r3⟩, r⟩ := h
  exact ⟨D, ⟨es, c, hb.trans hm, r1, r2, r3⟩, r⟩
theorem Si.made (w : World) : Si (w.alloc (.map #[] 0)) 0 w.heap.size (fun _ => false) := ⟨.map [], World.ownsMap_made _ _ _ _, fun _ => rfl⟩
theorem Si.look (h : Si w n m f) {s : Bs} (hl : s.length ≤ maxLen) :
    (Instr.lookup 81 (.map (some m)) (.string (mk s)) true).run Tryz.prog w = .ok (.tuple #[.agg #[], .bool (f s)]) w := by
  obtain ⟨D, hD, hhas⟩ := h
  obtain ⟨v, ps, hrun, hv⟩ := hD.look_ok law9 Tryz.underlying81 (zeroSt w) (zd := .lit (.int .i64 0)) (zp := []) setE_at (keyS hl)
  rw [setE_inv hv, hhas] at hrun
  exact hrun
theorem Si.put (h : Si w n m f) (hn : n < maxLen) {s : Bs} (hl : s.length ≤ maxLen) :
    ∃ w', (Instr.mapUpdate 81 (.map (some m)) (.string (mk s)) (.agg #[])).run Tryz.prog w = .ok () w' ∧ Si w' (n + 1) m (upd f s true) ∧ w.grownBy w' (some m) ∧ w'.heap.size = w.heap.size := by
  obtain ⟨D, hD, hhas⟩ := h
  obtain ⟨w', hrun, ho, ht⟩ := hD.store law9 Tryz.underlying81 hn (val := .agg #[]) (d := .lit (.int .i64 0)) (ps := []) (keyS hl) setE_at
  have hk : WideAt.IsKeyLit (.string s) := law9.key (keyS hl)
  refine ⟨w', hrun, ⟨_, ho, fun x => ?_⟩, ht.grown, ?_⟩
  · by_cases hx : x = s
    · subst hx; rw [has_put_same hD.isMap hk, upd, if_pos rfl]
    · rw [has_put_other (by intro e; cases e; exact hx rfl), upd, if_neg hx, hhas]
  · obtain ⟨es, c, es', c', _, rfl⟩ := ht
    simp [Go.ChangeMaps.setBlock]
end

theorem map_ne {w : World} {p m : Nat} {C : Array Value} {t : TypeId} {fr : Nat × Nat} {es : Array MapEntry} {c : Nat} (h : w.heap[p]? = some (.cells C t fr)) (h' : w.heap[m]? = some (.map es c)) : p ≠ m := by
  rintro rfl
  rw [h] at h'
  cases h'

theorem str_run {w : World} {base : Nat} {a : Option Addr} {c : Nat} {K : List Bs} {p : Bs} (h : w.ownsRow base 9 1 (.slice a K.length c) K.length (strV K)) (hbw : base ≤ w.heap.size) (hK : K.length ≤ 1000000) :
    ∃ a' c' w', (Builtin.append_ #[32, 32] 32 #[.slice a K.length c, .slice (some ⟨w.heap.size, 0, none⟩) 1 1]).run Tryz.prog (w.alloc (.cells #[.string (mk p)] 9)) = .ok (.slice a' (K ++ [p]).length c') w' ∧
      w'.ownsRow base 9 1 (.slice a' (K ++ [p]).length c') (K ++ [p]).length (strV (K ++ [p])) ∧ (w.alloc (.cells #[.string (mk p)] 9)).grownBy w' (Value.slice a K.length c).ownBlock := by
  obtain ⟨i0, hi, hz0, hz1, hz2⟩ := info_parts info9
  have hb1 := below_alloc w (.cells #[.string (mk p)] 9)
  have h1 := owns_below h hb1
  obtain ⟨v', w', hrun, hown, hg, _⟩ := run_append_own (P := Tryz.prog) (w.alloc (.cells #[.string (mk p)] 9)) base 32 32 9 i0 (.string ⟨#[]⟩) 1 16 Tryz.underlying32 hi hz0 hz1 hz2 rfl (by decide) _ _ (strV K) h1 ⟨w.heap.size, 0, none⟩ 1 1 [.string (mk p)] rfl (cell_one_new _ _ _) (by simp [Value.oneCell']) (by unfold maxLen; omega) (by omega) (by have := hb1.size; omega)
  have e : (K ++ [p]).length = K.length + 1 := by simp
  have h3 : w'.ownsRow base 9 1 v' (K ++ [p]).length (strV (K ++ [p])) := by rw [strV_snoc, e]; exact hown
  obtain ⟨a', c', rfl⟩ := owns_len h3
  exact ⟨a', c', w', hrun, h3, hg⟩
theorem wpList_run {ops : Array Oper} {rest : List Oper} {o : Oper} {a : Act} {w w' : World} {Q : Exit → Act → World → Prop} (hgd : o.guard = none) (s x : Operand) {t u : TypeId}
    (ho : o.op = .call { callee := .builtin .append, args := #[s, x], argTypes := #[t, u] }) {v src v' : Value} (hs : a.eval s = v) (hx : a.eval x = src)
    (hr : (Builtin.append_ #[t, u] o.type #[v, src]).run Tryz.prog w = .ok v' w') (h : wpList Tryz.prog ops Q rest (a.put o.dst v') w') : wpList Tryz.prog ops Q (o :: rest) a w := by
  refine wpList_plain hgd fun K hK => ?_
  unfold Oper.wp execOp
  simp only [ho, resolve, invoke, builtin, Sem.run_bind, Sem.run_pure, Result.andThen_ok, List.map_toArray, List.map_cons, List.map_nil, hs, hx, hr]
  exact hK _ _ h

set_option maxRecDepth 100000 in
theorem blank_f (W : World) (x : Nat) : Calls Tryz.prog 42 #[.int .i32 (x : Int)] W fun e w' => e = .returned (.bool (x == 32)) ∧ ∃ q, w' = W.drewN q := by
  have h1 : decide ((x : Int) = 32) = (x == 32) := by rw [Bool.eq_iff_iff, decide_eq_true_iff, beq_iff_eq]; omega
  go_enter Tryz.func42, Tryz.ntmps42
  go_wp2_with fail
  go_ret
  refine ⟨?_, 0, rfl⟩
  rw [← h1]
  first | rfl | simp [BEq.beq]

set_option maxRecDepth 100000 in
theorem pred_blank (w : World) : PredAtRunes Tryz.prog 42 #[] (fun n => n == 32) w := fun W x _ _ => blank_f W x

set_option maxRecDepth 100000 in
theorem fields_c (s : Bs) (hs : s.length ≤ 4294967296) (w : World) :
    Calls Tryz.prog 43 #[.string (mk s), .func (.func 42) #[] #[]] w fun e w' => ∃ A, e = .returned (.slice (some ⟨A, 0, none⟩) (words [] s).length (words [] s).length) ∧ w.heap.size ≤ A ∧
      w'.ownsRow w.heap.size 9 1 (.slice (some ⟨A, 0, none⟩) (words [] s).length (words [] s).length) (words [] s).length (strV (words [] s)) ∧ Below w.heap.size w w' := by
  refine (shstringsFieldsFuncrunes 42 #[] (fun _ _ => rfl) (fun n => n == 32) (mk s) w (by rw [mk_size]; exact hs) (pred_blank w)).mono ?_
  rintro e w' ⟨A, rfl, hA, hown, hb⟩
  rw [fields_mk, List.length_map] at hown ⊢
  refine ⟨A, rfl, hA, ?_, hb⟩
  rw [List.map_map] at hown
  exact hown

theorem words_len : ∀ (p cur : Bs), (words cur p).length ≤ p.length + (if cur = [] then 0 else 1)
  | [], cur => by rw [words, fl]; split <;> simp
  | b :: r, cur => by
    rw [words]
    split
    · have h1 := words_len r []
      have h2 : (fl cur).length ≤ if cur = [] then 0 else 1 := by rw [fl]; split <;> simp
      rw [List.length_append, List.length_cons]
      simp at h1
      omega
    · have h1 := words_len r (cur ++ [b])
      rw [if_neg (by simp)] at h1
      rw [List.length_cons]
      omega
theorem words_lens : ∀ (p cur x : Bs), x ∈ words cur p → x.length ≤ cur.length + p.length
  | [], cur, x, hx => by
    rw [words] at hx
    obtain ⟨rfl, _⟩ := fl_mem hx
    simp
  | b :: r, cur, x, hx => by
    rw [words] at hx
    split at hx
    · rcases List.mem_append.1 hx with hx | hx
      · obtain ⟨rfl, _⟩ := fl_mem hx; simp
      · have := words_lens r [] x hx; simp at this ⊢; omega
    · have := words_lens r _ x hx; simp at this ⊢; omega

theorem lt_of_cell {w : World} {p : Addr} {v : Value} (h : w.cell? p = some v) : p.block < w.heap.size := by
  rcases Nat.lt_or_ge p.block w.heap.size with h' | h'
  · exact h'
  · simp [World.cell?, Array.getElem?_eq_none h'] at h

end Go.Proofs.YtgledabcfonbeaaGreatDoor.Df
