/-
  append OF BYTES onto a file's own; a file's cells written.
-/
import Derived.Test.YtfmelhcpccghdaaGreatDoWrite
namespace Go.Proofs.YtfmelhcpccghdaaGreat
open Go.RowKit Go.Maps

variable {X : Nat → Prop} {K : Nat} {w : World} {p : Nat} {q : Pl} {d : Ds}

theorem bytesV_append (a b : List UInt8) : bytesV (a ++ b) = bytesV a ++ bytesV b := by simp [bytesV]

theorem run_app {v : Value} {xs : List UInt8} (hown : w.ownsRow 0 5 1 v xs.length (bytesV xs)) {src : Value} {bs : List UInt8} (hsrc : BRow w src bs) (hb : xs.length + bs.length ≤ 1000000000) (ty : TypeId) :
    ∃ a' c' w', (Builtin.append_ #[31, 31] ty #[v, src]).run Tryz.prog w = .ok (.slice a' (xs.length + bs.length) c') w' ∧ w'.ownsRow 0 5 1 (.slice a' (xs.length + bs.length) c') (xs ++ bs).length (bytesV (xs ++ bs)) ∧
      w.grownBy w' v.ownBlock ∧ ∀ k, (Value.slice a' (xs.length + bs.length) c').ownBlock = some k → v.ownBlock = some k ∨ w.heap.size ≤ k := by
  obtain ⟨i0, hi, hz0, hz1, hz2⟩ := info_parts info5
  rcases hsrc with ⟨rfl, rfl⟩ | ⟨a, cap, rfl, hlt, hc⟩
  · obtain ⟨va, vc, rfl⟩ := row_len hown
    refine ⟨va, vc, w, ?_, ?_, ⟨rfl, rfl, rfl, Nat.le_refl _, fun _ _ _ => rfl⟩, fun k hk => .inl hk⟩
    · exact run_append_owned_none (P := Tryz.prog) w 0 31 ty 5 i0 1 Tryz.underlying31 hi _ _ _ hown
    · simpa using hown
  · obtain ⟨v', w', hr, h2, h3, _, h5⟩ := run_append_own_at (P := Tryz.prog) w 0 31 ty 5 i0 (.int .u8 0) 1 1 Tryz.underlying31 hi hz0 hz1 hz2 rfl (by decide) v xs.length (bytesV xs) hown a bs.length cap (bytesV bs) (by rw [bytesV_length]; omega) hc (one_bytes bs) (by unfold maxLen; omega) (by omega) (Nat.zero_le _)
    obtain ⟨a', c', rfl⟩ := row_len h2
    refine ⟨a', c', w', hr, ?_, h3, fun k hk => ?_⟩
    · rw [List.length_append, bytesV_append]; exact h2
    · rcases h5 with h5 | h5
      · exact .inl (by rw [← h5]; exact hk)
      · rw [h5] at hk; cases hk; exact .inr (Nat.le_refl _)

theorem step_app {ops : Array Oper} {o : Oper} {a : Act} {w : World} {Kp : Act → World → Prop} {Q : Exit → Act → World → Prop} {E : Prop} (hgd : o.guard = none) (s x : Operand)
    (ho : o.op = .call { callee := .builtin .append, args := #[s, x], argTypes := #[31, 31] }) (v : Value) (xs : List UInt8) (hs : a.eval s = v) (hown : w.ownsRow 0 5 1 v xs.length (bytesV xs)) (src : Value) (bs : List UInt8) (hx : a.eval x = src) (hsrc : BRow w src bs) (hb : xs.length + bs.length ≤ 1000000000)
    (h : ∀ a' c' w', w'.ownsRow 0 5 1 (.slice a' (xs.length + bs.length) c') (xs ++ bs).length (bytesV (xs ++ bs)) → w.grownBy w' v.ownBlock → (∀ k, (Value.slice a' (xs.length + bs.length) c').ownBlock = some k → v.ownBlock = some k ∨ w.heap.size ≤ k) → Kp (a.put o.dst (.slice a' (xs.length + bs.length) c')) w') :
    if Region.wanted o (yielded ops a.tmps) = true then Oper.wp Tryz.prog o a w Kp Q else E := by
  have hw : Region.wanted o (yielded ops a.tmps) = true := by simp [Region.wanted, hgd]
  rw [if_pos hw]
  obtain ⟨a', c', w', hr, h2, h3, h5⟩ := run_app hown hsrc hb o.type
  unfold Oper.wp execOp
  simp only [ho, resolve, invoke, builtin, Sem.run_bind, Sem.run_pure, Result.andThen_ok, List.map_toArray, List.map_cons, List.map_nil, hs, hx, hr]
  exact h a' c' w' h2 h3 h5

theorem upd_upd {A B : Type} [DecidableEq A] (f : A → B) (a : A) (b c : B) : upd (upd f a b) a c = upd f a c := by
  funext x
  by_cases h : x = a
  · subst h; rw [upd_same, upd_same]
  · rw [upd_other _ _ h, upd_other _ _ h, upd_other _ _ h]
theorem setF_setF (d : Ds) (i : Nat) (f g : Fl) : setF (setF d i f) i g = setF d i g := by
  unfold setF
  simp only [upd_upd]

theorem DkAt.drewN (h : DkAt X K w p q d) {w' : World} (hw : w'.heap = w.heap) : DkAt X K w' p q d :=
  h.frame (by rw [hw]; exact Nat.le_refl _) (fun k _ _ => by rw [hw]) (fun _ _ hy => hy) (fun k hy => by rw [hw]; exact h.inX k hy)
theorem BRow.drewN {v : Value} {bs : List UInt8} (h : BRow w v bs) {w' : World} (hw : w'.heap = w.heap) : BRow w' v bs :=
  h.kept (by rw [hw]; exact Nat.le_refl _) fun k _ _ => by rw [hw]

/-- the time of a file is set -/
theorem DkAt.setTime (h : DkAt X K w p q d) {i t : Nat} (hi : Ref d i) : DkAt X K (w.setCell ⟨i, 2, none⟩ (.int .i64 t)) p { q with bv := upd q.bv i (q.bv i) } (setF d i ⟨(d.files i).bytes, (d.files i).sure, t⟩) := by
  have f := h.file i hi
  refine h.setFile hi (by simp [World.setCell]) (fun k _ hk _ _ => Below.heap_setCell _ _ _ _ hk) ⟨f.off, heap_set_same f.cells 2 _, row_kept f.row fun k hk => Below.heap_setCell _ _ _ _ ?_, f.rowOff, f.le, f.len⟩ (fun k hk => .inl hk)
  rintro rfl
  obtain ⟨cur, hcur⟩ := row_elem f.row hk
  exact kind_ne hcur f.cells (by decide) rfl
/-- how much of a file is sure is set -/
theorem DkAt.setSure (h : DkAt X K w p q d) {i s : Nat} (hi : Ref d i) (hs : s ≤ (d.files i).bytes.length) : DkAt X K (w.setCell ⟨i, 1, none⟩ (.int .i64 s)) p { q with bv := upd q.bv i (q.bv i) } (setF d i ⟨(d.files i).bytes, s, (d.files i).time⟩) := by
  have f := h.file i hi
  refine h.setFile hi (by simp [World.setCell]) (fun k _ hk _ _ => Below.heap_setCell _ _ _ _ hk) ⟨f.off, heap_set_same f.cells 1 _, row_kept f.row fun k hk => Below.heap_setCell _ _ _ _ ?_, f.rowOff, hs, f.len⟩ (fun k hk => .inl hk)
  rintro rfl
  obtain ⟨cur, hcur⟩ := row_elem f.row hk
  exact kind_ne hcur f.cells (by decide) rfl
/-- the bytes of a file are others: they lie in its own row, or in a new one -/
theorem DkAt.setBytes (h : DkAt X K w p q d) {i : Nat} {v : Value} {bs : List UInt8} {w1 : World} (hi : Ref d i) (hg : w.grownBy w1 (q.bv i).ownBlock) (hrow : w1.ownsRow 0 5 1 v bs.length (bytesV bs))
    (hv : ∀ k, v.ownBlock = some k → (q.bv i).ownBlock = some k ∨ w.heap.size ≤ k) (hs : (d.files i).sure ≤ bs.length) (hl : bs.length ≤ 65536) :
    DkAt X K (w1.setCell ⟨i, 0, none⟩ v) p { q with bv := upd q.bv i v } (setF d i ⟨bs, (d.files i).sure, (d.files i).time⟩) := by
  have f := h.file i hi
  have hil := lt_of_some f.cells
  have hio : (q.bv i).ownBlock ≠ some i := fun e => by obtain ⟨cur, hcur⟩ := row_elem f.row e; exact kind_ne hcur f.cells (by decide) rfl
  have hc1 : w1.heap[i]? = _ := (hg.block i hil (Ne.symm hio)).trans f.cells
  refine h.setFile hi (by simp [World.setCell]; exact hg.size) (fun k hk hki hkb hX => (Below.heap_setCell _ _ _ _ hki).trans (hg.block k hk (Ne.symm hkb))) ⟨f.off, heap_set_same hc1 0 _, row_kept hrow fun k hk => Below.heap_setCell _ _ _ _ ?_, fun k hk hX => ?_, hs, hl⟩ hv
  · rintro rfl
    obtain ⟨cur, hcur⟩ := row_elem hrow hk
    exact kind_ne hcur hc1 (by decide) rfl
  · rcases hv k hk with e | e
    · exact f.rowOff k e hX
    · have := h.inX k hX; omega
end Go.Proofs.YtfmelhcpccghdaaGreat
