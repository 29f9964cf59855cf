/-
  Names, AND All WHERE NOTHING WAS FOUND.
-/
import Derived.Test.YtofdnbddpageoaaNmGive
namespace Go.Proofs.Ytofdnbddpageoaa.Nm
open Go.RowKit Go.Maps

theorem nilS_yes (w : World) : Sem.run Try.prog (binOp BinOp.eql 27 (.slice Option.none 0 0) (.slice Option.none 0 0)) w = .ok (.bool true) w := by kernel_rfl
theorem nilS_no (w : World) (ad : Addr) (n c : Nat) : Sem.run Try.prog (binOp BinOp.eql 27 (.slice (some ad) n c) (.slice Option.none 0 0)) w = .ok (.bool false) w := by kernel_rfl

theorem wpList_appS {ops : Array Oper} {rest : List Oper} {o : Oper} {a : Act} {w : World} {Q : Exit → Act → World → Prop} (hgd : o.guard = Option.none) (s x : Operand)
    (ho : o.op = .call { callee := .builtin .append, args := #[s, x], argTypes := #[27, 27] })
    {base : Nat} {v vf : Value} {n : Nat} {xs : List Value} {L : List ByteArray} (hs : a.eval s = v) (hown : w.ownsRow base 9 1 v n xs) (hx : a.eval x = vf) (hf : StrRow w vf L) (hno : NilOk vf) (hb : n + L.length ≤ 1000000) (hbase : base ≤ w.heap.size)
    (h : ∀ v' w', w'.ownsRow base 9 1 v' (n + L.length) (xs ++ strV L) → w.grownBy w' v.ownBlock → wpList Try.prog ops Q rest (a.put o.dst v') w') :
    wpList Try.prog ops Q (o :: rest) a w := by
  obtain ⟨v', w', hr, h2, h3, _⟩ := run_appS hown hf hno hb hbase o.type
  refine wpList_plain hgd fun K hK => ?_
  unfold Oper.wp execOp
  simp only [ho, resolve, invoke, builtin, Sem.run_bind, Sem.run_pure, Result.andThen_ok, List.map_toArray, List.map_cons, List.map_nil, hs, hx, hr]
  exact hK _ _ (h v' w' h2 h3)

/-- an append whose run is known -/
theorem wpList_run {ops : Array Oper} {rest : List Oper} {o : Oper} {a : Act} {w w' : World} {Q : Exit → Act → World → Prop} (hgd : o.guard = Option.none) (s x : Operand) {t u : TypeId}
    (ho : o.op = .call { callee := .builtin .append, args := #[s, x], argTypes := #[t, u] }) {v src v' : Value} (hs : a.eval s = v) (hx : a.eval x = src)
    (hr : (Builtin.append_ #[t, u] o.type #[v, src]).run Try.prog w = .ok v' w') (h : wpList Try.prog ops Q rest (a.put o.dst v') w') : wpList Try.prog ops Q (o :: rest) a w := by
  refine wpList_plain hgd fun K hK => ?_
  unfold Oper.wp execOp
  simp only [ho, resolve, invoke, builtin, Sem.run_bind, Sem.run_pure, Result.andThen_ok, List.map_toArray, List.map_cons, List.map_nil, hs, hx, hr]
  exact hK _ _ h

/-- .. in a region that draws its order -/
theorem step_run2 {ops : Array Oper} {o : Oper} {a : Act} {w w' : World} {K : Act → World → Prop} {Q : Exit → Act → World → Prop} {E : Prop} (hgd : o.guard = Option.none) (s x : Operand) {t u : TypeId}
    (ho : o.op = .call { callee := .builtin .append, args := #[s, x], argTypes := #[t, u] }) {v src v' : Value} (hs : a.eval s = v) (hx : a.eval x = src)
    (hr : (Builtin.append_ #[t, u] o.type #[v, src]).run Try.prog w = .ok v' w') (h : K (a.put o.dst v') w') :
    if Region.wanted o (yielded ops a.tmps) = true then Oper.wp Try.prog o a w K Q else E := by
  rw [if_pos (by simp [Region.wanted, hgd])]
  unfold Oper.wp execOp
  simp only [ho, resolve, invoke, builtin, Sem.run_bind, Sem.run_pure, Result.andThen_ok, List.map_toArray, List.map_cons, List.map_nil, hs, hx, hr]
  exact h

set_option maxRecDepth 100000 in
set_option maxHeartbeats 1000000 in
theorem clone_c {w : World} {v : Value} {L : List ByteArray} (hd : StrRow w v L) (hno : NilOk v) (hn : L.length ≤ 1000000) :
    Calls Try.prog 46 #[v] w fun e w' => ∃ a c, e = .returned (.slice a L.length c) ∧ w'.ownsRow w.heap.size 9 1 (.slice a L.length c) L.length (strV L) ∧ Below w.heap.size w w' := by
  obtain ⟨a, c, rfl, hdc, hdr⟩ := hd
  cases a with
  | none =>
    obtain rfl : c = 0 := hno _ _ rfl
    obtain rfl : L = [] := List.eq_nil_of_length_eq_zero (by omega)
    have hy := nilS_yes w
    clear hno hdr
    go_enter Try.func46, Try.ntmps46
    go_wp2_with fail
    go_ret
    exact ⟨_, _, rfl, World.ownsRow_nil _ _ _ _, Below.refl _ _⟩
  | some ad =>
    have hy := nilS_no w ad L.length c
    obtain ⟨W0, hW0⟩ : ∃ W, w.alloc (.cells #[] 9) = W := ⟨_, rfl⟩
    have hB0 : Below w.heap.size w W0 := by rw [← hW0]; exact Pk.below_alloc _ _
    have oA : W0.ownsRow w.heap.size 9 1 (.slice (some ⟨w.heap.size, 0, Option.none⟩) 0 0) 0 [] := by rw [← hW0]; exact World.ownsRow_made w #[] 0 (Nat.le_refl _) (by unfold maxLen; omega) rfl
    have hd' : StrRow W0 (.slice (some ad) L.length c) L := StrRow.below ⟨_, _, rfl, hdc, hdr⟩ hB0
    have HB0 := Lib.hid hB0
    have HD := Lib.hid hd'
    have HNO := Lib.hid hno
    have hn1 : 0 + L.length ≤ 1000000 := by omega
    clear hB0 hd' hdr hdc hno hn
    go_enter Try.func46, Try.ntmps46
    go_wp2_with (at_builtin; refine wpList_appS rfl (.tmp 5) (.tmp 6) rfl rfl oA rfl HD.out HNO.out hn1 HB0.out.size ?_; intro v9 w9 hown9 hg9; obtain ⟨va, vc, rfl⟩ := own_slice hown9; have HO9 := Lib.hid hown9; have HB9 := Lib.hid (Below.grown HB0.out hg9 HB0.out.size (fun k hk => (oA.lt k hk).1)); clear hown9 hg9 oA hW0)
    go_ret
    have := HO9.out
    simp only [Nat.zero_add, List.nil_append] at this ⊢
    exact ⟨_, _, rfl, this, HB9.out⟩

set_option maxHeartbeats 1000000 in
theorem names_c {b lo hi : Nat} {w : World} {p : Nat} {B : Bo} (h : Own b lo hi w p B) :
    Calls Try.prog 24 #[.pointer (some ⟨p, 0, Option.none⟩)] w fun e w' => ∃ a c, e = .returned (.slice a B.N.length c) ∧ w'.ownsRow w.heap.size 9 1 (.slice a B.N.length c) B.N.length (strV B.N) ∧ Below w.heap.size w w' := by
  obtain ⟨S, v1, v2, v3, Q, h1, -⟩ := h
  obtain ⟨c0, -⟩ := h1.cells
  obtain ⟨hs, hno⟩ := strRow_of h1.names
  have hc := clone_c hs hno h1.few
  obtain ⟨a, c, rfl, -, -⟩ := hs
  clear h1 hno
  go_enter Try.func24, Try.ntmps24
  go_wp2_with fail
  refine hc.mono ?_
  rintro e w1 ⟨a, c, rfl, ho, hb⟩
  have HO := Lib.hid ho
  clear ho hc
  go_wp2_with fail
  go_ret
  exact ⟨_, _, rfl, HO.out, hb⟩
end Go.Proofs.Ytofdnbddpageoaa.Nm
