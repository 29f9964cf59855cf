/-
  ANY RECORDS, ONE BY ONE: plain books.
-/
import Derived.Test.YtofdnbddpageoaaNmTwoB
namespace Go.Proofs.Ytofdnbddpageoaa.Nm
open Go.RowKit Go.Maps

/-- what records make of a book: those that don't fit do nothing -/
def goAll (B : Bo) (rs : List (List Nat)) : Bo := rs.foldl (fun B r => (takeB B r).getD B) B
theorem goAll_snoc (B : Bo) (rs : List (List Nat)) (r : List Nat) : goAll B (rs ++ [r]) = (takeB (goAll B rs) r).getD (goAll B rs) := by simp [goAll]
theorem goAll_all (B : Bo) : ∀ (rs : List (List Nat)) (C : Bo), takeAll B rs = some C → goAll B rs = C := by
  intro rs
  induction rs generalizing B with
  | nil => intro C h; exact Option.some.inj h
  | cons r rs ih =>
    intro C h
    have h : (takeB B r).bind (fun B' => takeAll B' rs) = some C := h
    cases hT : takeB B r with
    | none => rw [hT] at h; cases h
    | some B' =>
      rw [hT, Option.bind_some] at h
      have := ih B' C h
      unfold goAll at this ⊢
      rw [List.foldl_cons, hT]
      exact this
/-- did all fit so far? -/
theorem all_snoc (B : Bo) (rs : List (List Nat)) (r : List Nat) : (takeAll B (rs ++ [r])).isSome = ((takeAll B rs).isSome && (takeB (goAll B rs) r).isSome) := by
  rw [takeAll_app]
  cases h : takeAll B rs with
  | none => rfl
  | some C =>
    rw [goAll_all B rs C h, Option.bind_some]
    show ((takeB C r).bind fun B' => takeAll B' []).isSome = _
    cases takeB C r <;> rfl

/-- sizes -/
structure SzB (B : Bo) (k : Nat) : Prop where
  n : B.N.length ≤ k
  f : B.F.length = B.N.length
  s : ∀ x ∈ B.N, x.size ≤ 1000000
  d : ∀ (i : Nat) fd, B.F[i]? = some (some fd) → fd.nums.length ≤ 1000000

theorem sz_nil : SzB ⟨[], []⟩ 0 := ⟨Nat.le_refl _, rfl, (fun x hx => by cases hx), (fun i fd h => by cases h)⟩

theorem sz_step {B : Bo} {k : Nat} (h : SzB B k) {r : List Nat} (hr : r.length ≤ 1000) : SzB ((takeB B r).getD B) (k + 1) := by
  have h0 : SzB B (k + 1) := ⟨Nat.le_succ_of_le h.n, h.f, h.s, h.d⟩
  cases hT : takeB B r with
  | none => exact h0
  | some B' =>
    show SzB B' (k + 1)
    cases r with
    | nil => cases hT
    | cons z t =>
      have ht : t.length ≤ 1000 := by simp at hr; omega
      by_cases e1 : z = 1
      · subst e1
        rw [takeB_1] at hT
        unfold takeN at hT
        split at hT
        · cases hT
          refine ⟨by simp; exact h.n, by simp [h.f], fun x hx => ?_, fun i fd hi => ?_⟩
          · rcases List.mem_append.1 hx with hx | hx
            · exact h.s x hx
            · rw [List.mem_singleton.1 hx, Pk.str_size]
              unfold Pk.txS Pk.nx
              have := Pk.rdL_le 2 t
              split
              · rw [List.length_take]; omega
              · simp
          · have hi : (B.F ++ [Option.none])[i]? = some (some fd) := hi
            rcases Nat.lt_or_ge i B.F.length with h1 | h1
            · rw [List.getElem?_append_left h1] at hi
              exact h.d i fd hi
            · rw [List.getElem?_append_right h1] at hi
              cases e : i - B.F.length with
              | zero => rw [e] at hi; simp at hi
              | succ m => rw [e] at hi; simp at hi
        · cases hT
      by_cases e2 : z = 2
      · subst e2
        rw [takeB_2] at hT
        unfold takeO at hT
        split at hT
        · rename_i hc
          cases hT
          have hm := (fits_parts (N := B.N) (t := t) hc).2.2.1
          have h1 := Pk.rdL_le 4 (Pk.rdL 8 (Pk.rdL 4 t))
          have h2 := Pk.rdL_le 8 (Pk.rdL 4 t)
          have h3 := Pk.rdL_le 4 t
          refine ⟨h0.n, by simp [h.f], h.s, fun i fd hi => ?_⟩
          have hi : (B.F.set (oOut t) (some ⟨oTime t, nums (oMany t) (oRest t)⟩))[i]? = some (some fd) := hi
          rw [List.getElem?_set] at hi
          have hn : (nums (oMany t) (oRest t)).length ≤ 1000000 := by
            rw [nums_length]
            unfold oRest at hm
            omega
          split at hi
          · split at hi
            · cases hi
              exact hn
            · cases hi
          · exact h.d i fd hi
        · cases hT
      · simp [takeB, e1, e2] at hT

theorem sz_all {B : Bo} {k : Nat} (h : SzB B k) (hn : B.N.Nodup) : ∀ x ∈ allL B, x.out.size ≤ 1000000 ∧ x.deps.length ≤ 1000000 := fun x hx => by
  have houts := found_nodup h.f hn
  have hl := (mem_found h.f hn x).1 ((sort_mem houts x).1 hx)
  unfold lookB at hl
  cases e : ixOf B.N x.out with
  | none => rw [e] at hl; cases hl
  | some i =>
    rw [e, Option.bind_some] at hl
    have hi := ixOf_get e
    cases e2 : B.F[i]? with
    | none => rw [e2] at hl; cases hl
    | some o =>
      rw [e2] at hl
      cases o with
      | none => cases hl
      | some fd =>
        have hl : some (depOf B.N x.out fd) = some x := hl
        have hl := Option.some.inj hl
        refine ⟨h.s _ (List.mem_of_getElem? hi), ?_⟩
        rw [← hl]
        show (fd.nums.map (nameAt B.N)).length ≤ _
        rw [List.length_map]
        exact h.d i fd e2

theorem allL_len (B : Bo) : (allL B).length ≤ B.F.length := by
  have h1 : (allL B).length = (foundL B B.F.length).length := by
    have := congrArg List.length (sort_outs (foundL B B.F.length))
    rw [List.length_map, List.length_mergeSort, List.length_map] at this
    exact this
  rw [h1]
  unfold foundL
  refine Nat.le_trans (List.length_filterMap_le _ _) ?_
  rw [List.length_range]
  exact Nat.le_refl _
end Go.Proofs.Ytofdnbddpageoaa.Nm

/-! A RECORD, COPIED: append([]byte{}, r...), for any row of bytes (a nil row has no room). -/
namespace Go.Proofs.Ytofdnbddpageoaa.Nm
open Go.RowKit Go.Maps

theorem run_copyB {W : World} {u : Option Addr} {k : Nat} {r : List Nat} (hrow : Pk.Row W u r) (hno : u = Option.none → k = 0) (hk : r.length ≤ k) (hl : r.length ≤ 1000000) :
    ∃ a' c' W', (Builtin.append_ #[32, 32] 32 #[.slice (some ⟨W.heap.size, 0, Option.none⟩) 0 0, .slice u r.length k]).run Try.prog (W.alloc (.cells #[] 5)) = .ok (.slice a' r.length c') W' ∧ Pk.Row W' a' r ∧ r.length ≤ c' ∧ Below W.heap.size W W' := by
  obtain ⟨i0, hi, hz0, hz1, hz2⟩ := info_parts Pk.info5
  have hown := World.ownsRow_made (e := 5) (size := 1) W #[] 0 (Nat.le_refl _) (by unfold maxLen; omega) rfl
  have hA := Pk.below_alloc W (.cells #[] 5)
  have hfin : ∀ (a' : Option Addr) (c' : Nat) (W' : World), W'.ownsRow W.heap.size 5 1 (.slice a' r.length c') r.length (Pk.bytesV r) → Pk.Row W' a' r ∧ r.length ≤ c' := fun a' c' W' h => by
    rcases own_at h with ⟨e, h0⟩ | ⟨g, cap, e, _, hg, hle, hc⟩
    · exact ⟨.inl (List.eq_nil_of_length_eq_zero h0), by omega⟩
    · obtain ⟨rfl, -, rfl⟩ := Value.slice.inj e
      refine ⟨.inr ⟨g, 0, rfl, hg, fun i hi => ?_⟩, hle⟩
      rw [Nat.zero_add]
      exact hc i _ (by simp [Pk.bytesV, List.getD, hi])
  cases u with
  | none =>
    obtain rfl : k = 0 := hno rfl
    have h0 : r.length = 0 := by omega
    obtain rfl : r = [] := List.eq_nil_of_length_eq_zero h0
    refine ⟨some ⟨W.heap.size, 0, Option.none⟩, 0, W.alloc (.cells #[] 5), run_append_owned_none (P := Try.prog) _ W.heap.size 32 32 5 i0 1 Try.underlying32 hi _ _ _ hown, .inl rfl, Nat.le_refl _, hA⟩
  | some ad =>
    have hcells : ∀ j x, (Pk.bytesV r)[j]? = some x → (W.alloc (.cells #[] 5)).cell? (ad.add j) = some x := fun j x hj => by
      rcases hrow with h | ⟨b, off, e, hb, hc⟩
      · rw [h] at hj; simp [Pk.bytesV] at hj
      · cases e
        rw [Go.WideShapes.add_plain]
        have hjl : j < r.length := by
          have := (List.getElem?_eq_some_iff.1 hj).1
          simpa [Pk.bytesV] using this
        refine (cell_of_block (hA.block b hb)).trans ((hc j hjl).trans ?_)
        rw [← hj]
        simp [Pk.bytesV, List.getD, hjl]
    obtain ⟨v', W', hr, h2, h3, _, _⟩ := run_append_own_at (P := Try.prog) (W.alloc (.cells #[] 5)) W.heap.size 32 32 5 i0 (.int .u8 0) 1 1 Try.underlying32 hi hz0 hz1 hz2 rfl (by decide) _ 0 [] hown ad r.length k (Pk.bytesV r) (by simp [Pk.bytesV]) hcells (Pk.one_bytes r) (by unfold maxLen; omega) (by omega) hA.size
    rw [Nat.zero_add, List.nil_append] at h2
    obtain ⟨a', c', rfl⟩ := own_slice h2
    obtain ⟨f1, f2⟩ := hfin a' c' W' h2
    refine ⟨a', c', W', hr, f1, f2, hA.trans ⟨h3.os, h3.tape, h3.output, h3.size, fun j hj => h3.block j (by have := hA.size; omega) fun e => ?_⟩⟩
    have e := Option.some.inj e
    simp at e
    omega
end Go.Proofs.Ytofdnbddpageoaa.Nm
