/-
  ROWS READ; WHAT IS GIVEN, WHAT IS FOUND; WHAT THE CHAPTER's EXAMPLE SAYS.
-/
import Derived.Test.YtofdnbddpageoaaNmArg
import Derived.Test.YtofdnbddpageoaaNmOwn
import Derived.Test.YtofdnbddpageoaaNmOnceM
namespace Go.Proofs.Ytofdnbddpageoaa.Nm
open Go.RowKit Go.Maps

theorem Own.free {b lo hi : Nat} {w : World} {p : Nat} {B : Bo} (h : Own b lo hi w p B) : Own b 0 0 w p B := by
  obtain ⟨S, v1, v2, v3, Q, h1, h2⟩ := h
  exact ⟨S, v1, v2, v3, Q, h1, fun k hk => ⟨(h2 k hk).1, (h2 k hk).2.1, .inr (Nat.zero_le _)⟩⟩

theorem newO_c (w : World) : Calls Try.prog 10 #[] w fun e w' => ∃ q, e = .returned (.pointer (some ⟨q, 0, Option.none⟩)) ∧ Own w.heap.size 0 0 w' q ⟨[], []⟩ ∧ Below w.heap.size w w' :=
  (new_c w).mono fun _ _ ⟨he, hw⟩ => ⟨w.heap.size, he, by subst hw; exact (own_new w (w.heap.size + 1) 0 (by omega)).free, by subst hw; exact Pk.below_alloc _ _⟩

theorem own_cap {W : World} {base e k n : Nat} {a : Option Addr} {c : Nat} {xs : List Value} (h : W.ownsRow base e k (.slice a n c) n xs) : n ≤ c := by
  rcases h.2 with ⟨e1, rfl⟩ | ⟨g, cap, cur, e1, _, _, hle, _⟩
  · exact Nat.zero_le _
  · cases e1; exact hle

theorem Rows.at {w : World} {base : Nat} {o : Option Nat} {v : Value} {rs : List (List Nat)} (h : Rows base o w v rs) {j : Nat} {r : List Nat} (hj : rs[j]? = some r) :
    ∃ g c a k, v = .slice (some ⟨g, 0, Option.none⟩) rs.length c ∧ rs.length ≤ c ∧ base ≤ g ∧ g < w.heap.size ∧ w.cell? ⟨g, j, Option.none⟩ = some (.slice a r.length k) ∧ r.length ≤ k ∧ Pk.Row w a r := by
  obtain ⟨vs, h1, h2⟩ := h
  have hjl := (List.getElem?_eq_some_iff.1 hj).1
  obtain ⟨u, h3, h4, _⟩ := h2 j r hj
  rcases own_at h1 with ⟨_, h0⟩ | ⟨g, c, e, hb, hg, hle, hc⟩
  · omega
  · obtain ⟨a, k, rfl, -, hr, _⟩ := Pk.row_owned h4
    exact ⟨g, c, a, k, e, hle, hb, hg, hc j _ h3, own_cap h4, hr⟩

theorem pl0 : planE ⟨#[111]⟩ 5 [⟨#[97]⟩] = 0 := by decide +kernel
theorem pl1 : plan [] ⟨#[111]⟩ 5 [⟨#[97]⟩] = [[1, 1, 0, 111], [1, 1, 0, 97], [2, 0, 0, 0, 0, 5, 0, 0, 0, 0, 0, 0, 0, 1, 0, 0, 0, 1, 0, 0, 0]] := by decide +kernel

theorem awk_plan (w : World) : Calls Try.prog 20 #[.pointer (some ⟨w.heap.size, 0, Option.none⟩), .agg #[.string ⟨#[111]⟩, .int .i64 5, .slice (some ⟨w.heap.size + 1, 0, Option.none⟩) 1 1]]
    ((w.alloc (.cells #[.slice Option.none 0 0, .map Option.none, .slice Option.none 0 0] 69)).alloc (.cells #[.string ⟨#[97]⟩] 9))
    fun e w' => ∃ v, e = .returned (.tuple #[v, .int .i64 0]) ∧ Rows w.heap.size Option.none w' v [[1, 1, 0, 111], [1, 1, 0, 97], [2, 0, 0, 0, 0, 5, 0, 0, 0, 0, 0, 0, 0, 1, 0, 0, 0, 1, 0, 0, 0]] ∧ Below w.heap.size w w' := by
  obtain ⟨W1, hW1⟩ : ∃ W, w.alloc (.cells #[.slice Option.none 0 0, .map Option.none, .slice Option.none 0 0] 69) = W := ⟨_, rfl⟩
  have o1 : Own w.heap.size (w.heap.size + 1) 0 W1 w.heap.size ⟨[], []⟩ := by rw [← hW1]; exact own_new w _ _ (by omega)
  have b1 : Below w.heap.size w W1 := by rw [← hW1]; exact Pk.below_alloc _ _
  have z1 : W1.heap.size = w.heap.size + 1 := by rw [← hW1, World.size_alloc]
  rw [hW1]
  obtain ⟨W2, hW2⟩ : ∃ W, W1.alloc (.cells #[.string ⟨#[97]⟩] 9) = W := ⟨_, rfl⟩
  have b2 : Below W1.heap.size W1 W2 := by rw [← hW2]; exact Pk.below_alloc _ _
  have e2 : W2.heap[w.heap.size + 1]? = some (.cells #[.string ⟨#[97]⟩] 9 (0, 0)) := by rw [← z1, ← hW2]; exact heap_alloc_new _ _
  have hs : StrRow W2 (.slice (some ⟨w.heap.size + 1, 0, Option.none⟩) 1 1) [⟨#[97]⟩] := by
    refine ⟨_, _, rfl, by simp, .inr ⟨_, 0, rfl, lt_some e2, fun i x hi => ?_⟩⟩
    obtain ⟨rfl, rfl⟩ : i = 0 ∧ x = ⟨#[97]⟩ := by
      cases i with
      | zero => simp at hi; exact ⟨rfl, hi.symm⟩
      | succ i => simp at hi
    simp [World.cell?, e2]
  rw [hW2]
  have B2 : Below w.heap.size w W2 := b1.trans (b2.mono b1.size)
  refine (plan_own (d := ⟨⟨#[111]⟩, 5, [⟨#[97]⟩]⟩) (o1.below b2) hs (by simp) (by simp)).mono ?_
  rintro e w' ⟨v, rfl, hr, hb⟩
  have e5 : planE ⟨#[111]⟩ (5 : Int) [⟨#[97]⟩] = 0 := pl0
  refine ⟨v, ?_, ?_, B2.trans (hb.mono B2.size)⟩
  · show Ending.returned (.tuple #[v, .int .i64 ((planE ⟨#[111]⟩ (5 : Int) [⟨#[97]⟩] : Nat) : Int)]) = _
    rw [e5]
    rfl
  · have hr : Rows W2.heap.size Option.none w' v (if planE ⟨#[111]⟩ (5 : Int) [⟨#[97]⟩] = 0 then plan [] ⟨#[111]⟩ 5 [⟨#[97]⟩] else []) := hr
    rw [e5, if_pos rfl, pl1] at hr
    exact hr.mono B2.size

theorem rows3 {w : World} {base : Nat} {o : Option Nat} {v : Value} {r0 r1 r2 : List Nat} (h : Rows base o w v [r0, r1, r2]) :
    ∃ g c a0 k0 a1 k1 a2 k2, v = .slice (some ⟨g, 0, Option.none⟩) 3 c ∧ 3 ≤ c ∧ w.cell? ⟨g, 0, Option.none⟩ = some (.slice a0 r0.length k0) ∧ w.cell? ⟨g, 1, Option.none⟩ = some (.slice a1 r1.length k1) ∧ w.cell? ⟨g, 2, Option.none⟩ = some (.slice a2 r2.length k2) ∧ Pk.Row w a0 r0 ∧ Pk.Row w a1 r1 ∧ Pk.Row w a2 r2 ∧ r2.length ≤ k2 := by
  obtain ⟨g, c, a0, k0, rfl, hc, -, -, h0, -, r0'⟩ := h.at (j := 0) rfl
  obtain ⟨g1, c1, a1, k1, e1, -, -, -, h1, -, r1'⟩ := h.at (j := 1) rfl
  obtain ⟨g2, c2, a2, k2, e2, -, -, -, h2, hk, r2'⟩ := h.at (j := 2) rfl
  cases e1
  cases e2
  exact ⟨g, c, a0, k0, a1, k1, a2, k2, rfl, hc, h0, h1, h2, r0', r1', r2', hk⟩

set_option maxRecDepth 100000 in
set_option maxHeartbeats 1000000 in
theorem awake_c (w : World) : Calls Try.prog 18 #[] w fun e w' => e = .returned (.bool true) ∧ Below w.heap.size w w' := by
  go_enter Try.func18, Try.ntmps18
  go_wp2_with fail
  refine (new_c _).mono ?_
  rintro e w1 ⟨rfl, rfl⟩
  go_wp2_with fail
  refine (awk_plan w).mono ?_
  rintro e w1 ⟨v, rfl, hr, hb⟩
  have HB := Lib.hid hb
  obtain ⟨g, c, a0, k0, a1, k1, a2, k2, rfl, hc, h0, h1, h2, r0, r1, r2, hk⟩ := rows3 hr
  have v0 := Pk.conv_row (n := 4) rfl r0 (by decide) k0
  have v1 := Pk.conv_row (n := 4) rfl r1 (by decide) k1
  rcases r2 with r2 | ⟨b2, off, rfl, -, r2⟩
  · cases r2
  have x0 := r2 0 (by decide)
  have x5 := r2 5 (by decide)
  have z0 : ((Pk.str [1, 1, 0, 111]).toList == [1, 1, 0, 111]) = true := by decide +kernel
  have z1 : ((Pk.str [1, 1, 0, 97]).toList == [1, 1, 0, 97]) = true := by decide +kernel
  have q0 : w1.cell? ⟨b2, off, Option.none⟩ = some (.int .u8 2) := x0
  have q5 : w1.cell? ⟨b2, off + 5, Option.none⟩ = some (.int .u8 5) := x5
  have h0' : w1.cell? ⟨g, 0, Option.none⟩ = some (.slice a0 4 k0) := h0
  have h1' : w1.cell? ⟨g, 1, Option.none⟩ = some (.slice a1 4 k1) := h1
  have h2' : w1.cell? ⟨g, 2, Option.none⟩ = some (.slice (some ⟨b2, off, Option.none⟩) 21 k2) := h2
  clear hr hb r0 r1 r2 x0 x5 h0 h1 h2
  go_wp2_with fail

  go_ret
  exact ⟨rfl, HB.out⟩

/-! ### three cells -/
def thr (W : World) (k : Nat) (v0 v1 v2 : Value) : World := ((W.setCell ⟨k, 0, Option.none⟩ v0).setCell ⟨k, 1, Option.none⟩ v1).setCell ⟨k, 2, Option.none⟩ v2
theorem set_off {W : World} {k q j : Nat} {v : Value} (h : q ≠ k) : (W.setCell ⟨k, j, Option.none⟩ v).heap[q]? = W.heap[q]? := Below.heap_setCell _ _ _ _ h
theorem thr_other {W : World} {k q : Nat} {v0 v1 v2 : Value} (h : q ≠ k) : (thr W k v0 v1 v2).heap[q]? = W.heap[q]? := by
  unfold thr
  rw [set_off h, set_off h, set_off h]
theorem thr_same {W : World} {k : Nat} {v0 v1 v2 u0 u1 u2 : Value} {t : TypeId} (h : W.heap[k]? = some (.cells #[u0, u1, u2] t (0, 0))) : (thr W k v0 v1 v2).heap[k]? = some (.cells #[v0, v1, v2] t (0, 0)) := by
  unfold thr
  have h0 := Pk.set_block (j := 0) (u := v0) h
  have h1 := Pk.set_block (j := 1) (u := v1) h0
  have h2 := Pk.set_block (j := 2) (u := v2) h1
  exact h2
theorem thr_below {W w : World} {b k : Nat} {v0 v1 v2 : Value} (h : Below b w W) (hb : b ≤ w.heap.size) (hk : b ≤ k) : Below b w (thr W k v0 v1 v2) := by
  refine ⟨h.os, h.tape, h.output, ?_, fun j hj => (thr_other (by omega)).trans (h.block j hj)⟩
  show w.heap.size ≤ _
  unfold thr
  simp only [World.size_setCell]
  exact h.size
theorem thr_cells {W : World} {k : Nat} {v0 v1 v2 : Value} {t : TypeId} (h : W.heap[k]? = some (.cells #[v0, v1, v2] t (0, 0))) :
    (W.cell? ⟨k, 0, Option.none⟩ = some v0 ∧ W.cell? ⟨k, 1, Option.none⟩ = some v1 ∧ W.cell? ⟨k, 2, Option.none⟩ = some v2) ∧ W.frozen? ⟨k, 0, Option.none⟩ = false ∧ W.frozen? ⟨k, 1, Option.none⟩ = false ∧ W.frozen? ⟨k, 2, Option.none⟩ = false := by
  simp [World.cell?, World.frozen?, h]

/-! ### what is given, what is found -/
set_option maxHeartbeats 1000000 in
theorem found_c (w : World) (s : ByteArray) (t : Int) (a : Option Addr) (n c : Nat) :
    Calls Try.prog 17 #[.agg #[.string s, .int .i64 t, .slice a n c]] w fun e w' => e = .returned (.agg #[.string s, .int .i64 t, .slice a n c]) ∧ Below w.heap.size w w' := by
  obtain ⟨W0, hW0⟩ : ∃ W, (w.alloc (.cells #[.string s, .int .i64 t, .slice a n c] 39)).alloc (.cells #[.string ⟨#[]⟩, .int .i64 0, .slice Option.none 0 0] 42) = W := ⟨_, rfl⟩
  have z1 : (w.alloc (.cells #[.string s, .int .i64 t, .slice a n c] 39)).heap.size = w.heap.size + 1 := World.size_alloc _ _
  have x1 : W0.heap[w.heap.size]? = some (.cells #[.string s, .int .i64 t, .slice a n c] 39 (0, 0)) := by
    rw [← hW0, Below.heap_alloc _ _ _ (by rw [z1]; omega)]
    exact heap_alloc_new _ _
  have x2 : W0.heap[w.heap.size + 1]? = some (.cells #[.string ⟨#[]⟩, .int .i64 0, .slice Option.none 0 0] 42 (0, 0)) := by
    rw [← hW0, ← z1]
    exact heap_alloc_new _ _
  have hb : Below w.heap.size w W0 := by
    rw [← hW0]
    exact ((Below.refl _ _).alloc (Nat.le_refl _) _).alloc (by rw [z1]; omega) _
  obtain ⟨⟨c0, c1, c2⟩, -⟩ := thr_cells x1
  obtain ⟨⟨k0, k1, k2⟩, r0, r1, r2⟩ := thr_cells x2
  have HB := Lib.hid (thr_below (v0 := .string s) (v1 := .int .i64 t) (v2 := .slice a n c) hb (Nat.le_refl _) (Nat.le_succ w.heap.size))
  obtain ⟨⟨s0, s1, s2⟩, -⟩ := thr_cells (thr_same (v0 := .string s) (v1 := .int .i64 t) (v2 := .slice a n c) x2)
  unfold thr at s0 s1 s2 HB
  have S := Lib.hid (And.intro s0 (And.intro s1 s2))
  clear x1 x2 hb z1 s0 s1 s2
  go_enter Try.func17, Try.ntmps17
  go_wp2_with fail
  obtain ⟨s0, s1, s2⟩ := S.out
  refine bodyPost_ret (v := .agg #[.string s, .int .i64 t, .slice a n c]) (by simp [results, Try.f17, go_sem, s0, s1, s2]) rfl ?_
  exact ⟨rfl, HB.out⟩

theorem info9 : (Try.prog.info? 9).map (fun i => (i.zero, i.size, i.bytes)) = some (some (.string ⟨#[]⟩), 1, 16) := by kernel_rfl

theorem strV_length (L : List ByteArray) : (strV L).length = L.length := by simp [strV]

theorem strRow_of {W : World} {base : Nat} {v : Value} {L : List ByteArray} (h : W.ownsRow base 9 1 v L.length (strV L)) : StrRow W v L ∧ NilOk v := by
  rcases own_at h with ⟨rfl, h0⟩ | ⟨g, cap, rfl, hb, hlt, hle, hc⟩
  · obtain rfl : L = [] := List.eq_nil_of_length_eq_zero h0
    exact ⟨⟨Option.none, 0, rfl, Nat.le_refl _, .inl rfl⟩, fun n c e => by cases e; rfl⟩
  · refine ⟨⟨some ⟨g, 0, Option.none⟩, cap, rfl, hle, .inr ⟨g, 0, rfl, hlt, fun i x hx => ?_⟩⟩, fun n c e => by cases e⟩
    rw [Nat.zero_add]
    exact hc _ _ (by simp [strV, hx])

theorem run_appS {w : World} {base n : Nat} {v vf : Value} {xs : List Value} {L : List ByteArray} (hown : w.ownsRow base 9 1 v n xs) (hf : StrRow w vf L) (hno : NilOk vf) (hb : n + L.length ≤ 1000000) (hbase : base ≤ w.heap.size) (ty : TypeId) :
    ∃ v' w', (Builtin.append_ #[27, 27] ty #[v, vf]).run Try.prog w = .ok v' w' ∧ w'.ownsRow base 9 1 v' (n + L.length) (xs ++ strV L) ∧ w.grownBy w' v.ownBlock ∧ (v'.ownBlock = v.ownBlock ∨ v'.ownBlock = some w.heap.size) := by
  obtain ⟨i0, hi, hz0, hz1, hz2⟩ := info_parts info9
  obtain ⟨a, c, rfl, hle, hrow⟩ := hf
  cases a with
  | none =>
    obtain rfl : c = 0 := hno _ _ rfl
    obtain rfl : L = [] := List.eq_nil_of_length_eq_zero (by omega)
    refine ⟨v, w, run_append_owned_none (P := Try.prog) w base 27 ty 9 i0 1 Try.underlying27 hi _ _ _ hown, by simpa [strV] using hown, ⟨rfl, rfl, rfl, Nat.le_refl _, fun _ _ _ => rfl⟩, .inl rfl⟩
  | some ad =>
    have hc : ∀ j u, (strV L)[j]? = some u → w.cell? (ad.add j) = some u := fun j u hu => by
      rcases hrow with rfl | ⟨b, off, e, _, hcell⟩
      · simp [strV] at hu
      · cases e
        unfold strV at hu
        rw [List.getElem?_map] at hu
        obtain ⟨t, ht, rfl⟩ := Option.map_eq_some_iff.1 hu
        rw [Go.WideShapes.add_plain]
        exact hcell j t ht
    have hone : ∀ u ∈ strV L, u.oneCell' = true := fun u hu => by
      unfold strV at hu
      obtain ⟨t, _, rfl⟩ := List.mem_map.1 hu
      rfl
    obtain ⟨v', w', hr, h2, h3, _, h5⟩ := run_append_own_at (P := Try.prog) w base 27 ty 9 i0 (.string ⟨#[]⟩) 1 16 Try.underlying27 hi hz0 hz1 hz2 rfl (by decide) v n xs hown ad L.length c (strV L) (by rw [strV_length]; omega) hc hone (by unfold maxLen; omega) (by omega) hbase
    exact ⟨v', w', hr, h2, h3, h5⟩

theorem step_appS {ops : Array Oper} {o : Oper} {a : Act} {w : World} {Kp : Act → World → Prop} {Q : Exit → Act → World → Prop} {E : Prop} (hgd : o.guard = Option.none) (s x : Operand)
    (ho : o.op = .call { callee := .builtin .append, args := #[s, x], argTypes := #[27, 27] }) {base n : Nat} {v vf : Value} {xs : List Value} {L : List ByteArray} (hs : a.eval s = v) (hown : w.ownsRow base 9 1 v n xs) (hx : a.eval x = vf) (hf : StrRow w vf L) (hno : NilOk vf) (hb : n + L.length ≤ 1000000) (hbase : base ≤ w.heap.size)
    (h : ∀ v' w', w'.ownsRow base 9 1 v' (n + L.length) (xs ++ strV L) → w.grownBy w' v.ownBlock → Kp (a.put o.dst v') w') :
    if Region.wanted o (yielded ops a.tmps) = true then Oper.wp Try.prog o a w Kp Q else E := by
  have hw : Region.wanted o (yielded ops a.tmps) = true := by simp [Region.wanted, hgd]
  rw [if_pos hw]
  obtain ⟨v', w', hr, h2, h3, _⟩ := run_appS hown hf hno hb hbase o.type
  unfold Oper.wp execOp
  simp only [ho, resolve, invoke, builtin, Sem.run_bind, Sem.run_pure, Result.andThen_ok, List.map_toArray, List.map_cons, List.map_nil, hs, hx, hr]
  exact h v' w' h2 h3
end Go.Proofs.Ytofdnbddpageoaa.Nm
