/-
  rev, put, inc; what any verb comes to.
-/
import Derived.Test.YtgledabcfonbeaaGreatDoorCkJ9
import Derived.Lib.ConvBytes
namespace Go.Proofs.YtgledabcfonbeaaGreatDoor.Df
open Go.RowKit Go.Maps Go.Proofs.YtgledabcfonbeaaGreatDoor

/-- bytes in a block of bytes -/
def OV (W : World) (v : Value) (r : Bs) : Prop := Byt W v r ∧ ∀ g, v.ownBlock = some g → ∃ cur fz, W.heap[g]? = some (Obj.cells cur 5 fz)
theorem OV.kept {W W' : World} {v : Value} {r : Bs} (h : OV W v r) (hk : ∀ (g : Nat) (cur : Array Value) (fz : Nat × Nat), W.heap[g]? = some (Obj.cells cur 5 fz) → W'.heap[g]? = W.heap[g]?) : OV W' v r := by
  obtain ⟨⟨a, c, rfl, hc, hn, hrow⟩, hb⟩ := h
  refine ⟨⟨a, c, rfl, hc, hn, ?_⟩, fun g hg => ?_⟩
  · rcases hrow with h | ⟨g, off, rfl, hg, hcell⟩
    · exact .inl h
    · obtain ⟨cur, fz, hx⟩ := hb g rfl
      have h1 := hk g cur fz hx
      exact .inr ⟨g, off, rfl, lt_some (h1.trans hx), fun j p hp => (cell_of_block h1).trans (hcell j p hp)⟩
  · obtain ⟨cur, fz, hx⟩ := hb g hg
    exact ⟨cur, fz, (hk g cur fz hx).trans hx⟩
theorem OV.below {W W' : World} {v : Value} {r : Bs} (h : OV W v r) (hb : Below W.heap.size W W') : OV W' v r := h.kept fun g _ _ hc => hb.block g (lt_some hc)
theorem OV.slice {W : World} {v : Value} {r : Bs} (h : OV W v r) : ∃ a c, v = .slice a r.length c := by
  obtain ⟨⟨a, c, rfl, -⟩, -⟩ := h
  exact ⟨a, c, rfl⟩
theorem owns_ov {w : World} {base : Nat} {v : Value} {n : Nat} {r : Bs} (h : w.ownsRow base 5 1 v n (bytesV r)) : OV w v r :=
  ⟨owns_byt h, fun g hg => by
    obtain ⟨_, cur, hc⟩ := owns_block h hg
    exact ⟨cur, _, hc⟩⟩

/-- []byte(s) -/
theorem conv_mk (w : World) (s : Bs) : ∃ cap W1, (convert 9 24 (.string (mk s))).run Tryz.prog w = .ok (.slice (some ⟨w.heap.size, 0, none⟩) s.length cap) W1 ∧ OV W1 (.slice (some ⟨w.heap.size, 0, none⟩) s.length cap) s ∧ Below w.heap.size w W1 := by
  have hrun := Lib.run_convert_string_bytes (P := Tryz.prog) w 9 24 5 (mk s) Tryz.underlying9 Tryz.underlying24 Tryz.underlying5
  rw [mk_size] at hrun
  refine ⟨_, _, hrun, ⟨⟨_, _, rfl, ?_, (fun e => by cases e), .inr ⟨w.heap.size, 0, rfl, by rw [Lib.bytesWorld_size]; omega, fun j x hx => ?_⟩⟩, fun g hg => ?_⟩, ⟨rfl, rfl, rfl, by rw [Lib.bytesWorld_size]; omega, fun k hk => Lib.bytesWorld_at_old w 5 (mk s) k hk⟩⟩
  · exact grownCap_ge _ _ _ _
  · have hj : j < s.length := (List.getElem?_eq_some_iff.1 hx).1
    rw [Nat.zero_add, Lib.bytesWorld_cell w 5 (mk s) j (by rw [mk_size]; exact hj), mk_bytes, List.getD_eq_getElem?_getD, hx]
    rfl
  · have e : w.heap.size = g := Option.some.inj hg
    rw [← e]
    exact ⟨_, _, Lib.bytesWorld_at_new w 5 (mk s)⟩

/-- what a verb comes to: bytes, and what was found -/
def VbQ (W : World) (k m0 m1 m2 : Nat) (o : Option (Bs × List Bs)) (e : Ending) (w' : World) : Prop :=
  Fa o (fun p e => (∃ v, e = .returned v ∧ OV w' v p.1) ∧ ∃ n, Kw W.heap.size k m0 m1 m2 n p.2 w') e ∧ Fp W.heap.size k m2 XP W w'
/-- a kitchen that is new -/
structure Kf (W : World) (k m0 m1 m2 : Nat) (decl : List Bs) (n0 : Nat) (T : List Value) (F' : Bs → Option Value) (n1 : Nat) (F : Bs → Option Bs) : Prop where
  kb : Kb W k m0 m1 m2 decl n0 T F' n1 F
  new : W.heap[k]? = some (KtO m0 m1 0 (.slice none 0 0) m2)
  set : Si W 0 m2 (fun _ => false)
  fit : ∀ s b, F s = some b → b.length ≤ 1000000
section
variable {W : World} {k m0 m1 m2 n0 n1 : Nat} {decl : List Bs} {T : List Value} {F' : Bs → Option Value} {F : Bs → Option Bs}
theorem Kb.below {W' : World} (h : Kb W k m0 m1 m2 decl n0 T F' n1 F) (hb : Below W.heap.size W W') : Kb W' k m0 m1 m2 decl n0 T F' n1 F := by
  obtain ⟨⟨n, a, l, c, h1⟩, h2, h3, h4, ⟨es, cc, h5⟩, h6, h7, h8⟩ := h
  exact ⟨⟨n, a, l, c, (hb.block _ (lt_some h1)).trans h1⟩, h2.kept (hb.block _ h2.lt), h3.kept (hb.block _ h3.lt), h4, ⟨es, cc, (hb.block _ (lt_some h5)).trans h5⟩, h6, h7, h8.below hb⟩
theorem Kf.below {W' : World} (h : Kf W k m0 m1 m2 decl n0 T F' n1 F) (hb : Below W.heap.size W W') : Kf W' k m0 m1 m2 decl n0 T F' n1 F :=
  ⟨h.kb.below hb, (hb.block _ (lt_some h.new)).trans h.new, h.set.kept (hb.block _ h.set.lt), h.fit⟩
theorem Kf.kn (h : Kf W k m0 m1 m2 decl n0 T F' n1 F) : Kn W k m0 m1 m2 0 (.slice none 0 0) decl n0 T F' n1 := ⟨h.new, h.kb.dm, h.kb.fm, h.kb.zf⟩
theorem Kf.kw (h : Kf W k m0 m1 m2 decl n0 T F' n1 F) (B : Nat) : Kw B k m0 m1 m2 0 [] W :=
  ⟨none, 0, 0, h.new, World.ownsRow_nil _ _ _ _, h.set, Nat.le_refl _⟩
/-- a verb that reads alone -/
theorem VeQ.vb (h : Kf W k m0 m1 m2 decl n0 T F' n1 F) {o : Option Bs} {e : Ending} {w' : World} (hq : VeQ W o e w') : VbQ W k m0 m1 m2 (o.map fun r => (r, [])) e w' := by
  obtain ⟨hq, hb⟩ := hq
  refine ⟨?_, Fp.of_below hb (Nat.le_refl _)⟩
  cases o with
  | none => exact hq
  | some r =>
    obtain ⟨v, rfl, hv, -⟩ := hq
    exact ⟨⟨v, rfl, owns_ov hv⟩, 0, (h.below hb).kw _⟩

def revO (decl : List Bs) (F : Bs → Option Bs) : List Bs → Option Bs
  | [a] => (argO decl F a).bind fun b => (growO [] b).map List.reverse
  | _ => none
def incO (decl : List Bs) (F : Bs → Option Bs) : List Bs → Option (Bs × List Bs)
  | [a] => (argO decl F a).bind fun b => (putO F 10 b ⟨[], 0, []⟩).map fun s => (s.whole, s.found)
  | _ => none

theorem argO_len {fit : ∀ s b, F s = some b → b.length ≤ 1000000} {a b : Bs} (h : argO decl F a = some b) : b.length ≤ 1000000 ∧ F a = some b := by
  unfold argO at h
  split at h
  · exact ⟨fit _ _ h, h⟩
  · cases h

set_option maxRecDepth 100000 in
set_option maxHeartbeats 8000000 in
theorem rev_a (h : Kf W k m0 m1 m2 decl n0 T F' n1 F) {av : Value} {A : List Bs} (hav : Strs W av A) (hal : A.length ≤ 1000000) (hax : ∀ a ∈ A, a.length ≤ 1000000) :
    Calls Tryz.prog 47 #[.pointer (some ⟨k, 0, none⟩), av] W (VeQ W (revO decl F A)) := by
  match A, hav, hal, hax with
  | [], hav, _, _ =>
    obtain ⟨aa, ac, rfl, -, -⟩ := hav
    have hn := need_f W
    clear h
    go_enter Tryz.func47, Tryz.ntmps47
    go_wp2_with fail
    refine hn.mono ?_
    rintro e w1 ⟨rfl, rfl⟩
    exact ⟨rfl, rfl, Below.refl _ _⟩
  | x :: y :: K, hav, hal, _ =>
    obtain ⟨aa, ac, rfl, -, -⟩ := hav
    have hn := need_f W
    have hlen : (((x :: y :: K).length : Int) == 1) = false := by rw [beq_eq_false_iff_ne]; simp; omega
    have HR : Hid (revO decl F (x :: y :: K) = none) := Lib.hid rfl
    generalize (x :: y :: K).length = N at *
    clear h
    go_enter Tryz.func47, Tryz.ntmps47
    go_wp2_with fail
    refine hn.mono ?_
    rintro e w1 ⟨rfl, rfl⟩
    refine ⟨rfl, ?_, Below.refl _ _⟩
    rw [HR.out]
    rfl
  | [x], hav, _, hax =>
    have ca := argument_a h.kn h.kb.ft (hax x (List.mem_singleton.2 rfl))
    have hn := need_t W
    have HAL : Hid (∀ b, argO decl F x = some b → b.length ≤ 1000000) := Lib.hid fun b hb => (argO_len (fit := h.fit) hb).1
    have hr : revO decl F [x] = (argO decl F x).bind fun b => (growO [] b).map List.reverse := rfl
    rw [hr]
    obtain ⟨aa, ac, rfl, hac, hrow⟩ := hav
    rcases hrow with h0 | ⟨g, off, rfl, hg, hcell⟩
    · cases h0
    have c0 : W.cell? ⟨g, off, none⟩ = some (.string (mk x)) := hcell 0 x rfl
    generalize argO decl F x = o at *
    clear h hr hcell hax
    go_enter Tryz.func47, Tryz.ntmps47
    go_wp2_with fail
    refine hn.mono ?_
    rintro e w1 ⟨rfl, rfl⟩
    clear hn
    go_wp2_with fail
    refine ca.mono ?_
    rintro e w2 ⟨hq, hb2⟩
    have HB2 := Lib.hid hb2
    cases o with
    | none =>
      obtain rfl : e = .panicked pch := hq
      exact ⟨rfl, rfl, HB2.out⟩
    | some b =>
    obtain ⟨v, rfl, hv, -⟩ := hq
    have hbl := HAL.out b rfl
    have cg := grown_a (W := w2) (base := W.heap.size) (a := none) (c := 0) (b := []) (World.ownsRow_nil _ _ _ _) HB2.out.size hv (by simp) hbl
    have cg2 : Calls Tryz.prog 61 #[.slice none 0 0, v] w2 fun e w' => (match growO [] b with
      | some r => GrQ w2 W.heap.size none r e w'
      | none => e = .panicked pch ∧ w2 = w') := cg
    have HGL : Hid (∀ r, growO [] b = some r → r.length ≤ 65536) := Lib.hid fun r h => (growO_len h).1
    have hbind : ((some b).bind fun b => (growO [] b).map List.reverse) = (growO [] b).map List.reverse := rfl
    have HBI := Lib.hid hbind
    generalize growO [] b = o2 at *
    clear ca hb2 hv cg hbind
    go_wp2_with fail
    refine cg2.mono ?_
    cases o2 with
    | none =>
      rintro e w3 ⟨rfl, rfl⟩
      refine ⟨rfl, ?_, HB2.out⟩
      rw [HBI.out]
      rfl
    | some r =>
    rintro e w3 ⟨a3, c3, rfl, ho3, hg3⟩
    have hB3 := HB2.out.trans ⟨hg3.os, hg3.tape, hg3.output, hg3.size, fun q hq => hg3.block q (by have := HB2.out.size; omega) (fun e => by cases e)⟩
    have hrl := HGL.out r rfl
    have cr := reverse_c ho3 (by omega)
    have HO3 := Lib.hid ho3
    have HB3 := Lib.hid hB3
    clear cg2 ho3 hg3 hB3
    go_wp2_with fail
    refine cr.mono ?_
    rintro e w4 ⟨rfl, ho4, hg4⟩
    have HO4 := Lib.hid ho4
    have HB4 := Lib.hid (grown_below HB3.out hg4 (own_lo HO3.out))
    clear cr ho4 hg4
    go_wp2_with fail
    go_ret
    refine ⟨?_, HB4.out⟩
    rw [HBI.out]
    refine ⟨_, rfl, ?_, by rw [List.length_reverse]; exact hrl⟩
    rw [List.length_reverse]
    exact HO4.out

theorem Fp.lower {B B2 k m : Nat} {X : List TypeId} {W W' : World} (h : Fp B k m X W W') (hB : B2 ≤ B) : Fp B2 k m X W W' := ⟨h.os, h.tape, h.output, h.size, fun q hq => h.low q (Nat.lt_of_lt_of_le hq hB), h.typed⟩
theorem owns_lower {w : World} {base base2 : Nat} {e : TypeId} {sz : Nat} {v : Value} {n : Nat} {xs : List Value} (h : w.ownsRow base e sz v n xs) (hB : base2 ≤ base) : w.ownsRow base2 e sz v n xs := by
  refine ⟨h.1, ?_⟩
  rcases h.2 with h | ⟨g, cap, cur, rfl, hb, hr⟩
  · exact .inl h
  · exact .inr ⟨g, cap, cur, rfl, Nat.le_trans hB hb, hr⟩
theorem Kw.lower {B B2 n : Nat} {found : List Bs} {W' : World} (h : Kw B k m0 m1 m2 n found W') (hB : B2 ≤ B) : Kw B2 k m0 m1 m2 n found W' := by
  obtain ⟨fa, fc, n2, h1, h2, h3⟩ := h
  exact ⟨fa, fc, n2, h1, owns_lower h2 hB, h3⟩

set_option maxRecDepth 100000 in
set_option maxHeartbeats 8000000 in
theorem inc_a (h : Kf W k m0 m1 m2 decl n0 T F' n1 F) {av : Value} {A : List Bs} (hav : Strs W av A) (hal : A.length ≤ 1000000) (hax : ∀ a ∈ A, a.length ≤ 1000000) :
    Calls Tryz.prog 50 #[.pointer (some ⟨k, 0, none⟩), av] W (VbQ W k m0 m1 m2 (incO decl F A)) := by
  match A, hav, hal, hax with
  | [], hav, _, _ =>
    obtain ⟨aa, ac, rfl, -, -⟩ := hav
    have hn := need_f W
    clear h
    go_enter Tryz.func50, Tryz.ntmps50
    go_wp2_with fail
    refine hn.mono ?_
    rintro e w1 ⟨rfl, rfl⟩
    exact ⟨rfl, rfl, Fp.refl _ _ _ _ _⟩
  | x :: y :: K, hav, hal, _ =>
    obtain ⟨aa, ac, rfl, -, -⟩ := hav
    have hn := need_f W
    have hlen : (((x :: y :: K).length : Int) == 1) = false := by rw [beq_eq_false_iff_ne]; simp; omega
    have HR : Hid (incO decl F (x :: y :: K) = none) := Lib.hid rfl
    generalize (x :: y :: K).length = N at *
    clear h
    go_enter Tryz.func50, Tryz.ntmps50
    go_wp2_with fail
    refine hn.mono ?_
    rintro e w1 ⟨rfl, rfl⟩
    refine ⟨rfl, ?_, Fp.refl _ _ _ _ _⟩
    rw [HR.out]
    rfl
  | [x], hav, _, hax =>
    have ca := argument_a h.kn h.kb.ft (hax x (List.mem_singleton.2 rfl))
    have hn := need_t W
    have HAL : Hid (∀ b, argO decl F x = some b → b.length ≤ 1000000 ∧ F x = some b) := Lib.hid fun b hb => argO_len (fit := h.fit) hb
    have hr : incO decl F [x] = (argO decl F x).bind fun b => (putO F 10 b ⟨[], 0, []⟩).map fun s => (s.whole, s.found) := rfl
    rw [hr]
    obtain ⟨aa, ac, rfl, hac, hrow⟩ := hav
    rcases hrow with h0 | ⟨g, off, rfl, hg, hcell⟩
    · cases h0
    have c0 : W.cell? ⟨g, off, none⟩ = some (.string (mk x)) := hcell 0 x rfl
    have H := Lib.hid h
    generalize argO decl F x = o at *
    clear h hr hcell hax
    go_enter Tryz.func50, Tryz.ntmps50
    go_wp2_with fail
    refine hn.mono ?_
    rintro e w1 ⟨rfl, rfl⟩
    clear hn
    go_wp2_with fail
    refine ca.mono ?_
    rintro e w2 ⟨hq, hb2⟩
    have HB2 := Lib.hid hb2
    cases o with
    | none =>
      obtain rfl : e = .panicked pch := hq
      exact ⟨rfl, rfl, Fp.of_below HB2.out (Nat.le_refl _)⟩
    | some b =>
    obtain ⟨v, rfl, hv, hat⟩ := hq
    obtain ⟨hbl, hFx⟩ := HAL.out b rfl
    have hkf := H.out.below hb2
    obtain ⟨hbyt, -, hcap⟩ := hkf.kb.ft.at hFx hat
    have cP := putIn_a hkf.kb 10 0 rfl w2 0 [] [] b v none 0 (Fp.refl _ _ _ _ _) (hkf.kw _) ⟨by simp, by simp, by simp⟩ (World.ownsRow_nil _ _ _ _) hbyt hbl hcap
    have cP2 : Calls Tryz.prog 69 #[.pointer (some ⟨k, 0, none⟩), .slice none 0 0, v, .int .i64 0] w2 (PuQ w2.heap.size k m0 m1 m2 (putO F 10 b ⟨[], 0, []⟩) w2) := cP
    have HBI := Lib.hid (show ((some b).bind fun b => (putO F 10 b ⟨[], 0, []⟩).map fun s => (s.whole, s.found)) = (putO F 10 b ⟨[], 0, []⟩).map fun s => (s.whole, s.found) from rfl)
    unfold PuQ at cP2
    generalize putO F 10 b ⟨[], 0, []⟩ = o2 at *
    clear ca hb2 hv hat hkf hbyt hcap cP hFx
    go_wp2_with fail
    refine cP2.mono ?_
    rintro e w3 ⟨hq, hf3⟩
    have HF3 := Lib.hid ((Fp.of_below (B := W.heap.size) (k := k) (m := m2) (X := XP) HB2.out (Nat.le_refl _)).trans (hf3.lower HB2.out.size))
    cases o2 with
    | none =>
      obtain rfl : e = .panicked pch := hq
      refine ⟨rfl, ?_, HF3.out⟩
      rw [HBI.out]
      rfl
    | some st =>
    obtain ⟨a3, c3, rfl, ho3, hk3⟩ := hq
    have HO3 := Lib.hid (owns_ov ho3)
    have HK3 := Lib.hid (hk3.lower HB2.out.size)
    clear cP2 ho3 hk3 hf3
    go_wp2_with fail
    go_ret
    refine ⟨?_, HF3.out⟩
    rw [HBI.out]
    exact ⟨⟨_, rfl, HO3.out⟩, _, HK3.out⟩
end
end Go.Proofs.YtgledabcfonbeaaGreatDoor.Df

/-! put: words, with blanks between. -/
namespace Go.Proofs.YtgledabcfonbeaaGreatDoor.Df
open Go.RowKit Go.Maps Go.Proofs.YtgledabcfonbeaaGreatDoor

def joinS (K : List Bs) : Bs := Lib.join K [32]
theorem joinS_nil : joinS [] = [] := rfl
theorem joinS_one (p : Bs) : joinS [p] = p := Lib.join_one p [32]
theorem joinS_cons (p q : Bs) (r : List Bs) : joinS (p :: q :: r) = p ++ 32 :: joinS (q :: r) := by
  unfold joinS
  rw [Lib.join_cons, Lib.join_cons]
  simp [Lib.joinTail]
theorem joinS_len (N : Nat) : ∀ K : List Bs, (∀ x ∈ K, x.length ≤ N) → (joinS K).length ≤ (N + 1) * K.length
  | [], _ => by simp [joinS_nil]
  | [p], h => by rw [joinS_one]; have := h p (List.mem_singleton.2 rfl); simp; omega
  | p :: q :: r, h => by
    have h1 := joinS_len N (q :: r) (fun x hx => h x (List.mem_cons_of_mem _ hx))
    have h2 := h p List.mem_cons_self
    rw [joinS_cons, List.length_append, List.length_cons]
    rw [List.length_cons (a := p), Nat.mul_add]
    omega
theorem join_empty (a : Option Addr) (c : Nat) (s : ByteArray) (w : World) : Calls Tryz.prog 68 #[.slice a 0 c, .string s] w fun e w' => e = .returned (.string ⟨#[]⟩) ∧ w' = w := by
  go_enter Tryz.func68, Tryz.ntmps68
  go_wp2_with fail
  go_ret
  exact ⟨rfl, rfl⟩
theorem join_a {w : World} {v : Value} {K : List Bs} (h : Strs w v K) (hl : K.length ≤ 1000000) (hx : ∀ x ∈ K, x.length ≤ 1000000) :
    Calls Tryz.prog 68 #[v, .string ⟨#[32]⟩] w fun e w' => e = .returned (.string (mk (joinS K))) ∧ Below w.heap.size w w' := by
  obtain ⟨a, c, rfl, hc, hrow⟩ := h
  rcases hrow with rfl | ⟨g, off, rfl, hg, hcell⟩
  · exact (join_empty a c _ w).mono fun e w' ⟨h1, h2⟩ => ⟨h1, by rw [h2]; exact Below.refl _ _⟩
  · have hjl : (Lib.join ((K.map mk).map (·.data.toList)) [32]).length ≤ 140737488355328 := by
      have h1 := joinS_len 1000000 K hx
      have h2 : (K.map mk).map (·.data.toList) = K := by rw [List.map_map]; conv => rhs; rw [← List.map_id K]
                                                         exact List.map_congr_left fun x _ => mk_bytes x
      rw [h2]
      have h3 : (1000000 + 1) * K.length ≤ (1000000 + 1) * 1000000 := Nat.mul_le_mul_left _ hl
      exact Nat.le_trans h1 (Nat.le_trans h3 (by decide))
    have h2 : (K.map mk).map (·.data.toList) = K := by
      rw [List.map_map]
      conv => rhs; rw [← List.map_id K]
      exact List.map_congr_left fun x _ => mk_bytes x
    have hj := shstringsJoin g off c (K.map mk) ⟨#[32]⟩ w (fun j x hj => by
      rw [List.getElem?_map] at hj
      obtain ⟨y, hy, rfl⟩ := Option.map_eq_some_iff.1 hj
      exact hcell j y hy) hg (by rw [List.length_map]; omega) (by rw [List.length_map]; exact hc) hjl
    rw [List.length_map, h2] at hj
    exact hj

def txtO (A : List Bs) : Option Bs := growO [] (joinS A ++ [10])
section
variable {W : World}
set_option maxRecDepth 100000 in
set_option maxHeartbeats 8000000 in
theorem put_a (kv : Value) {av : Value} {A : List Bs} (hav : Strs W av A) (hal : A.length ≤ 1000000) (hax : ∀ a ∈ A, a.length ≤ 1000000) (hjl : (joinS A).length ≤ 900000) :
    Calls Tryz.prog 49 #[kv, av] W (VeQ W (txtO A)) := by
  have cj := join_a hav hal hax
  unfold txtO
  obtain ⟨aa, ac, rfl, -, -⟩ := hav
  generalize joinS A = J at *
  have hbig : ¬ 9223372036854775807 < (mk J).size + (mk ([10] : Bs)).size := by rw [mk_size, mk_size]; simp; omega
  have hcat : mk J ++ mk ([10] : Bs) = mk (J ++ [10]) := mk_append J [10]
  have hcat2 : mk J ++ ⟨#[10]⟩ = mk (J ++ [10]) := hcat
  have hbig2 : ¬ 9223372036854775807 < (mk J).size + (⟨#[10]⟩ : ByteArray).size := hbig
  have HCV := Lib.hid (fun w => conv_mk w (J ++ [10]))
  have hJl : (J ++ [10]).length ≤ 1000000 := by simp; omega
  clear hax hcat hbig
  go_enter Tryz.func49, Tryz.ntmps49
  go_wp2_with fail
  refine cj.mono ?_
  rintro e w1 ⟨rfl, hb1⟩
  obtain ⟨cap, w2, hcv, hov, hb2⟩ := HCV.out w1
  have HB2 := Lib.hid (hb1.trans (hb2.mono hb1.size))
  have cg := grown_a (W := w2) (base := W.heap.size) (a := none) (c := 0) (b := []) (World.ownsRow_nil _ _ _ _) HB2.out.size hov.1 (by simp) hJl
  have HGL : Hid (∀ r, growO [] (J ++ [10]) = some r → r.length ≤ 65536) := Lib.hid fun r h => (growO_len h).1
  have cg2 : Calls Tryz.prog 61 #[.slice none 0 0, .slice (some ⟨w1.heap.size, 0, none⟩) (J ++ [10]).length cap] w2 fun e w' => (match growO [] (J ++ [10]) with
      | some r => GrQ w2 W.heap.size none r e w'
      | none => e = .panicked pch ∧ w2 = w') := cg
  clear cj hb1 hb2 hov cg
  generalize (J ++ [10]).length = nJ at *
  go_wp2_with fail
  refine cg2.mono ?_
  cases ho : growO [] (J ++ [10]) with
  | none =>
    rintro e w3 ⟨rfl, rfl⟩
    exact ⟨rfl, rfl, HB2.out⟩
  | some r =>
  rintro e w3 ⟨a3, c3, rfl, ho3, hg3⟩
  have HO3 := Lib.hid ho3
  have HB3 := Lib.hid (HB2.out.trans ⟨hg3.os, hg3.tape, hg3.output, hg3.size, fun q hq => hg3.block q (by have := HB2.out.size; omega) (fun e => by cases e)⟩)
  have HR := Lib.hid ho
  clear cg2 ho3 hg3 ho
  go_wp2_with fail
  go_ret
  refine ⟨?_, HB3.out⟩
  rw [HR.out]
  exact ⟨_, rfl, HO3.out, HGL.out r HR.out⟩
end
end Go.Proofs.YtgledabcfonbeaaGreatDoor.Df
