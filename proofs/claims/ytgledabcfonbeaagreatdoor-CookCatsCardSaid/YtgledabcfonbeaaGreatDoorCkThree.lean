/-
  Names that differ; rows of bytes; grown.
-/
import Derived.Test.YtgledabcfonbeaaGreatDoorCkTwo
namespace Go.Proofs.YtgledabcfonbeaaGreatDoor.Df
open Go.RowKit Go.Maps Go.Proofs.YtgledabcfonbeaaGreatDoor

theorem onceC_snoc (L : List Bs) (x : Bs) : onceL (L ++ [x]) = if (onceL L).contains x then onceL L else onceL L ++ [x] := by unfold onceL; simp
theorem onceC_len : ∀ (n : Nat) (L : List Bs), L.length = n → (onceL L).length ≤ L.length := by
  intro n
  induction n with
  | zero => intro L h; obtain rfl : L = [] := List.eq_nil_of_length_eq_zero h; simp [onceL]
  | succ n ih =>
    intro L h
    rcases List.eq_nil_or_concat L with rfl | ⟨K, x, rfl⟩
    · simp at h
    · rw [List.concat_eq_append] at h ⊢
      have := ih K (by simp at h; exact h)
      rw [onceC_snoc]
      split
      · simp; omega
      · simp; exact this

/-- block m is a set of the names of L, of which none stands twice -/
def Sn (w : World) (n m : Nat) (L : List Bs) : Prop :=
  ∃ D : DW, w.ownsMap Tryz.prog 9 setE m n D ∧ (∀ l, Maps.has D (.string l) = L.contains l) ∧ Maps.size D = L.length
section
variable {w w' : World} {n m : Nat} {L : List Bs}
theorem Sn.lt (h : Sn w n m L) : m < w.heap.size := by obtain ⟨D, h, _⟩ := h; exact h.lt
theorem Sn.made (w : World) : Sn (w.alloc (.map #[] 0)) 0 w.heap.size [] := ⟨.map [], World.ownsMap_made _ _ _ _, fun _ => rfl, rfl⟩
theorem Sn.kept (h : Sn w n m L) (hb : w'.heap[m]? = w.heap[m]?) : Sn w' n m L := by
  obtain ⟨D, ⟨es, c, hm, r1, r2, r3⟩, r⟩ := h
  exact ⟨D, ⟨es, c, hb.trans hm, r1, r2, r3⟩, r⟩
theorem Sn.put (h : Sn w n m L) (hn : n < maxLen) {s : Bs} (hl : s.length ≤ maxLen) :
    ∃ w', (Instr.mapUpdate 81 (.map (some m)) (.string (mk s)) (.agg #[])).run Tryz.prog w = .ok () w' ∧ Sn w' (n + 1) m (if L.contains s then L else L ++ [s]) ∧ w.grownBy w' (some m) := by
  obtain ⟨D, hD, hhas, hsz⟩ := h
  obtain ⟨w', hrun, ho, ht⟩ := hD.store law9 Tryz.underlying81 hn (val := .agg #[]) (d := .lit (.int .i64 0)) (ps := []) (keyS hl) setE_at
  have hk : WideAt.IsKeyLit (.string s) := law9.key (keyS hl)
  refine ⟨w', hrun, ⟨_, ho, fun x => ?_, ?_⟩, ht.grown⟩
  · by_cases hx : x = s
    · subst hx
      rw [has_put_same hD.isMap hk]
      split
      · rename_i h; exact h.symm
      · simp
    · rw [has_put_other (by intro e; cases e; exact hx rfl), hhas]
      split
      · rfl
      · simp [hx]
  · rw [size_put (hD.tidy law9), hhas, hsz]
    split <;> simp
theorem Sn.len (h : Sn w n m L) (ty : TypeId) : (Builtin.len_ #[81] ty #[.map (some m)]).run Tryz.prog w = .ok (.int .i64 (L.length : Nat)) w := by
  obtain ⟨D, hD, _, hsz⟩ := h
  rw [← hsz]
  exact hD.len Tryz.underlying81 ty
end

set_option maxRecDepth 100000 in
set_option maxHeartbeats 4000000 in
theorem allDiffer_c {w : World} {v : Value} {L : List Bs} (h : Strs w v L) (hL : L.length ≤ 1000000) (hx : ∀ x ∈ L, x.length ≤ 1000000) :
    Calls Tryz.prog 35 #[v] w fun e w' => e = .returned (.bool (decide ((onceL L).length = L.length))) ∧ Below w.heap.size w w' := by
  have hmk := @run_makeMap Tryz.prog
  have HS := Lib.hid h
  have HX := Lib.hid hx
  obtain ⟨a, c, rfl, hc, -⟩ := h
  obtain ⟨w1, hw1⟩ : ∃ W, w.alloc (.map #[] 0) = W := ⟨_, rfl⟩
  have HB1 : Hid (Below w.heap.size w w1) := Lib.hid (by rw [← hw1]; exact below_alloc _ _)
  have hm1 : Sn w1 0 w.heap.size [] := by rw [← hw1]; exact Sn.made w
  obtain ⟨m, hm⟩ : ∃ m, w.heap.size = m := ⟨_, rfl⟩
  have HM := Lib.hid hm
  have S0 : Hid (Sn w1 0 m (onceL (L.take 0))) := Lib.hid (by rw [← hm]; exact hm1)
  clear hm1 hx
  go_enter Tryz.func35, Tryz.ntmps35
  go_wp2_with fail
  clear hm
  go_loopw [5, 9] (fun _ i wr => ∃ (j : Nat), j ≤ L.length ∧ i = .int .i64 j ∧ Hid (Sn wr j m (onceL (L.take j))) ∧ Hid (Below w.heap.size w wr)) (fun _ i _ => L.length - (intOf i).toNat)
  case atStart => exact ⟨0, Nat.zero_le _, rfl, S0, HB1⟩
  case round =>
    obtain ⟨j, hj, rfl, hS, hB⟩ := hrel
    clear S0
    by_cases hlt : j < L.length
    · have hxj := List.getElem?_eq_getElem hlt
      have hxl := HX.out _ (List.getElem_mem hlt)
      obtain ⟨_, _, e, _, hrow⟩ := HS.out.below hB.out
      cases e
      rcases hrow with h0 | ⟨g, off, rfl, hg, hcell⟩
      · rw [h0] at hlt; simp at hlt
      have c0 := hcell j _ hxj
      have hot : onceL (L.take (j + 1)) = if (onceL (L.take j)).contains L[j] then onceL (L.take j) else onceL (L.take j) ++ [L[j]] := by
        rw [List.take_add_one, hxj]
        exact onceC_snoc _ _
      generalize L[j] = x at *
      obtain ⟨w2, hput, hS2, hg2⟩ := hS.out.put (by unfold maxLen; omega) (s := x) (by unfold maxLen; omega)
      rw [← hot] at hS2
      have HS2 := Lib.hid hS2
      have HB2 : Hid (Below w.heap.size w w2) := Lib.hid (hB.out.trans ⟨hg2.os, hg2.tape, hg2.output, hg2.size, fun q hq => hg2.block q (by have := hB.out.size; omega) (fun e => by have := Option.some.inj e; have := HM.out; omega)⟩)
      have hi0 : (0 : Int) ≤ (j : Int) := by omega
      have hi1 : (j : Int) < (L.length : Int) := by omega
      clear hcell hxj hot hS2 hg2
      go_wp2_with fail
      go_roundw
      case rel => exact ⟨j + 1, by omega, by go_num, HS2, HB2⟩
      case measure => simp [intOf] <;> omega
    · obtain rfl : j = L.length := by omega
      rw [List.take_length] at hS
      have hlen := hS.out.len
      have HO := Lib.hid (onceC_len _ L rfl)
      obtain ⟨q, hq0⟩ : ∃ q, (onceL L).length = q := ⟨_, rfl⟩
      rw [hq0] at hlen HO
      have HQ := Lib.hid hq0
      clear hq0
      by_cases hq : q = L.length
      · have e1 : decide (q = L.length) = true := decide_eq_true hq
        have e2 : ((q : Int) == (L.length : Int)) = true := by rw [hq]; simp
        have HE := Lib.hid e1
        clear e1 hq
        go_wp2_with fail
        go_ret
        exact ⟨by rw [HQ.out, HE.out]; rfl, hB.out⟩
      · have e1 : decide (q = L.length) = false := decide_eq_false hq
        have e2 : ((q : Int) == (L.length : Int)) = false := by rw [beq_eq_false_iff_ne]; omega
        have HE := Lib.hid e1
        clear e1 hq
        go_wp2_with fail
        go_ret
        exact ⟨by rw [HQ.out, HE.out]; rfl, hB.out⟩
end Go.Proofs.YtgledabcfonbeaaGreatDoor.Df
