/-
  FOUR CHAINS OF TWO OPERATIONS IN A REGION THAT DRAWS ITS ORDER: whatever order is picked, what is known of each chain is enough.
-/
import Derived.Test.YtbflodefmookiaaRgHold
import Derived.Below
namespace Go.Proofs.Ytbflodefmookiaa.Nt
open Go Go.RowKit

def upd4 (z : Nat → Value) (j : Nat) (v : Value) : Nat → Value := fun i => if i = j then v else z i
theorem upd4_same (z : Nat → Value) (j : Nat) (v : Value) : upd4 z j v j = v := if_pos rfl
theorem upd4_ne (z : Nat → Value) {i j : Nat} (v : Value) (h : i ≠ j) : upd4 z j v i = z i := if_neg h

section
variable {P : Program} {ops : Array Oper} {Q : Exit → Act → World → Prop} {md : Region.Mode} {SS : World → Prop} {n : Nat}

def all3 (f : Nat → Bool) : Bool := f 0 && f 1 && f 2
theorem all3_spec {f : Nat → Bool} (h : all3 f = true) : ∀ k, k < 3 → f k = true := by
  intro k hk
  unfold all3 at h
  simp only [Bool.and_eq_true] at h
  rcases (by omega : k = 0 ∨ k = 1 ∨ k = 2) with rfl | rfl | rfl
  · exact h.1.1
  · exact h.1.2
  · exact h.2

/-- what is ready at each state is the next one of a chain -/
def readyB (md : Region.Mode) (ops : Array Oper) (op : Nat → Nat → Nat) (L : Nat → Nat → Nat → Nat → Array Bool) : Bool :=
  all3 fun n0 => all3 fun n1 => all3 fun n2 => all3 fun n3 => Nat.ble 8 (n0 + n1 + n2 + n3) ||
    (!(Region.ready md ops (L n0 n1 n2 n3)).isEmpty && (Region.ready md ops (L n0 n1 n2 n3)).all fun i => (Nat.blt n0 2 && Nat.beq i (op 0 n0)) || (Nat.blt n1 2 && Nat.beq i (op 1 n1)) || (Nat.blt n2 2 && Nat.beq i (op 2 n2)) || (Nat.blt n3 2 && Nat.beq i (op 3 n3)))
def setB (op : Nat → Nat → Nat) (L : Nat → Nat → Nat → Nat → Array Bool) : Bool :=
  all3 fun n0 => all3 fun n1 => all3 fun n2 => all3 fun n3 =>
    (Nat.ble 2 n0 || decide ((L n0 n1 n2 n3).setIfInBounds (op 0 n0) true = L (n0 + 1) n1 n2 n3)) && (Nat.ble 2 n1 || decide ((L n0 n1 n2 n3).setIfInBounds (op 1 n1) true = L n0 (n1 + 1) n2 n3)) &&
    (Nat.ble 2 n2 || decide ((L n0 n1 n2 n3).setIfInBounds (op 2 n2) true = L n0 n1 (n2 + 1) n3)) && (Nat.ble 2 n3 || decide ((L n0 n1 n2 n3).setIfInBounds (op 3 n3) true = L n0 n1 n2 (n3 + 1)))

theorem par4 (A : (Nat → Value) → Act) (op : Nat → Nat → Nat) (L : Nat → Nat → Nat → Nat → Array Bool) (F : Nat) (W : World → Prop) (S : Nat → Nat → (Nat → Value) → World → Prop)
    (hr : readyB md ops op L = true) (hl : setB op L = true)
    (hstep : ∀ k, k < 4 → ∀ m, m < 2 → ∀ z w, W w → S k m z w → ∀ K : Act → World → Prop, (∀ v w', W w' → Below w.heap.size w w' → S k (m + 1) (upd4 z (2 * k + m) v) w' → K (A (upd4 z (2 * k + m) v)) w') → wpOp P ops Q (op k m) K (A z) w)
    (hmono : ∀ k m z w w' j v, S k m z w → Below w.heap.size w w' → j ≠ 2 * k → j ≠ 2 * k + 1 → S k m (upd4 z j v) w')
    (hSS : ∀ w, W w → SS w)
    (hfin : ∀ z w, W w → S 0 2 z w → S 1 2 z w → S 2 2 z w → S 3 2 z w → wpAnyN P md ops Q SS n F (L 2 2 2 2) (A z) w) :
    ∀ r n0 n1 n2 n3, n0 ≤ 2 → n1 ≤ 2 → n2 ≤ 2 → n3 ≤ 2 → n0 + n1 + n2 + n3 + r = 8 → ∀ z w, W w → S 0 n0 z w → S 1 n1 z w → S 2 n2 z w → S 3 n3 z w → wpAnyN P md ops Q SS n (r + F) (L n0 n1 n2 n3) (A z) w := by
  intro r
  induction r with
  | zero =>
    intro n0 n1 n2 n3 h0 h1 h2 h3 hs z w hW s0 s1 s2 s3
    obtain rfl : n0 = 2 := by omega
    obtain rfl : n1 = 2 := by omega
    obtain rfl : n2 = 2 := by omega
    obtain rfl : n3 = 2 := by omega
    rw [Nat.zero_add]
    exact hfin z w hW s0 s1 s2 s3
  | succ r ih =>
    intro n0 n1 n2 n3 h0 h1 h2 h3 hs z w hW s0 s1 s2 s3
    have hR := all3_spec (all3_spec (all3_spec (all3_spec hr n0 (by omega)) n1 (by omega)) n2 (by omega)) n3 (by omega)
    have hL := all3_spec (all3_spec (all3_spec (all3_spec hl n0 (by omega)) n1 (by omega)) n2 (by omega)) n3 (by omega)
    have h8 : Nat.ble 8 (n0 + n1 + n2 + n3) = false := by
      rw [Bool.eq_false_iff]
      intro h
      have := Nat.le_of_ble_eq_true h
      omega
    rw [h8, Bool.false_or, Bool.and_eq_true, Bool.not_eq_true'] at hR
    obtain ⟨hne, hall⟩ := hR
    rw [List.all_eq_true] at hall
    simp only [Bool.and_eq_true, Bool.or_eq_true, decide_eq_true_eq] at hL
    obtain ⟨⟨⟨hl0, hl1⟩, hl2⟩, hl3⟩ := hL
    have ble2 : ∀ {k : Nat}, k < 2 → ¬ Nat.ble 2 k = true := fun hk h => by have := Nat.le_of_ble_eq_true h; omega
    rw [show r + 1 + F = (r + F) + 1 by omega]
    refine ⟨fun h => by rw [h] at hne; simp at hne, fun i hi => ?_⟩
    have hi2 := hall i hi
    simp only [Bool.or_eq_true, Bool.and_eq_true] at hi2
    rcases hi2 with ((⟨hb, he⟩ | ⟨hb, he⟩) | ⟨hb, he⟩) | ⟨hb, he⟩ <;> (have hb := Nat.le_of_ble_eq_true hb; obtain rfl := Nat.eq_of_beq_eq_true he)
    · refine hstep 0 (by decide) n0 hb z w hW s0 _ fun v w' hW' hB hS' => ⟨fun _ => hSS w' hW', ?_⟩
      rw [hl0.resolve_left (ble2 hb)]
      exact ih (n0 + 1) n1 n2 n3 hb h1 h2 h3 (by omega) _ w' hW' hS' (hmono _ _ _ _ _ _ _ s1 hB (by omega) (by omega)) (hmono _ _ _ _ _ _ _ s2 hB (by omega) (by omega)) (hmono _ _ _ _ _ _ _ s3 hB (by omega) (by omega))
    · refine hstep 1 (by decide) n1 hb z w hW s1 _ fun v w' hW' hB hS' => ⟨fun _ => hSS w' hW', ?_⟩
      rw [hl1.resolve_left (ble2 hb)]
      exact ih n0 (n1 + 1) n2 n3 h0 hb h2 h3 (by omega) _ w' hW' (hmono _ _ _ _ _ _ _ s0 hB (by omega) (by omega)) hS' (hmono _ _ _ _ _ _ _ s2 hB (by omega) (by omega)) (hmono _ _ _ _ _ _ _ s3 hB (by omega) (by omega))
    · refine hstep 2 (by decide) n2 hb z w hW s2 _ fun v w' hW' hB hS' => ⟨fun _ => hSS w' hW', ?_⟩
      rw [hl2.resolve_left (ble2 hb)]
      exact ih n0 n1 (n2 + 1) n3 h0 h1 hb h3 (by omega) _ w' hW' (hmono _ _ _ _ _ _ _ s0 hB (by omega) (by omega)) (hmono _ _ _ _ _ _ _ s1 hB (by omega) (by omega)) hS' (hmono _ _ _ _ _ _ _ s3 hB (by omega) (by omega))
    · refine hstep 3 (by decide) n3 hb z w hW s3 _ fun v w' hW' hB hS' => ⟨fun _ => hSS w' hW', ?_⟩
      rw [hl3.resolve_left (ble2 hb)]
      exact ih n0 n1 n2 (n3 + 1) h0 h1 h2 hb (by omega) _ w' hW' (hmono _ _ _ _ _ _ _ s0 hB (by omega) (by omega)) (hmono _ _ _ _ _ _ _ s1 hB (by omega) (by omega)) (hmono _ _ _ _ _ _ _ s2 hB (by omega) (by omega)) hS'

/-- eight values laid into a state -/
def puts (ds : Nat → Nat) (a : Act) (z : Nat → Value) : Act :=
  (((((((a.put (some (ds 0)) (z 0)).put (some (ds 1)) (z 1)).put (some (ds 2)) (z 2)).put (some (ds 3)) (z 3)).put (some (ds 4)) (z 4)).put (some (ds 5)) (z 5)).put (some (ds 6)) (z 6)).put (some (ds 7)) (z 7)
theorem put_swap (a : Act) {d e : Nat} (h : d ≠ e) (u v : Value) : (a.put (some d) u).put (some e) v = (a.put (some e) v).put (some d) u := by
  simp only [Act.put]
  rw [Array.setIfInBounds_comm _ _ h]
theorem put_same (a : Act) (d : Nat) (u v : Value) : (a.put (some d) u).put (some d) v = a.put (some d) v := by
  simp only [Act.put]
  rw [Array.setIfInBounds_setIfInBounds]
theorem put_self (a : Act) (d : Nat) : a.put (some d) (a.tmps.getD d undef) = a := by
  obtain ⟨t, df⟩ := a
  show Act.mk (t.setIfInBounds d (t.getD d undef)) df = ⟨t, df⟩
  congr 1
  by_cases h : d < t.size
  · simp [Array.getD, h, Array.setIfInBounds]
  · simp [Array.setIfInBounds, h]
theorem puts_self (ds : Nat → Nat) (a : Act) : puts ds a (fun i => a.tmps.getD (ds i) undef) = a := by
  simp only [puts, put_self]
def distB (ds : Nat → Nat) : Bool := [0, 1, 2, 3, 4, 5, 6, 7].all fun i => [0, 1, 2, 3, 4, 5, 6, 7].all fun j => Nat.beq i j || !Nat.beq (ds i) (ds j)
theorem distB_spec {ds : Nat → Nat} (h : distB ds = true) {i j : Nat} (hi : i < 8) (hj : j < 8) (hij : i ≠ j) : ds i ≠ ds j := by
  unfold distB at h
  rw [List.all_eq_true] at h
  have h1 := h i (by simp; omega)
  rw [List.all_eq_true] at h1
  have h2 := h1 j (by simp; omega)
  rw [Bool.or_eq_true] at h2
  rcases h2 with h2 | h2
  · exact absurd (Nat.eq_of_beq_eq_true h2) hij
  · intro e
    rw [e] at h2
    simp at h2
theorem puts_put {ds : Nat → Nat} (hd : distB ds = true) (a : Act) (z : Nat → Value) (j : Nat) (v : Value) (hj : j < 8) : (puts ds a z).put (some (ds j)) v = puts ds a (upd4 z j v) := by
  have sw : ∀ (i : Nat), i < 8 → i ≠ j → ∀ (b : Act) (u : Value), (b.put (some (ds i)) u).put (some (ds j)) v = (b.put (some (ds j)) v).put (some (ds i)) u := fun i hi hij b u => put_swap b (distB_spec hd hi hj hij) u v
  have ne : ∀ i, i ≠ j → upd4 z j v i = z i := fun i h => upd4_ne z v h
  have sm := upd4_same z j v
  unfold puts
  rcases (by omega : j = 0 ∨ j = 1 ∨ j = 2 ∨ j = 3 ∨ j = 4 ∨ j = 5 ∨ j = 6 ∨ j = 7) with rfl | rfl | rfl | rfl | rfl | rfl | rfl | rfl
  · rw [sw 7 (by decide) (by decide), sw 6 (by decide) (by decide), sw 5 (by decide) (by decide), sw 4 (by decide) (by decide), sw 3 (by decide) (by decide), sw 2 (by decide) (by decide), sw 1 (by decide) (by decide), put_same, sm, ne 1 (by decide), ne 2 (by decide), ne 3 (by decide), ne 4 (by decide), ne 5 (by decide), ne 6 (by decide), ne 7 (by decide)]
  · rw [sw 7 (by decide) (by decide), sw 6 (by decide) (by decide), sw 5 (by decide) (by decide), sw 4 (by decide) (by decide), sw 3 (by decide) (by decide), sw 2 (by decide) (by decide), put_same, sm, ne 0 (by decide), ne 2 (by decide), ne 3 (by decide), ne 4 (by decide), ne 5 (by decide), ne 6 (by decide), ne 7 (by decide)]
  · rw [sw 7 (by decide) (by decide), sw 6 (by decide) (by decide), sw 5 (by decide) (by decide), sw 4 (by decide) (by decide), sw 3 (by decide) (by decide), put_same, sm, ne 0 (by decide), ne 1 (by decide), ne 3 (by decide), ne 4 (by decide), ne 5 (by decide), ne 6 (by decide), ne 7 (by decide)]
  · rw [sw 7 (by decide) (by decide), sw 6 (by decide) (by decide), sw 5 (by decide) (by decide), sw 4 (by decide) (by decide), put_same, sm, ne 0 (by decide), ne 1 (by decide), ne 2 (by decide), ne 4 (by decide), ne 5 (by decide), ne 6 (by decide), ne 7 (by decide)]
  · rw [sw 7 (by decide) (by decide), sw 6 (by decide) (by decide), sw 5 (by decide) (by decide), put_same, sm, ne 0 (by decide), ne 1 (by decide), ne 2 (by decide), ne 3 (by decide), ne 5 (by decide), ne 6 (by decide), ne 7 (by decide)]
  · rw [sw 7 (by decide) (by decide), sw 6 (by decide) (by decide), put_same, sm, ne 0 (by decide), ne 1 (by decide), ne 2 (by decide), ne 3 (by decide), ne 4 (by decide), ne 6 (by decide), ne 7 (by decide)]
  · rw [sw 7 (by decide) (by decide), put_same, sm, ne 0 (by decide), ne 1 (by decide), ne 2 (by decide), ne 3 (by decide), ne 4 (by decide), ne 5 (by decide), ne 7 (by decide)]
  · rw [put_same, sm, ne 0 (by decide), ne 1 (by decide), ne 2 (by decide), ne 3 (by decide), ne 4 (by decide), ne 5 (by decide), ne 6 (by decide)]

/-- .. at a state as it stands in a walk -/
theorem par4a {a : Act} {w : World} {listed : Array Bool} (ds : Nat → Nat) (op : Nat → Nat → Nat) (L : Nat → Nat → Nat → Nat → Array Bool) (F : Nat) (W : World → Prop) (S : Nat → Nat → (Nat → Value) → World → Prop)
    (hd : distB ds = true) (hlist : listed = L 0 0 0 0)
    (hr : readyB md ops op L = true) (hl : setB op L = true) (hW : W w) (h0 : ∀ k z w, S k 0 z w)
    (hmono : ∀ k m z w w' j v, S k m z w → Below w.heap.size w w' → j ≠ 2 * k → j ≠ 2 * k + 1 → S k m (upd4 z j v) w')
    (hSS : ∀ w, W w → SS w)
    (hstep : ∀ k, k < 4 → ∀ m, m < 2 → ∀ z w, W w → S k m z w → ∀ K : Act → World → Prop, Shut (∀ v w', W w' → Below w.heap.size w w' → S k (m + 1) (upd4 z (2 * k + m) v) w' → K ((puts ds a z).put (some (ds (2 * k + m))) v) w') → wpOp P ops Q (op k m) K (puts ds a z) w)
    (hfin : ∀ z w, W w → S 0 2 z w → S 1 2 z w → S 2 2 z w → S 3 2 z w → wpAnyN P md ops Q SS n F (L 2 2 2 2) (puts ds a z) w) :
    wpAnyN P md ops Q SS n (8 + F) listed a w := by
  rw [hlist]
  have H := par4 (puts ds a) op L F W S hr hl (fun k hk m hm z w hW hS K hK => hstep k hk m hm z w hW hS K (fun v w' h1 h2 h3 => by
    rw [puts_put hd a z _ v (by omega)]
    exact hK v w' h1 h2 h3)) hmono hSS hfin 8 0 0 0 0 (by decide) (by decide) (by decide) (by decide) rfl (fun i => a.tmps.getD (ds i) undef) w hW (h0 _ _ _) (h0 _ _ _) (h0 _ _ _) (h0 _ _ _)
  rw [puts_self] at H
  exact H
end
end Go.Proofs.Ytbflodefmookiaa.Nt
