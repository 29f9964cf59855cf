/-
  THE TWO BOOKS, SIDE BY SIDE: the program's at p, the document's at q.
-/
import Derived.Test.YtofdnbddpageoaaNmSameB
import Derived.Test.YtofdnbddpageoaaNmLight
namespace Go.Proofs.Ytofdnbddpageoaa.Nm
open Go.RowKit Go.Maps

/-- .. all their blocks lie from world w0 on, and they share none -/
def TwoB (w0 w : World) (p q : Nat) (B : Bo) : Prop :=
  ∃ S1 S2 v1 v2 v3 Q vN vL G, Bk S1 w p B v1 v2 v3 Q ∧ Rb S2 w q B.N (allL B) vN vL G ∧ OkB B ∧ B.N.Nodup ∧ (∀ k, S1 k → w0.heap.size ≤ k ∧ k < w.heap.size) ∧ (∀ k, S2 k → w0.heap.size ≤ k ∧ k < w.heap.size) ∧ (∀ k, S1 k → ¬ S2 k) ∧ Below w0.heap.size w0 w

section
variable {w0 w w' : World} {p q : Nat} {B : Bo}
theorem TwoB.bel (h : TwoB w0 w p q B) : Below w0.heap.size w0 w := by
  obtain ⟨_, _, _, _, _, _, _, _, _, _, _, _, _, _, _, _, h⟩ := h
  exact h
theorem TwoB.below (h : TwoB w0 w p q B) (hb : Below w.heap.size w w') : TwoB w0 w' p q B := by
  obtain ⟨S1, S2, v1, v2, v3, Q, vN, vL, G, h1, h2, h3, h4, h5, h6, h7, h8⟩ := h
  exact ⟨S1, S2, v1, v2, v3, Q, vN, vL, G, h1.below hb, h2.below hb, h3, h4, fun k hk => ⟨(h5 k hk).1, Nat.lt_of_lt_of_le (h5 k hk).2 hb.size⟩, fun k hk => ⟨(h6 k hk).1, Nat.lt_of_lt_of_le (h6 k hk).2 hb.size⟩, h7, h8.trans (hb.mono h8.size)⟩
theorem TwoB.few (h : TwoB w0 w p q B) : OkB B ∧ B.N.Nodup := by
  obtain ⟨_, _, _, _, _, _, _, _, _, _, _, h3, h4, _⟩ := h
  exact ⟨h3, h4⟩

/-- same, of these two -/
theorem TwoB.same (h : TwoB w0 w p q B) (hsz : ∀ x ∈ allL B, x.out.size ≤ 1000000 ∧ x.deps.length ≤ 1000000) : Calls Try.prog 13 #[.pointer (some ⟨p, 0, Option.none⟩), .pointer (some ⟨q, 0, Option.none⟩)] w fun e w' => e = .returned (.bool true) ∧ TwoB w0 w' p q B := by
  have hT := h
  obtain ⟨S1, S2, v1, v2, v3, Q, vN, vL, G, h1, h2, h3, h4, h5, h6, h7, h8⟩ := h
  refine (sameB_c (b := w0.heap.size) (lo := 0) (hi := 0) ⟨S1, v1, v2, v3, Q, h1, fun k hk => ⟨(h5 k hk).1, (h5 k hk).2, .inr (Nat.zero_le _)⟩⟩ h3 h4 h2 hsz).mono ?_
  rintro e w' ⟨he, hb⟩
  exact ⟨he, hT.below hb⟩
end

/-- between the two Takes: the document's book is ahead by record l -/
def MidB (w0 w : World) (p q : Nat) (B : Bo) (l : List Nat) : Prop :=
  ∃ S1 S2 v1 v2 v3 Q vN vL G, Bk S1 w p B v1 v2 v3 Q ∧ Rb S2 w q ((takeB B l).getD B).N (allL ((takeB B l).getD B)) vN vL G ∧ OkB B ∧ B.N.Nodup ∧ (∀ k, S1 k → w0.heap.size ≤ k ∧ k < w.heap.size) ∧ (∀ k, S2 k → w0.heap.size ≤ k ∧ k < w.heap.size) ∧ (∀ k, S1 k → ¬ S2 k) ∧ Below w0.heap.size w0 w
section
variable {w0 w w' : World} {p q : Nat} {B : Bo} {l : List Nat}
theorem MidB.below (h : MidB w0 w p q B l) (hb : Below w.heap.size w w') : MidB w0 w' p q B l := by
  obtain ⟨S1, S2, v1, v2, v3, Q, vN, vL, G, h1, h2, h3, h4, h5, h6, h7, h8⟩ := h
  exact ⟨S1, S2, v1, v2, v3, Q, vN, vL, G, h1.below hb, h2.below hb, h3, h4, fun k hk => ⟨(h5 k hk).1, Nat.lt_of_lt_of_le (h5 k hk).2 hb.size⟩, fun k hk => ⟨(h6 k hk).1, Nat.lt_of_lt_of_le (h6 k hk).2 hb.size⟩, h7, h8.trans (hb.mono h8.size)⟩
theorem MidB.bel (h : MidB w0 w p q B l) : Below w0.heap.size w0 w := by
  obtain ⟨_, _, _, _, _, _, _, _, _, _, _, _, _, _, _, _, h⟩ := h
  exact h

/-- the document's Take -/
theorem TwoB.ref (h : TwoB w0 w p q B) {a : Option Addr} {n c : Nat} (hrow : Pk.Row w a l) (hn : Hid (n = l.length)) (hc : n ≤ c) (hl : l.length ≤ 300000) (hb : ∀ x ∈ l, x < 256) (hN : B.N.length ≤ 100000) (hL : (allL B).length < 900000) :
    Calls Try.prog 11 #[.pointer (some ⟨q, 0, Option.none⟩), .slice a n c] w fun e w' => e = .returned (.bool (takeB B l).isSome) ∧ MidB w0 w' p q B l := by
  obtain ⟨S1, S2, v1, v2, v3, Q, vN, vL, G, h1, h2, h3, h4, h5, h6, h7, h8⟩ := h
  obtain ⟨hboth, -⟩ := both_take h3 h4 l
  refine (refTake_c h2 (fun k hk => (h6 k hk).2) hrow hn hc hl hb hN hL).mono ?_
  rintro e w' ⟨rfl, ⟨vN', vL', G', hk⟩, hm⟩
  rw [hboth] at hk ⊢
  have e1 : ((takeB B l).map fun B' => (B'.N, allL B')).isSome = (takeB B l).isSome := by cases takeB B l <;> rfl
  have e2 : (((takeB B l).map fun B' => (B'.N, allL B')).getD (B.N, allL B)).1 = ((takeB B l).getD B).N := by cases takeB B l <;> rfl
  have e3 : (((takeB B l).map fun B' => (B'.N, allL B')).getD (B.N, allL B)).2 = allL ((takeB B l).getD B) := by cases takeB B l <;> rfl
  rw [e2, e3] at hk
  rw [e1]
  refine ⟨rfl, S1, _, v1, v2, v3, Q, vN', vL', G', h1.keep (fun k hk1 hk2 => hm.block k hk2 (h7 k hk1)), hk, h3, h4, fun k hk => ⟨(h5 k hk).1, Nat.lt_of_lt_of_le (h5 k hk).2 hm.size⟩, fun k hk => ?_, fun k hk1 hk2 => ?_, h8.trans (hm.below (fun k hk => (h6 k hk).1) h8.size)⟩
  · rcases hk with hk | hk
    · exact ⟨(h6 k hk).1, Nat.lt_of_lt_of_le (h6 k hk).2 hm.size⟩
    · exact ⟨Nat.le_trans h8.size hk.1, hk.2⟩
  · rcases hk2 with hk2 | hk2
    · exact h7 k hk1 hk2
    · have := (h5 k hk1).2
      omega

/-- the program's Take behind it -/
theorem MidB.take (h : MidB w0 w p q B l) {a : Option Addr} {n c : Nat} (hrow : Pk.Row w a l) (hn : Hid (n = l.length)) (hc : n ≤ c) (hl : l.length ≤ 1000000) (hb : ∀ x ∈ l, x < 256) (hN : B.N.length < 1000000) :
    Calls Try.prog 12 #[.pointer (some ⟨p, 0, Option.none⟩), .slice a n c] w fun e w' => e = .returned (.int .i64 (if (takeB B l).isSome then 0 else 4)) ∧ TwoB w0 w' p q ((takeB B l).getD B) := by
  obtain ⟨S1, S2, v1, v2, v3, Q, vN, vL, G, h1, h2, h3, h4, h5, h6, h7, h8⟩ := h
  obtain ⟨-, hgood⟩ := both_take h3 h4 l
  refine (take_c h1 hrow hn hc hl hb hN fun k hk => (h5 k hk).2).mono ?_
  rintro e w' ⟨rfl, ⟨u1, u2, u3, Q', hk⟩, hm⟩
  have hg : OkB ((takeB B l).getD B) ∧ ((takeB B l).getD B).N.Nodup := by
    cases hT : takeB B l with
    | none => exact ⟨h3, h4⟩
    | some B' => exact hgood B' hT
  refine ⟨rfl, _, S2, u1, u2, u3, Q', vN, vL, G, hk, h2.keep (fun k hk1 hk2 => hm.block k hk2 (fun hs => h7 k hs hk1)) hm.size, hg.1, hg.2, fun k hk => ?_, fun k hk => ⟨(h6 k hk).1, Nat.lt_of_lt_of_le (h6 k hk).2 hm.size⟩, fun k hk1 hk2 => ?_, h8.trans (hm.below (fun k hk => (h5 k hk).1) h8.size)⟩
  · rcases hk with hk | hk
    · exact ⟨(h5 k hk).1, Nat.lt_of_lt_of_le (h5 k hk).2 hm.size⟩
    · exact ⟨Nat.le_trans h8.size hk.1, hk.2⟩
  · rcases hk1 with hk1 | hk1
    · exact h7 k hk1 hk2
    · have := (h6 k hk2).2
      omega
end

theorem allL_nil : allL ⟨[], []⟩ = [] := by
  rw [List.eq_nil_iff_forall_not_mem]
  intro x hx
  have h0 : foundL ⟨[], []⟩ ([] : List (Option Fd)).length = [] := by simp [foundL]
  have hx : x ∈ sortD (foundL ⟨[], []⟩ ([] : List (Option Fd)).length) := hx
  rw [h0] at hx
  have := (sort_mem (FL := []) (by simp) x).1 hx
  cases this

/-- two empty books -/
theorem two_new (w : World) : TwoB w ((w.alloc (.cells #[.slice Option.none 0 0, .map Option.none, .slice Option.none 0 0] 69)).alloc (.cells #[.slice Option.none 0 0, .slice Option.none 0 0] 30)) w.heap.size (w.heap.size + 1) ⟨[], []⟩ := by
  have z1 : (w.alloc (.cells #[.slice Option.none 0 0, .map Option.none, .slice Option.none 0 0] 69)).heap.size = w.heap.size + 1 := World.size_alloc _ _
  have h1 := (bk_new w).below (Pk.below_alloc _ (.cells #[.slice Option.none 0 0, .slice Option.none 0 0] 30))
  have h2 := rb_new (w.alloc (.cells #[.slice Option.none 0 0, .map Option.none, .slice Option.none 0 0] 69))
  rw [z1] at h2
  have z2 : ((w.alloc (.cells #[.slice Option.none 0 0, .map Option.none, .slice Option.none 0 0] 69)).alloc (.cells #[.slice Option.none 0 0, .slice Option.none 0 0] 30)).heap.size = w.heap.size + 2 := by rw [World.size_alloc, z1]
  refine ⟨_, _, _, _, _, _, _, _, _, h1, by rw [allL_nil]; exact h2, ⟨rfl, fun i fd hi => by cases hi⟩, List.nodup_nil, fun k hk => ?_, fun k hk => ?_, fun k hk1 hk2 => ?_, (Pk.below_alloc _ _).alloc (by rw [z1]; omega) _⟩
  · subst hk; rw [z2]; omega
  · subst hk; rw [z2]; omega
  · subst hk1; omega
end Go.Proofs.Ytofdnbddpageoaa.Nm
