/-
  A BOOK OF ONE's OWN, with a part of the heap that it leaves alone.
-/
import Derived.Test.YtofdnbddpageoaaNmTold
namespace Go.Proofs.Ytofdnbddpageoaa.Nm
open Go.RowKit Go.Maps

/-- a book at p; its blocks lie from b on, and none in lo .. hi -/
def Own (b lo hi : Nat) (w : World) (p : Nat) (B : Bo) : Prop :=
  ∃ S v1 v2 v3 Q, Bk S w p B v1 v2 v3 Q ∧ ∀ k, S k → b ≤ k ∧ k < w.heap.size ∧ (k < lo ∨ hi ≤ k)

section
variable {b lo hi : Nat} {w w' : World} {p : Nat} {B : Bo}
theorem Own.below (h : Own b lo hi w p B) (hb : Below w.heap.size w w') : Own b lo hi w' p B := by
  obtain ⟨S, v1, v2, v3, Q, h1, h2⟩ := h
  exact ⟨S, v1, v2, v3, Q, h1.below hb, fun k hk => ⟨(h2 k hk).1, Nat.lt_of_lt_of_le (h2 k hk).2.1 hb.size, (h2 k hk).2.2⟩⟩
theorem Own.hole (h : Own b lo hi w p B) {lo' hi' : Nat} (hl : w.heap.size ≤ lo') : Own b lo' hi' w p B := by
  obtain ⟨S, v1, v2, v3, Q, h1, h2⟩ := h
  exact ⟨S, v1, v2, v3, Q, h1, fun k hk => ⟨(h2 k hk).1, (h2 k hk).2.1, .inl (Nat.lt_of_lt_of_le (h2 k hk).2.1 hl)⟩⟩
theorem Own.low (h : Own b lo hi w p B) {b' : Nat} (hl : b' ≤ b) : Own b' lo hi w p B := by
  obtain ⟨S, v1, v2, v3, Q, h1, h2⟩ := h
  exact ⟨S, v1, v2, v3, Q, h1, fun k hk => ⟨Nat.le_trans hl (h2 k hk).1, (h2 k hk).2⟩⟩
theorem Own.few (h : Own b lo hi w p B) : OkB B := by
  obtain ⟨S, v1, v2, v3, Q, h1, h2⟩ := h
  exact ⟨h1.len, fun i fd hi => (h1.nums i fd hi).1⟩

theorem own_new (w : World) (lo hi : Nat) (hl : w.heap.size < lo) : Own w.heap.size lo hi (w.alloc (.cells #[.slice Option.none 0 0, .map Option.none, .slice Option.none 0 0] 69)) w.heap.size ⟨[], []⟩ :=
  ⟨_, _, _, _, _, bk_new w, fun k hk => by subst hk; exact ⟨Nat.le_refl _, by rw [World.size_alloc]; omega, .inl hl⟩⟩

/-- what Take comes to -/
def TaQ (b lo hi : Nat) (w : World) (p : Nat) (B : Bo) (l : List Nat) (e : Ending) (w' : World) : Prop :=
  e = .returned (.int .i64 (if (takeB B l).isSome then 0 else 4)) ∧ Own b lo hi w' p ((takeB B l).getD B) ∧ Below b w w' ∧ ∀ k, lo ≤ k → k < hi → w'.heap[k]? = w.heap[k]?

theorem take_own (h : Own b lo hi w p B) (hbw : b ≤ w.heap.size) (hhi : hi ≤ w.heap.size) {a : Option Addr} {n c : Nat} {l : List Nat} (hrow : Pk.Row w a l) (hn : Hid (n = l.length)) (hc : n ≤ c) (hl : l.length ≤ 1000000) (hx : ∀ x ∈ l, x < 256) (hN : B.N.length < 1000000) :
    Calls Try.prog 12 #[.pointer (some ⟨p, 0, Option.none⟩), .slice a n c] w (TaQ b lo hi w p B l) := by
  obtain ⟨S, v1, v2, v3, Q, h1, h2⟩ := h
  refine (take_c h1 hrow hn hc hl hx hN fun k hk => (h2 k hk).2.1).mono ?_
  rintro e w' ⟨rfl, ⟨u1, u2, u3, Q', hk⟩, hm⟩
  refine ⟨rfl, ⟨_, u1, u2, u3, Q', hk, fun k hk => ?_⟩, hm.below (fun k hk => (h2 k hk).1) hbw, fun k hk1 hk2 => hm.block k (by omega) fun hs => ?_⟩
  · rcases hk with hk | hk
    · obtain ⟨x1, x2, x3⟩ := h2 k hk
      exact ⟨x1, Nat.lt_of_lt_of_le x2 hm.size, x3⟩
    · exact ⟨by omega, hk.2, .inr (by omega)⟩
  · have := (h2 k hs).2.2
    omega

theorem plan_own (h : Own b lo hi w p B) {dv : Value} {d : Dp} (hd : StrRow w dv d.deps) (hdl : d.deps.length ≤ 1000000) (hN : B.N.length < 40000) :
    Calls Try.prog 20 #[.pointer (some ⟨p, 0, Option.none⟩), .agg #[.string d.out, .int .i64 d.time, dv]] w (PlQ w B.N d.out d.time d.deps) := by
  obtain ⟨S, v1, v2, v3, Q, h1, h2⟩ := h
  exact plan_c h1 (fun k hk => (h2 k hk).2.1) hd hdl hN
end
end Go.Proofs.Ytofdnbddpageoaa.Nm
