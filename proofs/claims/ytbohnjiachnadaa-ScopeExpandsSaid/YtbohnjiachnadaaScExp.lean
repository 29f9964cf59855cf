/-
  A TEXT, EXPANDED.
-/
import Derived.Test.YtbohnjiachnadaaScSet
import Derived.Test.YtbohnjiachnadaaScBld
namespace Go.Proofs.Ytbohnjiachnadaa.Sc
open Go.RowKit Go.Maps

theorem Bld.lt {B b : Nat} {l : Bs} {w : World} (h : Bld B b l w) : b < w.heap.size ∧ B ≤ b := by
  rcases h with h | h
  · exact ⟨h.lt, h.1⟩
  · exact ⟨h.lt, h.1⟩

/-- a store into a block that is neither the builder nor a row of bytes -/
theorem Bld.set {B b : Nat} {l : Bs} {w : World} (h : Bld B b l w) {q : Nat} {u v : Value} {t : TypeId} (hq : w.heap[q]? = some (.cells #[u] t (0, 0))) (ht : t ≠ 5) (hqb : q ≠ b) : Bld B b l (w.setCell ⟨q, 0, none⟩ v) := by
  have key : ∀ p, Lib.BuilderAtF 57 5 B b p (Lib.byteCells l) w → Lib.BuilderAtF 57 5 B b p (Lib.byteCells l) (w.setCell ⟨q, 0, none⟩ v) := by
    rintro p ⟨hB, x, hb, hown, hne⟩
    refine ⟨hB, x, (set_other (Ne.symm hqb)).trans hb, ?_, hne⟩
    refine hown.kept (row := some q) ⟨rfl, rfl, rfl, by simp [World.setCell], fun k _ hk => set_other fun e => hk (by simp [e])⟩ (.inr ?_)
    intro e
    obtain ⟨c, fz, hc⟩ := Lib.ownsRowF_kind hown q e
    rw [hq] at hc
    cases hc
    exact ht rfl
  rcases h with h | h
  · exact .inl (key _ h)
  · exact .inr (key _ h)

/-- what is told so far: the builder at b, the mark that it is too long at q -/
structure Add (w0 W : World) (b q : Nat) (Z : Bs) (l : Bs) (g : Bool) : Prop where
  bld : Bld w0.heap.size b l W
  mark : W.heap[q]? = some (.cells #[.bool g] 4 (0, 0))
  ne : q ≠ b
  ge : w0.heap.size ≤ q
  bel : Below w0.heap.size w0 W
  is : (g = false ∧ l = Z ∧ Z.length ≤ 16384) ∨ (g = true ∧ 16384 < Z.length ∧ l.length ≤ 16384)

theorem Add.keep {w0 W W' : World} {b q : Nat} {Z l : Bs} {g : Bool} (h : Add w0 W b q Z l g) (hb : Below W.heap.size W W') : Add w0 W' b q Z l g := by
  refine ⟨?_, (hb.block _ (lt_some h.mark)).trans h.mark, h.ne, h.ge, h.bel.trans (hb.mono h.bel.size), h.is⟩
  have key : ∀ p, Lib.BuilderAtF 57 5 w0.heap.size b p (Lib.byteCells l) W → Lib.BuilderAtF 57 5 w0.heap.size b p (Lib.byteCells l) W' := by
    rintro p ⟨hB, x, hx, hown, hne⟩
    refine ⟨hB, x, (hb.block _ (lt_some hx)).trans hx, ?_, hne⟩
    refine hown.kept (row := none) ⟨hb.os, hb.tape, hb.output, hb.size, fun k hk _ => hb.block k hk⟩ ?_
    cases x.ownBlock <;> simp
  rcases h.bld with h | h
  · exact .inl (key _ h)
  · exact .inr (key _ h)

set_option maxRecDepth 100000 in
set_option maxHeartbeats 4000000 in
theorem add_c {w0 W : World} {b q : Nat} {Z l : Bs} {g : Bool} (h : Add w0 W b q Z l g) (part : Bs) (hp : part.length ≤ 900000) :
    Calls Try.prog 32 #[.string (mk part), .pointer (some ⟨q, 0, none⟩), .pointer (some ⟨b, 0, none⟩)] W fun e W' => (∃ z, e = .returned z) ∧ ∃ l' g', Add w0 W' b q (Z ++ part) l' g' := by
  obtain ⟨cq, fq⟩ := one_cell h.mark
  have hz := mk_size part
  have hlen := len_c h.bld
  have HH := Lib.hid h
  have hll : l.length ≤ 16384 := by rcases h.is with ⟨_, rfl, h⟩ | ⟨_, _, h⟩ <;> omega
  have hcell : ∀ v : Value, (W.setCell ⟨q, 0, none⟩ v).heap[q]? = some (.cells #[v] 4 (0, 0)) := fun v => set_one h.mark
  have hset : ∀ v : Value, Bld w0.heap.size b l (W.setCell ⟨q, 0, none⟩ v) := fun v => h.bld.set h.mark (by decide) h.ne
  have hbel : ∀ v : Value, Below w0.heap.size w0 (W.setCell ⟨q, 0, none⟩ v) := fun v => h.bel.setCell (p := ⟨q, 0, none⟩) h.ge _
  rcases h.is with ⟨rfl, rfl, hZ⟩ | ⟨rfl, hZ, hl⟩
  · by_cases hbig : 16384 < l.length + part.length
    · have hbi : decide ((16384 : Int) < (l.length : Int) + (part.length : Int)) = true := decide_eq_true (by omega)
      have HF := Lib.hid (show Add w0 (W.setCell ⟨q, 0, none⟩ (.bool true)) b q (l ++ part) l true from
        ⟨hset _, hcell _, h.ne, h.ge, hbel _, .inr ⟨rfl, by rw [List.length_append]; exact hbig, hll⟩⟩)
      have d1 := (one_cell (hcell (.bool true))).1
      clear h hcell hset hbel
      go_enter Try.func32, Try.ntmps32
      go_wp2_with (refine hlen.mono ?_; rintro e w1 ⟨rfl, rfl⟩)
      go_end0
      exact ⟨⟨_, rfl⟩, _, _, HF.out⟩
    · have hbi : decide ((16384 : Int) < (l.length : Int) + (part.length : Int)) = false := decide_eq_false (by omega)
      have hw := writeS_c (s := part) (hset (.bool false)) (by omega) (hbel (.bool false)).size
      have d1 := (one_cell (hcell (.bool false))).1
      have HQ := Lib.hid (hcell (.bool false))
      have HB := Lib.hid (hbel (.bool false))
      clear h hcell hset hbel
      go_enter Try.func32, Try.ntmps32
      go_wp2_with (first | (go_at_call 33; refine hlen.mono ?_; rintro e w1 ⟨rfl, rfl⟩) | (go_at_call 34; refine hw.mono ?_; rintro e w1 ⟨⟨z, rfl⟩, hb1, hbe1, hk1⟩))
      go_end0
      refine ⟨⟨_, rfl⟩, _, false, ⟨hb1, hk1 q _ HQ.out ?_ ?_, HH.out.ne, HH.out.ge, HB.out.trans hbe1, .inl ⟨rfl, rfl, by rw [List.length_append]; omega⟩⟩⟩
      · intro e; exact HH.out.ne (Option.some.inj e)
      · intro c fz e; cases e
  · have HF := Lib.hid (show Add w0 (W.setCell ⟨q, 0, none⟩ (.bool true)) b q (Z ++ part) l true from
      ⟨hset _, hcell _, h.ne, h.ge, hbel _, .inr ⟨rfl, by rw [List.length_append]; omega, hll⟩⟩)
    have d1 := (one_cell (hcell (.bool true))).1
    clear h hcell hset hbel
    go_enter Try.func32, Try.ntmps32
    go_wp2_with (refine hlen.mono ?_; rintro e w1 ⟨rfl, rfl⟩)
    go_end0
    exact ⟨⟨_, rfl⟩, _, _, HF.out⟩
end Go.Proofs.Ytbohnjiachnadaa.Sc
