/-
  TWO ROWS OF STRINGS THAT THE CALL OWNS, appended to in one statement; two operations of a drawn region that may come first.
-/
import Derived.Test.YtbohnjiachnadaaScArg
import Derived.Test.YtbohnjiachnadaaRgLate
namespace Go.Proofs.Ytbohnjiachnadaa.Lt
open Go

section
variable {P : Program} {ops : Array Oper} {Q : Exit → Act → World → Prop} {md : Region.Mode} {S : World → Prop} {T : List Nat}
/-- numbers i and j may come up next -/
theorem wpAnyL_two {i j : Nat} {oi oj : Oper} {fuel : Nat} {listed : Array Bool} {a : Act} {w : World} (hr : Region.ready md ops listed = [i, j]) (hoi : ops[i]? = some oi) (hoj : ops[j]? = some oj)
    (hi : ∀ K' : Act → World → Prop, Shut (∀ a w, (T.contains i = false → S w) → (wpAnyL P md ops Q S T fuel (listed.setIfInBounds i true) a w) → K' a w) → if Region.wanted oi (yielded ops a.tmps) = true then Oper.wp P oi a w K' Q else K' (a.put oi.dst undef) w)
    (hj : ∀ K' : Act → World → Prop, Shut (∀ a w, (T.contains j = false → S w) → (wpAnyL P md ops Q S T fuel (listed.setIfInBounds j true) a w) → K' a w) → if Region.wanted oj (yielded ops a.tmps) = true then Oper.wp P oj a w K' Q else K' (a.put oj.dst undef) w) :
    wpAnyL P md ops Q S T (fuel + 1) listed a w := by
  refine ⟨fun h0 => (by rw [hr] at h0; cases h0), fun k hk => ?_⟩
  rw [hr] at hk
  rcases List.mem_cons.1 hk with rfl | hk
  · exact wpOp_step hoi (fun K' hK => hi K' (fun a w hS hW => hK a w ⟨hS, hW⟩))
  · obtain rfl := List.mem_singleton.1 hk
    exact wpOp_step hoj (fun K' hK => hj K' (fun a w hS hW => hK a w ⟨hS, hW⟩))
end
end Go.Proofs.Ytbohnjiachnadaa.Lt

namespace Go.Proofs.Ytbohnjiachnadaa.Sc
open Go.RowKit Go.Maps

/-- two rows of the call's own, what lay there beside them untouched -/
structure PS (base : Nat) (w W : World) (u0 t0 u t : Value) (n m : Nat) (xs ys : List Value) : Prop where
  own1 : W.ownsRow base 9 1 u n xs
  own2 : W.ownsRow base 9 1 t m ys
  keep : ∀ k, k < w.heap.size → some k ≠ u0.ownBlock → some k ≠ t0.ownBlock → W.heap[k]? = w.heap[k]?
  new1 : ∀ g, u.ownBlock = some g → u0.ownBlock = some g ∨ w.heap.size ≤ g
  new2 : ∀ g, t.ownBlock = some g → t0.ownBlock = some g ∨ w.heap.size ≤ g
  ne : ∀ g, u.ownBlock = some g → t.ownBlock ≠ some g
  os : W.os = w.os
  tape : W.tape = w.tape
  output : W.output = w.output
  size : w.heap.size ≤ W.heap.size

variable {base : Nat} {w W W' : World} {u0 t0 u t : Value} {n m : Nat} {xs ys : List Value}

theorem PS.start (h1 : w.ownsRow base 9 1 u n xs) (h2 : w.ownsRow base 9 1 t m ys) (hne : ∀ g, u.ownBlock = some g → t.ownBlock ≠ some g) : PS base w w u t u t n m xs ys :=
  ⟨h1, h2, fun _ _ _ _ => rfl, fun _ h => .inl h, fun _ h => .inl h, hne, rfl, rfl, rfl, Nat.le_refl _⟩

theorem PS.drew (h : PS base w W u0 t0 u t n m xs ys) : PS base w W.drew u0 t0 u t n m xs ys := ⟨h.own1, h.own2, h.keep, h.new1, h.new2, h.ne, h.os, h.tape, h.output, h.size⟩
theorem PS.alloc (h : PS base w W u0 t0 u t n m xs ys) (o : Obj) : PS base w (W.alloc o) u0 t0 u t n m xs ys :=
  ⟨owns_below h.own1 (below_alloc _ _), owns_below h.own2 (below_alloc _ _), fun k hk a b => (Below.heap_alloc _ _ _ (Nat.lt_of_lt_of_le hk h.size)).trans (h.keep k hk a b), h.new1, h.new2, h.ne, h.os, h.tape, h.output, Nat.le_trans h.size (by simp)⟩

theorem PS.appU (h : PS base w W u0 t0 u t n m xs ys) {u' : Value} {n' : Nat} {xs' : List Value} (ho : W'.ownsRow base 9 1 u' n' xs') (hg : W.grownBy W' u.ownBlock) (hnew : ∀ g, u'.ownBlock = some g → u.ownBlock = some g ∨ g = W.heap.size) : PS base w W' u0 t0 u' t n' m xs' ys := by
  refine ⟨ho, ?_, ?_, ?_, h.new2, ?_, hg.os.trans h.os, hg.tape.trans h.tape, hg.output.trans h.output, Nat.le_trans h.size hg.size⟩
  · refine owns_kept h.own2 fun g hgt => hg.block g ?_ ?_
    · obtain ⟨_, cur, hc⟩ := owns_block h.own2 hgt; exact lt_some hc
    · intro e; exact h.ne g e.symm hgt
  · intro k hk a b
    refine (hg.block k (Nat.lt_of_lt_of_le hk h.size) ?_).trans (h.keep k hk a b)
    intro e
    rcases h.new1 k e.symm with h1 | h1
    · exact a h1.symm
    · omega
  · intro g hgu
    rcases hnew g hgu with h1 | h1
    · exact h.new1 g h1
    · exact .inr (by have := h.size; omega)
  · intro g hgu hgt
    rcases hnew g hgu with h1 | h1
    · exact h.ne g h1 hgt
    · obtain ⟨_, cur, hc⟩ := owns_block h.own2 hgt
      have := lt_some hc
      omega

theorem PS.swap (h : PS base w W u0 t0 u t n m xs ys) : PS base w W t0 u0 t u m n ys xs :=
  ⟨h.own2, h.own1, fun k hk a b => h.keep k hk b a, h.new2, h.new1, fun g a b => h.ne g b a, h.os, h.tape, h.output, h.size⟩

theorem PS.appT (h : PS base w W u0 t0 u t n m xs ys) {t' : Value} {m' : Nat} {ys' : List Value} (ho : W'.ownsRow base 9 1 t' m' ys') (hg : W.grownBy W' t.ownBlock) (hnew : ∀ g, t'.ownBlock = some g → t.ownBlock = some g ∨ g = W.heap.size) : PS base w W' u0 t0 u t' n m' xs ys' :=
  (h.swap.appU ho hg hnew).swap

/-- a block that was laid on the way stays -/
theorem PS.laid (h : PS base w W u0 t0 u t n m xs ys) {s : Nat} {o : Obj} (hs : W.heap[s]? = some o) (hw : w.heap.size ≤ s) (hg : W.grownBy W' u.ownBlock) (hu : u0.ownBlock = u.ownBlock) (hb : ∀ g, u0.ownBlock = some g → g < w.heap.size) : W'.heap[s]? = some o := by
  refine (hg.block s (lt_some hs) ?_).trans hs
  intro e
  rw [← hu] at e
  have := hb s e.symm
  omega

/-! names and texts, level by level -/
def at3 (x : S3) (k : Nat) : Bool := decide (x.lv % 3 = k) && nameB x.name
def fk (L : List S3) (k : Nat) : Bs → Option Bs := L.foldl (fun f x => if at3 x k = true then upd f x.name x.text else f) (fun _ => none)
def nk (L : List S3) (k : Nat) : List Bs := (L.filter (at3 · k)).map (·.name)
def tk (L : List S3) (k : Nat) : List Bs := (L.filter (at3 · k)).map (·.text)

theorem fk_snoc (L : List S3) (x : S3) (k : Nat) : fk (L ++ [x]) k = if at3 x k = true then upd (fk L k) x.name x.text else fk L k := by
  unfold fk
  rw [List.foldl_append]
  rfl
theorem nk_snoc (L : List S3) (x : S3) (k : Nat) : nk (L ++ [x]) k = if at3 x k = true then nk L k ++ [x.name] else nk L k := by
  unfold nk
  rw [List.filter_append, List.map_append]
  by_cases h : at3 x k = true
  · rw [if_pos h]; simp [h]
  · rw [if_neg h]; simp [h]
theorem tk_snoc (L : List S3) (x : S3) (k : Nat) : tk (L ++ [x]) k = if at3 x k = true then tk L k ++ [x.text] else tk L k := by
  unfold tk
  rw [List.filter_append, List.map_append]
  by_cases h : at3 x k = true
  · rw [if_pos h]; simp [h]
  · rw [if_neg h]; simp [h]
theorem nk_len (L : List S3) (k : Nat) : (nk L k).length ≤ L.length := by unfold nk; rw [List.length_map]; exact List.length_filter_le _ _
theorem tk_len (L : List S3) (k : Nat) : (tk L k).length ≤ L.length := by unfold tk; rw [List.length_map]; exact List.length_filter_le _ _
theorem nk_tk (L : List S3) (k : Nat) : (nk L k).length = (tk L k).length := by unfold nk tk; rw [List.length_map, List.length_map]

theorem fk_le {L : List S3} {M : Nat} (h : ∀ x ∈ L, x.text.length ≤ M) (k : Nat) : ∀ l t, fk L k l = some t → t.length ≤ M := by
  have key : ∀ (L : List S3) (f : Bs → Option Bs), (∀ x ∈ L, x.text.length ≤ M) → (∀ l t, f l = some t → t.length ≤ M) → ∀ l t, L.foldl (fun f x => if at3 x k = true then upd f x.name x.text else f) f l = some t → t.length ≤ M := by
    intro L
    induction L with
    | nil => intro f _ hf; exact hf
    | cons x L ih =>
      intro f hL hf
      refine ih _ (fun y hy => hL y (List.mem_cons_of_mem _ hy)) ?_
      show ∀ l t, (if at3 x k = true then upd f x.name x.text else f) l = some t → t.length ≤ M
      split
      · exact upd_le hf (hL x (List.mem_cons_self ..))
      · exact hf
  exact key L _ h (fun l t h => by cases h)
end Go.Proofs.Ytbohnjiachnadaa.Sc
