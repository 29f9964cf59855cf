/-
  WHAT AN INCLUDING TURNS: the kitchen, its set, rows of the call's own.
-/
import Derived.Test.YtgledabcfonbeaaGreatDoorCkSplit
namespace Go.Proofs.YtgledabcfonbeaaGreatDoor.Df
open Go.RowKit Go.Maps Go.Proofs.YtgledabcfonbeaaGreatDoor

/-- nothing of what lay below B has turned but for k and m; of what else there is nothing that is of another type than those of X -/
structure Fp (B k m : Nat) (X : List TypeId) (W W' : World) : Prop where
  os : W'.os = W.os
  tape : W'.tape = W.tape
  output : W'.output = W.output
  size : W.heap.size ≤ W'.heap.size
  low : ∀ q, q < B → q ≠ k → q ≠ m → W'.heap[q]? = W.heap[q]?
  typed : ∀ (g : Nat) (cur : Array Value) (t : TypeId), W.heap[g]? = some (Obj.cells cur t (0, 0)) → t ∉ X → W'.heap[g]? = W.heap[g]?
section
variable {B k m : Nat} {X : List TypeId} {W W' W2 : World}
theorem Fp.refl (B k m : Nat) (X : List TypeId) (W : World) : Fp B k m X W W := ⟨rfl, rfl, rfl, Nat.le_refl _, fun _ _ _ _ => rfl, fun _ _ _ _ _ => rfl⟩
theorem Fp.trans (h : Fp B k m X W W') (h2 : Fp B k m X W' W2) : Fp B k m X W W2 :=
  ⟨h2.os.trans h.os, h2.tape.trans h.tape, h2.output.trans h.output, Nat.le_trans h.size h2.size, fun q h1 h3 h4 => (h2.low q h1 h3 h4).trans (h.low q h1 h3 h4), fun g cur t hg ht => (h2.typed g cur t ((h.typed g cur t hg ht).trans hg) ht).trans (h.typed g cur t hg ht)⟩
theorem Fp.mono {Y : List TypeId} (h : Fp B k m X W W') (hXY : ∀ t, t ∈ X → t ∈ Y) : Fp B k m Y W W' := ⟨h.os, h.tape, h.output, h.size, h.low, fun g cur t hg ht => h.typed g cur t hg (fun e => ht (hXY t e))⟩
theorem Fp.of_below (h : Below W.heap.size W W') (hB : B ≤ W.heap.size) : Fp B k m X W W' :=
  ⟨h.os, h.tape, h.output, h.size, fun q hq _ _ => h.block q (Nat.lt_of_lt_of_le hq hB), fun g _ _ hg _ => h.block g (lt_some hg)⟩
theorem Fp.of_grown {own : Option Nat} {t0 : TypeId} (hg : W.grownBy W' own) (hB : B ≤ W.heap.size) (ho : ∀ g, own = some g → B ≤ g ∧ ∃ cur, W.heap[g]? = some (.cells cur t0 (0, 0))) (ht : t0 ∈ X) : Fp B k m X W W' :=
  ⟨hg.os, hg.tape, hg.output, hg.size, fun q hq _ _ => hg.block q (Nat.lt_of_lt_of_le hq hB) (fun e => by have := (ho q e.symm).1; omega), fun g cur t hc hX => hg.block g (lt_some hc) (fun e => by
    obtain ⟨_, cur2, h2⟩ := ho g e.symm
    rw [hc] at h2
    cases h2
    exact hX ht)⟩
theorem Fp.of_map {es : Array MapEntry} {c : Nat} (hg : W.grownBy W' (some m)) (hB : B ≤ W.heap.size) (hm : W.heap[m]? = some (.map es c)) : Fp B k m X W W' :=
  ⟨hg.os, hg.tape, hg.output, hg.size, fun q hq _ hne => hg.block q (Nat.lt_of_lt_of_le hq hB) (fun e => hne (Option.some.inj e)), fun g cur t hc _ => hg.block g (lt_some hc) (fun e => by
    have := Option.some.inj e
    subst this
    rw [hm] at hc
    cases hc)⟩
theorem Fp.set {j : Nat} {u : Value} {C : Array Value} {t0 : TypeId} (hk : W.heap[k]? = some (.cells C t0 (0, 0))) (ht : t0 ∈ X) : Fp B k m X W (W.setCell ⟨k, j, none⟩ u) :=
  ⟨rfl, rfl, rfl, by rw [World.size_setCell]; exact Nat.le_refl _, fun q _ hne _ => set_other hne, fun g cur t hc hX => set_other (fun e => by
    subst e
    rw [hk] at hc
    cases hc
    exact hX ht)⟩
theorem Fp.owns {base n sz : Nat} {e : TypeId} {v : Value} {xs : List Value} (h : Fp B k m X W W') (ho : W.ownsRow base e sz v n xs) (he : e ∉ X) : W'.ownsRow base e sz v n xs :=
  owns_kept ho fun g hg => by
    obtain ⟨_, cur, hc⟩ := owns_block ho hg
    exact h.typed g cur e hc he
end

/-- bytes that lay there stay -/
theorem Byt.fp {B k m m0 m1 m2 a2 a3 : Nat} {o1 : Option Addr} {n : Int} {X : List TypeId} {W W' : World} {v : Value} {r : Bs} {es : Array MapEntry} {c : Nat} (h : Byt W v r) (hp : Fp B k m X W W') (hB : W.heap.size ≤ B) (hk : W.heap[k]? = some (KtO m0 m1 n (.slice o1 a2 a3) m2)) (hm : W.heap[m]? = some (.map es c)) : Byt W' v r := by
  obtain ⟨a, c, rfl, hc, hn, hrow⟩ := h
  refine ⟨a, c, rfl, hc, hn, ?_⟩
  rcases hrow with h | ⟨g, off, rfl, hg, hcell⟩
  · exact .inl h
  cases r with
  | nil => exact .inl rfl
  | cons x r =>
    have h0 := hcell 0 x rfl
    have hgk : g ≠ k := fun e => by
      subst e
      have h1 : (#[Value.map (some m0), .map (some m1), .int .i64 n, .slice o1 a2 a3, .map (some m2)] : Array Value)[off + 0]? = some (.int .u8 (x.toNat : Int)) := by
        rw [← h0]
        simp [World.cell?, hk, KtO]
      generalize off + 0 = i at h1
      match i, h1 with
      | 0, h1 => cases h1
      | 1, h1 => cases h1
      | 2, h1 => cases h1
      | 3, h1 => cases h1
      | 4, h1 => cases h1
      | i + 5, h1 => simp at h1
    have hgm : g ≠ m := fun e => by
      subst e
      simp [World.cell?, hm] at h0
    have hk := hp.low g (Nat.lt_of_lt_of_le hg hB) hgk hgm
    exact .inr ⟨g, off, rfl, Nat.lt_of_lt_of_le hg hp.size, fun j p hj => (cell_of_block hk).trans (hcell j p hj)⟩

/-- a kitchen, ahead of all -/
structure Kb (W0 : World) (k m0 m1 m2 : Nat) (decl : List Bs) (n0 : Nat) (T : List Value) (F' : Bs → Option Value) (n1 : Nat) (F : Bs → Option Bs) : Prop where
  kt : ∃ n a l c, W0.heap[k]? = some (KtO m0 m1 n (.slice a l c) m2)
  dm : Si W0 n0 m0 (fun l => decl.contains l)
  fm : Vi W0 n1 m1 T F'
  zf : zFile ∈ T
  mm : ∃ es c, W0.heap[m2]? = some (.map es c)
  ne0 : m0 ≠ m2
  ne1 : m1 ≠ m2
  ft : FT W0 F' F
/-- what it found so far -/
def Kw (B k m0 m1 m2 n : Nat) (found : List Bs) (W : World) : Prop :=
  ∃ fa fc n2, W.heap[k]? = some (KtO m0 m1 (n : Int) (.slice fa found.length fc) m2) ∧ W.ownsRow B 9 1 (.slice fa found.length fc) found.length (strV found) ∧ Si W n2 m2 (fun l => found.contains l) ∧ n2 ≤ n
section
variable {W0 W : World} {k m0 m1 m2 n0 n1 : Nat} {decl : List Bs} {T : List Value} {F' : Bs → Option Value} {F : Bs → Option Bs} {X : List TypeId}
theorem Vi.map {w : World} {n m : Nat} {T : List Value} {f : Bs → Option Value} (h : Vi w n m T f) : ∃ es c, w.heap[m]? = some (.map es c) := by obtain ⟨D, ⟨es, c, h, _⟩, _⟩ := h; exact ⟨es, c, h⟩
theorem Kb.kn (h : Kb W0 k m0 m1 m2 decl n0 T F' n1 F) (hp : Fp W0.heap.size k m2 X W0 W) {n : Int} {fv : Value} (hk : W.heap[k]? = some (KtO m0 m1 n fv m2)) : Kn W k m0 m1 m2 n fv decl n0 T F' n1 := by
  obtain ⟨_, _, _, _, hk0⟩ := h.kt
  obtain ⟨_, _, hm0⟩ := h.dm.map
  obtain ⟨_, _, hm1⟩ := h.fm.map
  exact ⟨hk, h.dm.kept (hp.low _ h.dm.lt (Ne.symm (map_ne hk0 hm0)) h.ne0), h.fm.kept (hp.low _ h.fm.lt (Ne.symm (map_ne hk0 hm1)) h.ne1), h.zf⟩
theorem Kb.fts (h : Kb W0 k m0 m1 m2 decl n0 T F' n1 F) (hp : Fp W0.heap.size k m2 X W0 W) : FT W F' F := fun s => by
  have := h.ft s
  obtain ⟨_, _, _, _, hk0⟩ := h.kt
  obtain ⟨_, _, hm⟩ := h.mm
  split at this <;> rename_i hs
  · obtain ⟨f0, ua, uc, h1, h2, h3⟩ := this
    exact ⟨f0, ua, uc, h1, h2.fp hp (Nat.le_refl _) hk0 hm, h3⟩
  · exact this
end
end Go.Proofs.YtgledabcfonbeaaGreatDoor.Df
