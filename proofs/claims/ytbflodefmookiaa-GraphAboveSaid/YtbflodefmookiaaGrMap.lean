/-
  A MAP WITH ANY VALUES: each value stands for itself. Keys: whatever kind the kit's 'Keyed' knows.
-/
import Derived.Test.YtbflodefmookiaaGrPop
import Derived.Maps.OwnSet
import Derived.StringKeys
namespace Go.Proofs.Ytbflodefmookiaa.Gr
open Go.RowKit Go.Maps Go.Proofs.Ytbflodefmookiaa

def heldR (v : Value) : Option (DataW Value × List MemPlace) := some (.held v, [])
theorem heldR_inv {v u : Value} {ps : List MemPlace} (h : heldR v = some (.held u, ps)) : v = u := by
  unfold heldR at h
  cases h
  rfl
/-- block m is a map of at most n keys of type k: those of f -/
def Mv (w : World) (k : TypeId) (n m : Nat) (f : Lit → Option Value) : Prop :=
  ∃ D : DataW Value, w.ownsMap Try.prog k heldR m n D ∧ (∀ l, Maps.has D l = (f l).isSome) ∧ ∀ l v, f l = some v → ∀ z, D.atKey l z = .held v
noncomputable def updL (f : Lit → Option Value) (l : Lit) (v : Value) : Lit → Option Value := fun x => @ite _ (x = l) (Classical.propDecidable _) (some v) (f x)
theorem updL_same (f : Lit → Option Value) (l : Lit) (v : Value) : updL f l v l = some v := by
  unfold updL
  rw [@if_pos _ (Classical.propDecidable _) rfl]
theorem updL_ne (f : Lit → Option Value) {l x : Lit} (v : Value) (h : x ≠ l) : updL f l v x = f x := by
  unfold updL
  rw [@if_neg _ (Classical.propDecidable _) h]
section
variable {w w' : World} {k t e : TypeId} {n m : Nat} {f : Lit → Option Value}
theorem Mv.kept (h : Mv w k n m f) (hb : w'.heap[m]? = w.heap[m]?) : Mv w' k n m f := by
  obtain ⟨D, ⟨es, c, hm, r1, r2, r3⟩, r⟩ := h
  exact ⟨D, ⟨es, c, hb.trans hm, r1, r2, r3⟩, r⟩
theorem Mv.lt (h : Mv w k n m f) : m < w.heap.size := by obtain ⟨D, h, _⟩ := h; exact h.lt
theorem Mv.map (h : Mv w k n m f) : ∃ es c, w.heap[m]? = some (.map es c) := by obtain ⟨D, ⟨es, c, h, _⟩, _⟩ := h; exact ⟨es, c, h⟩
theorem Mv.made (w : World) (k : TypeId) : Mv (w.alloc (.map #[] 0)) k 0 w.heap.size (fun _ => none) := ⟨.map [], World.ownsMap_made _ _ _ _, fun _ => rfl, fun _ _ h => by cases h⟩
theorem Mv.look (h : Mv w k n m f) (K : Keyed Try.prog k) (ht : Try.prog.underlying t = some (.map k e)) {z : Value} (hz : (zeroValue e).run Try.prog w = .ok z w) {key : Value} {l : Lit} (hkey : keyOf Try.prog k key = some l) :
    (Instr.lookup t (.map (some m)) key true).run Try.prog w = .ok (.tuple #[(f l).getD z, .bool (f l).isSome]) w := by
  obtain ⟨D, hD, hhas, hat⟩ := h
  obtain ⟨u, ps, hrun, hu⟩ := hD.look_ok K ht hz (show heldR z = some (.held z, []) from rfl) hkey
  rw [hhas] at hrun
  rw [hrun]
  cases hf : f l with
  | none =>
    rw [atKey_of_not_has (D := D) (k := l) (z := .held z) (by rw [hhas, hf]; rfl)] at hu
    rw [heldR_inv hu]
    rfl
  | some v =>
    rw [hat l v hf] at hu
    rw [heldR_inv hu]
    rfl
theorem Mv.look1 (h : Mv w k n m f) (K : Keyed Try.prog k) (ht : Try.prog.underlying t = some (.map k e)) {z : Value} (hz : (zeroValue e).run Try.prog w = .ok z w) {key : Value} {l : Lit} (hkey : keyOf Try.prog k key = some l) :
    (Instr.lookup t (.map (some m)) key false).run Try.prog w = .ok ((f l).getD z) w := by
  obtain ⟨D, hD, hhas, hat⟩ := h
  obtain ⟨u, ps, hrun, hu⟩ := hD.lookup K ht hz (show heldR z = some (.held z, []) from rfl) hkey
  rw [hrun]
  cases hf : f l with
  | none =>
    rw [atKey_of_not_has (D := D) (k := l) (z := .held z) (by rw [hhas, hf]; rfl)] at hu
    rw [heldR_inv hu]
    rfl
  | some v =>
    rw [hat l v hf] at hu
    rw [heldR_inv hu]
    rfl
theorem Mv.put (h : Mv w k n m f) (K : Keyed Try.prog k) (ht : Try.prog.underlying t = some (.map k e)) (hn : n < maxLen) {key : Value} {l : Lit} (hkey : keyOf Try.prog k key = some l) (v : Value) :
    ∃ w', (Instr.mapUpdate t (.map (some m)) key v).run Try.prog w = .ok () w' ∧ Mv w' k (n + 1) m (updL f l v) ∧ w.grownBy w' (some m) ∧ w'.heap.size = w.heap.size := by
  obtain ⟨D, hD, hhas, hat⟩ := h
  obtain ⟨w', hrun, ho, ht2⟩ := hD.store K ht hn hkey (show heldR v = some (.held v, []) from rfl)
  have hk : WideAt.IsKeyLit l := K.key hkey
  refine ⟨w', hrun, ⟨_, ho, fun x => ?_, fun x u hx z => ?_⟩, ht2.grown, ?_⟩
  · by_cases hx : x = l
    · subst hx; rw [has_put_same hD.isMap hk, updL_same]; rfl
    · rw [has_put_other hx, updL_ne _ _ hx, hhas]
  · by_cases hxs : x = l
    · subst hxs
      rw [updL_same] at hx
      cases hx
      exact atKey_put_same hD.isMap hk _ z
    · rw [updL_ne _ _ hxs] at hx
      rw [atKey_put_other hxs]
      exact hat x u hx z
  · obtain ⟨es, c, es', c', _, rfl⟩ := ht2
    simp [Go.ChangeMaps.setBlock]
end
theorem lawI : Keyed Try.prog 3 := int_keyed Try.underlying3
theorem keyI {x : Nat} (hx : x ≤ 1000000) : keyOf Try.prog 3 (.int .i64 (x : Int)) = some (.int .i64 (x : Int)) := Maps.keyOf_int_mk Try.underlying3 (by simp [Lit.wf, IntKind.min, IntKind.max, IntKind.signed, IntKind.bits]; omega)
theorem zeroI (w : World) : (zeroValue 3).run Try.prog w = .ok (.int .i64 0) w := by kernel_rfl
theorem zeroR (w : World) : (zeroValue 37).run Try.prog w = .ok (.slice none 0 0) w := by kernel_rfl

/-- a map with numbers as keys -/
def MvI (w : World) (n m : Nat) (g : Nat → Option Value) : Prop := ∃ f, Mv w 3 n m f ∧ ∀ x : Nat, f (.int .i64 (x : Int)) = g x
section
variable {w w' : World} {t e : TypeId} {n m : Nat} {g : Nat → Option Value}
theorem MvI.kept (h : MvI w n m g) (hb : w'.heap[m]? = w.heap[m]?) : MvI w' n m g := by obtain ⟨f, h1, h2⟩ := h; exact ⟨f, h1.kept hb, h2⟩
theorem MvI.lt (h : MvI w n m g) : m < w.heap.size := by obtain ⟨f, h1, h2⟩ := h; exact h1.lt
theorem MvI.map (h : MvI w n m g) : ∃ es c, w.heap[m]? = some (.map es c) := by obtain ⟨f, h1, h2⟩ := h; exact h1.map
theorem MvI.made (w : World) : MvI (w.alloc (.map #[] 0)) 0 w.heap.size (fun _ => none) := ⟨_, Mv.made w _, fun _ => rfl⟩
theorem MvI.look1 (h : MvI w n m g) (ht : Try.prog.underlying t = some (.map 3 e)) {z : Value} (hz : (zeroValue e).run Try.prog w = .ok z w) {x : Nat} (hx : x ≤ 1000000) :
    (Instr.lookup t (.map (some m)) (.int .i64 (x : Int)) false).run Try.prog w = .ok ((g x).getD z) w := by
  obtain ⟨f, h1, h2⟩ := h
  rw [← h2]
  exact h1.look1 lawI ht hz (keyI hx)
theorem MvI.put (h : MvI w n m g) (ht : Try.prog.underlying t = some (.map 3 e)) (hn : n < maxLen) {x : Nat} (hx : x ≤ 1000000) (v : Value) :
    ∃ w', (Instr.mapUpdate t (.map (some m)) (.int .i64 (x : Int)) v).run Try.prog w = .ok () w' ∧ MvI w' (n + 1) m (fun y => if y = x then some v else g y) ∧ w.grownBy w' (some m) ∧ w'.heap.size = w.heap.size := by
  obtain ⟨f, h1, h2⟩ := h
  obtain ⟨w', hrun, h3, h4, h5⟩ := h1.put lawI ht hn (keyI hx) v
  refine ⟨w', hrun, ⟨_, h3, fun y => ?_⟩, h4, h5⟩
  show _ = if y = x then some v else g y
  by_cases e : y = x
  · subst e
    rw [updL_same, if_pos rfl]
  · have hne : (Lit.int .i64 (y : Int)) ≠ .int .i64 (x : Int) := fun h => e (by
      have h2 : (y : Int) = (x : Int) := by simpa using h
      omega)
    rw [updL_ne _ _ hne, if_neg e, h2]
end
end Go.Proofs.Ytbflodefmookiaa.Gr
