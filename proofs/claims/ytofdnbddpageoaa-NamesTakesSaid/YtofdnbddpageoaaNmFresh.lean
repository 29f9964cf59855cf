/-
  A MAP OF NEW YtofdnbddpageoaaS TO NUMBERS, AND HOW MANY THEY ARE.
-/
import Derived.Test.YtofdnbddpageoaaNmTakeR
import Derived.Test.YtofdnbddpageoaaNmRows
import Derived.Maps.Views
namespace Go.Proofs.Ytofdnbddpageoaa.Nm
open Go.RowKit Go.Maps

/-- block m is a map of just k texts to numbers -/
def Fm (w : World) (k m : Nat) (f : Bs → Option Nat) : Prop :=
  ∃ D : DW, w.ownsMap Try.prog 9 intE m k D ∧ (∀ l, Maps.has D (.string l) = (f l).isSome) ∧ (∀ l, D.atKey (.string l) (.lit (.int .i64 0)) = elD (f l)) ∧ Maps.size D = k

section
variable {w w' : World} {k m : Nat} {f : Bs → Option Nat}
theorem Fm.mi (h : Fm w k m f) : Mi w k m f := by
  obtain ⟨D, h1, h2, h3, _⟩ := h
  exact ⟨D, h1, h2, h3⟩
theorem Fm.kept (h : Fm w k m f) (hb : w'.heap[m]? = w.heap[m]?) : Fm w' k m f := by
  obtain ⟨D, ⟨es, c, hm, r1, r2, r3⟩, r⟩ := h
  exact ⟨D, ⟨es, c, hb.trans hm, r1, r2, r3⟩, r⟩
theorem Fm.made (w : World) : Fm (w.alloc (.map #[] 0)) 0 w.heap.size (fun _ => Option.none) :=
  ⟨.map [], World.ownsMap_made _ _ _ _, fun _ => rfl, fun _ => rfl, rfl⟩
theorem Fm.len (h : Fm w k m f) (ty : TypeId) : (Builtin.len_ #[66] ty #[.map (some m)]).run Try.prog w = .ok (.int .i64 (k : Int)) w := by
  obtain ⟨D, hD, _, _, hs⟩ := h
  rw [← hs]
  exact hD.len Try.underlying66 ty
theorem Fm.put (h : Fm w k m f) (hn : k < maxLen) {s : ByteArray} (hl : s.size ≤ maxLen) (hf : f (bsOf s) = Option.none) (i : Nat) :
    ∃ w', (Instr.mapUpdate 66 (.map (some m)) (.string s) (.int .i64 (i : Int))).run Try.prog w = .ok () w' ∧ Fm w' (k + 1) m (upd f (bsOf s) (some i)) ∧ w.grownBy w' (some m) ∧ w'.heap.size = w.heap.size := by
  obtain ⟨D, hD, hhas, hat, hs⟩ := h
  obtain ⟨w', hrun, ho, ht⟩ := hD.store law9 Try.underlying66 hn (val := .int .i64 (i : Int)) (d := .lit (.int .i64 i)) (ps := []) (keyS hl) rfl
  have hk : WideAt.IsKeyLit (.string (bsOf s)) := law9.key (keyS hl)
  have hno : Maps.has D (.string (bsOf s)) = false := by rw [hhas, hf]; rfl
  refine ⟨w', hrun, ⟨_, ho, fun x => ?_, fun x => ?_, ?_⟩, ht.grown, ?_⟩
  · by_cases hx : x = bsOf s
    · subst hx; rw [has_put_same hD.isMap hk, upd, if_pos rfl]; rfl
    · rw [has_put_other (by intro e; cases e; exact hx rfl), upd, if_neg hx, hhas]
  · by_cases hx : x = bsOf s
    · subst hx; rw [atKey_put_same hD.isMap hk, upd, if_pos rfl]; rfl
    · rw [atKey_put_other (by intro e; cases e; exact hx rfl), upd, if_neg hx, hat]
  · rw [size_put (hD.tidy law9), hno, hs]
    simp
  · obtain ⟨es, c, es', c', _, rfl⟩ := ht
    simp [Go.ChangeMaps.setBlock]
end

theorem ixOf_app (N K : List ByteArray) (s : ByteArray) : ixOf (N ++ K) s = (ixOf N s).or ((ixOf K s).map (· + N.length)) := by
  unfold ixOf
  rw [List.findIdx?_append]

/-- the numbers of new names, behind those that there are -/
def freshF (N K : List ByteArray) : Bs → Option Nat := fun l => (ixOf K (mkS l)).map (· + N.length)
theorem freshF_at (N K : List ByteArray) (s : ByteArray) : freshF N K (bsOf s) = (ixOf K s).map (· + N.length) := by unfold freshF; rw [mkS_of]
theorem freshF_nil (N : List ByteArray) : freshF N [] = fun _ => Option.none := rfl
theorem freshF_put {N K : List ByteArray} {s : ByteArray} (h : ixOf K s = Option.none) : upd (freshF N K) (bsOf s) (some (N.length + K.length)) = freshF N (K ++ [s]) := by
  funext x
  unfold upd freshF
  rw [ixOf_snoc]
  by_cases hx : x = bsOf s
  · subst hx
    rw [if_pos rfl, mkS_of, h, if_pos rfl]
    simp [Nat.add_comm]
  · have hne : ¬ s = mkS x := fun e => hx (by rw [e, of_mkS])
    rw [if_neg hx, if_neg hne]
    cases ixOf K (mkS x) <;> rfl

/-- the number that a name has, or gets -/
def numOf (M : List ByteArray) (s : ByteArray) : Nat := (ixOf M s).getD M.length

/-- where a telling stands: the boxes of the book, of the new names' map, of the records -/
structure Ts (V W : World) (p b2 b6 b5 fm : Nat) (vr : Value) (N K : List ByteArray) (recs : List (List Nat)) (S : Nat → Prop) (F : List (Option Fd)) (o : Option Nat) : Prop where
  h2 : W.heap[b2]? = some (.cells #[.pointer (some ⟨p, 0, Option.none⟩)] 24 (0, 0))
  h6 : W.heap[b6]? = some (.cells #[.map (some fm)] 66 (0, 0))
  h5 : W.heap[b5]? = some (.cells #[vr] 22 (0, 0))
  rows : Rows V.heap.size o W vr recs
  oW : ∀ k, o = some k → k < W.heap.size
  fresh : Fm W K.length fm (freshF N K)
  low : V.heap.size ≤ b2 ∧ V.heap.size ≤ b6 ∧ V.heap.size ≤ b5 ∧ V.heap.size ≤ fm
  book : ∃ v1 v2 v3 Q, Bk S V p ⟨N, F⟩ v1 v2 v3 Q
  inS : ∀ k, S k → k < V.heap.size
  bel : Below V.heap.size V W
end Go.Proofs.Ytofdnbddpageoaa.Nm
