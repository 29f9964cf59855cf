/-
  A MAP OF YtmppjlgmopfaeaaS TO NUMBERS: nil, or one of its own.
-/
import Derived.Test.YtmppjlgmopfaeaaNmMath
import Derived.StringKeys
import Derived.Maps.OwnSet
import Derived.Maps.RangeWalk
import Derived.Lib.Hide
import Derived.Lib.Strings
namespace Go.Proofs.Ytmppjlgmopfaeaa.Nm
open Go.RowKit Go.Maps

abbrev DW := DataW Unit
abbrev Bs := List UInt8
def bsOf (s : ByteArray) : Bs := s.data.toList
def mkS (l : Bs) : ByteArray := ⟨l.toArray⟩
theorem mkS_of (s : ByteArray) : mkS (bsOf s) = s := Lib.mk_data s
theorem of_mkS (l : Bs) : bsOf (mkS l) = l := rfl
theorem mkS_size (l : Bs) : (mkS l).size = l.length := by rw [Lib.size_eq]; rfl
theorem bsOf_len (s : ByteArray) : (bsOf s).length = s.size := by rw [← mkS_size, mkS_of]
theorem bsOf_inj {a b : ByteArray} (h : bsOf a = bsOf b) : a = b := by rw [← mkS_of a, h, mkS_of]

theorem lt_some {w : World} {k : Nat} {o : Obj} (h : w.heap[k]? = some o) : k < w.heap.size := by
  rcases Nat.lt_or_ge k w.heap.size with h' | h'
  · exact h'
  · rw [Array.getElem?_eq_none h'] at h; cases h

def upd {A B : Type} [DecidableEq A] (f : A → B) (a : A) (b : B) : A → B := fun x => if x = a then b else f x

def intE : Value → Option (DW × List MemPlace)
  | .int .i64 z => some (.lit (.int .i64 z), [])
  | _ => Option.none
theorem intE_inv {v : Value} {z : DW × List MemPlace} (h : intE v = some z) : ∃ i, v = .int .i64 i ∧ z = (.lit (.int .i64 i), []) := by
  unfold intE at h
  split at h
  · cases h; exact ⟨_, rfl, rfl⟩
  · cases h
def elD : Option Nat → DW
  | Option.none => .lit (.int .i64 0)
  | some i => .lit (.int .i64 i)

theorem law9 : Keyed Try.prog 9 := string_keyed Try.underlying9
theorem zero3 (w : World) : (zeroValue 3).run Try.prog w = .ok (.int .i64 0) w := by kernel_rfl
theorem keyS {s : ByteArray} (h : s.size ≤ maxLen) : keyOf Try.prog 9 (.string s) = some (.string (bsOf s)) := by
  have := WideMaps.keyOf_string_mk (P := Try.prog) Try.underlying9 (s := mkS (bsOf s)) (by rw [mkS_of]; exact h)
  rw [mkS_of] at this
  exact this

/-- block m is a map of at most n texts to numbers -/
def Mi (w : World) (n m : Nat) (f : Bs → Option Nat) : Prop :=
  ∃ D : DW, w.ownsMap Try.prog 9 intE m n D ∧ (∀ l, Maps.has D (.string l) = (f l).isSome) ∧ ∀ l, D.atKey (.string l) (.lit (.int .i64 0)) = elD (f l)

section
variable {w w' : World} {n n' m : Nat} {f : Bs → Option Nat}
theorem Mi.lt (h : Mi w n m f) : m < w.heap.size := by obtain ⟨D, h, _⟩ := h; exact h.lt
theorem Mi.map (h : Mi w n m f) : ∃ es c, w.heap[m]? = some (.map es c) := by obtain ⟨D, ⟨es, c, h, _⟩, _⟩ := h; exact ⟨es, c, h⟩
theorem Mi.kept (h : Mi w n m f) (hb : w'.heap[m]? = w.heap[m]?) : Mi w' n m f := by
  obtain ⟨D, ⟨es, c, hm, r1, r2, r3⟩, r⟩ := h
  exact ⟨D, ⟨es, c, hb.trans hm, r1, r2, r3⟩, r⟩
theorem Mi.made (w : World) : Mi (w.alloc (.map #[] 0)) 0 w.heap.size (fun _ => Option.none) :=
  ⟨.map [], World.ownsMap_made _ _ _ _, fun _ => rfl, fun _ => rfl⟩

/-- the two results of a look-up -/
def lookV (o : Option Nat) : Value := .tuple #[.int .i64 ((o.getD 0 : Nat) : Int), .bool o.isSome]

theorem Mi.look (h : Mi w n m f) {s : ByteArray} (hl : s.size ≤ maxLen) :
    (Instr.lookup 66 (.map (some m)) (.string s) true).run Try.prog w = .ok (lookV (f (bsOf s))) w := by
  obtain ⟨D, hD, hhas, hat⟩ := h
  obtain ⟨v, ps, hrun, hv⟩ := hD.look_ok law9 Try.underlying66 (zero3 w) (zd := .lit (.int .i64 0)) (zp := []) rfl (keyS hl)
  obtain ⟨o, rfl, ho⟩ := intE_inv hv
  rw [hat] at ho
  have ho := congrArg Prod.fst ho
  have : o = (((f (bsOf s)).getD 0 : Nat) : Int) := by
    cases e : f (bsOf s) with
    | none => rw [e] at ho; simp [elD] at ho; simp [← ho]
    | some i => rw [e] at ho; simp [elD] at ho; simp [← ho]
  rw [hhas, this] at hrun
  exact hrun

theorem Mi.put (h : Mi w n m f) (hn : n < maxLen) {s : ByteArray} (hl : s.size ≤ maxLen) (i : Nat) :
    ∃ w', (Instr.mapUpdate 66 (.map (some m)) (.string s) (.int .i64 (i : Int))).run Try.prog w = .ok () w' ∧ Mi w' (n + 1) m (upd f (bsOf s) (some i)) ∧ w.grownBy w' (some m) ∧ w'.heap.size = w.heap.size := by
  obtain ⟨D, hD, hhas, hat⟩ := h
  obtain ⟨w', hrun, ho, ht⟩ := hD.store law9 Try.underlying66 hn (val := .int .i64 (i : Int)) (d := .lit (.int .i64 i)) (ps := []) (keyS hl) rfl
  have hk : WideAt.IsKeyLit (.string (bsOf s)) := law9.key (keyS hl)
  refine ⟨w', hrun, ⟨_, ho, fun x => ?_, fun x => ?_⟩, ht.grown, ?_⟩
  · by_cases hx : x = bsOf s
    · subst hx; rw [has_put_same hD.isMap hk, upd, if_pos rfl]; rfl
    · rw [has_put_other (by intro e; cases e; exact hx rfl), upd, if_neg hx, hhas]
  · by_cases hx : x = bsOf s
    · subst hx; rw [atKey_put_same hD.isMap hk, upd, if_pos rfl]; rfl
    · rw [atKey_put_other (by intro e; cases e; exact hx rfl), upd, if_neg hx, hat]
  · obtain ⟨es, c, es', c', _, rfl⟩ := ht
    simp [Go.ChangeMaps.setBlock]

theorem Mi.len (h : Mi w n m f) : ∃ k : Nat, k ≤ n ∧ ∀ ty, (Builtin.len_ #[66] ty #[.map (some m)]).run Try.prog w = .ok (.int .i64 k) w := by
  obtain ⟨D, hD, _⟩ := h
  exact ⟨_, hD.size_le, fun ty => hD.len Try.underlying66 ty⟩

def MapAt (w : World) (n : Nat) (mv : Value) (f : Bs → Option Nat) : Prop :=
  (mv = .map Option.none ∧ f = fun _ => Option.none) ∨ ∃ m, mv = .map (some m) ∧ Mi w n m f

theorem MapAt.look {mv : Value} (h : MapAt w n mv f) {s : ByteArray} (hl : s.size ≤ maxLen) :
    (Instr.lookup 66 mv (.string s) true).run Try.prog w = .ok (lookV (f (bsOf s))) w := by
  rcases h with ⟨rfl, rfl⟩ | ⟨m, rfl, h⟩
  · exact Maps.look_nil true law9 Try.underlying66 (zero3 w) (keyS hl)
  · exact h.look hl

def mapBlk : Value → Option Nat
  | .map o => o
  | _ => Option.none

theorem MapAt.kept {mv : Value} (h : MapAt w n mv f) (hb : ∀ m, mapBlk mv = some m → w'.heap[m]? = w.heap[m]?) : MapAt w' n mv f := by
  rcases h with ⟨rfl, rfl⟩ | ⟨m, rfl, h⟩
  · exact .inl ⟨rfl, rfl⟩
  · exact .inr ⟨m, rfl, h.kept (hb m rfl)⟩

theorem MapAt.blk {mv : Value} (h : MapAt w n mv f) {m : Nat} (hm : mapBlk mv = some m) : ∃ es c, w.heap[m]? = some (.map es c) := by
  rcases h with ⟨rfl, rfl⟩ | ⟨m', rfl, h⟩
  · cases hm
  · cases hm; exact h.map

/-- the numbers of names, as a map has them -/
def ofN (N : List ByteArray) : Bs → Option Nat := fun l => ixOf N (mkS l)
theorem ofN_at (N : List ByteArray) (s : ByteArray) : ofN N (bsOf s) = ixOf N s := by unfold ofN; rw [mkS_of]
theorem ofN_nil : ofN [] = fun _ => Option.none := rfl
theorem ofN_put {N : List ByteArray} {s : ByteArray} (h : ixOf N s = Option.none) : upd (ofN N) (bsOf s) (some N.length) = ofN (N ++ [s]) := by
  funext x
  unfold upd ofN
  rw [ixOf_snoc]
  by_cases hx : x = bsOf s
  · subst hx
    rw [if_pos rfl, mkS_of, h, if_pos rfl]
    rfl
  · have hne : ¬ s = mkS x := fun e => hx (by rw [e, of_mkS])
    rw [if_neg hx, if_neg hne]
    cases ixOf N (mkS x) <;> rfl
end
end Go.Proofs.Ytmppjlgmopfaeaa.Nm
