/-
  SCOPES IN MEMORY: a map of texts, and perhaps a scope above.
-/
import Derived.Test.YtbohnjiachnadaaScBase
import Derived.StringKeys
import Derived.Maps.OwnSet
import Derived.Maps.RangeWalk
namespace Go.Proofs.Ytbohnjiachnadaa.Sc
open Go.RowKit Go.Maps

abbrev DW := DataW Unit
def ptr (o : Option Nat) : Value := .pointer (o.map fun i => ⟨i, 0, none⟩)
theorem ptr_some (i : Nat) : ptr (some i) = .pointer (some ⟨i, 0, none⟩) := rfl
theorem ptr_none : ptr none = .pointer none := rfl
def held (t : Bs) : Value := .agg #[.string (mk t)]
def heldE : Value → Option (DW × List MemPlace)
  | .agg cs => match cs.toList with
    | [.string s] => some (.lit (.string s.data.toList), [])
    | _ => none
  | _ => none
theorem heldE_mk (t : Bs) : heldE (held t) = some (.lit (.string t), []) := rfl
theorem heldE_inv {v : Value} {z : DW × List MemPlace} (h : heldE v = some z) : ∃ t, v = held t ∧ z = (.lit (.string t), []) := by
  unfold heldE at h
  split at h
  · rename_i cs
    split at h
    · rename_i s hs
      cases h
      refine ⟨s.data.toList, ?_, rfl⟩
      unfold held
      rw [mk_of]
      congr 1
      cases cs
      simp at hs
      rw [hs]
    · cases h
  · cases h

theorem law9 : Keyed Try.prog 9 := string_keyed Try.underlying9
theorem zeroHeld (w : World) : (zeroValue 73).run Try.prog w = .ok (held []) w := by kernel_rfl
theorem keyS {l : Bs} (h : l.length ≤ maxLen) : keyOf Try.prog 9 (.string (mk l)) = some (.string l) := WideMaps.keyOf_string_mk Try.underlying9 (by rw [mk_size]; exact h)

def upd (f : Bs → Option Bs) (l t : Bs) : Bs → Option Bs := fun x => if x = l then some t else f x

/-- block m is a map of at most n names that stand for texts -/
def Dir (w : World) (n m : Nat) (f : Bs → Option Bs) : Prop :=
  ∃ D : DW, w.ownsMap Try.prog 9 heldE m n D ∧ (∀ l, Maps.has D (.string l) = (f l).isSome) ∧ ∀ l, D.atKey (.string l) (.lit (.string [])) = .lit (.string ((f l).getD []))

theorem Dir.lt {w : World} {n m : Nat} {f : Bs → Option Bs} (h : Dir w n m f) : m < w.heap.size := by obtain ⟨D, h, _⟩ := h; exact h.lt
theorem Dir.map {w : World} {n m : Nat} {f : Bs → Option Bs} (h : Dir w n m f) : ∃ es c, w.heap[m]? = some (.map es c) := by obtain ⟨D, ⟨es, c, h, _⟩, _⟩ := h; exact ⟨es, c, h⟩
theorem Dir.kept {w w' : World} {n m : Nat} {f : Bs → Option Bs} (h : Dir w n m f) (hb : w'.heap[m]? = w.heap[m]?) : Dir w' n m f := by
  obtain ⟨D, ⟨es, c, hm, r1, r2, r3⟩, r⟩ := h
  exact ⟨D, ⟨es, c, hb.trans hm, r1, r2, r3⟩, r⟩
theorem Dir.made (w : World) : Dir (w.alloc (.map #[] 0)) 0 w.heap.size (fun _ => none) :=
  ⟨.map [], World.ownsMap_made _ _ _ _, fun _ => rfl, fun _ => rfl⟩

theorem Dir.look {w : World} {n m : Nat} {f : Bs → Option Bs} (h : Dir w n m f) {l : Bs} (hl : l.length ≤ maxLen) :
    (Instr.lookup 69 (.map (some m)) (.string (mk l)) true).run Try.prog w = .ok (.tuple #[held ((f l).getD []), .bool (f l).isSome]) w := by
  obtain ⟨D, hD, hhas, hat⟩ := h
  obtain ⟨v, ps, hrun, hv⟩ := hD.look_ok law9 Try.underlying69 (zeroHeld w) (heldE_mk []) (keyS hl)
  obtain ⟨t, rfl, ht⟩ := heldE_inv hv
  rw [hat, Prod.mk.injEq] at ht
  obtain ⟨ht, _⟩ := ht
  simp at ht
  rw [hhas, ← ht] at hrun
  exact hrun

theorem Dir.put {w : World} {n m : Nat} {f : Bs → Option Bs} (h : Dir w n m f) (hn : n < maxLen) {l : Bs} (hl : l.length ≤ maxLen) (t : Bs) :
    ∃ w', (Instr.mapUpdate 69 (.map (some m)) (.string (mk l)) (held t)).run Try.prog w = .ok () w' ∧ Dir w' (n + 1) m (upd f l t) ∧ w.grownBy w' (some m) ∧ w'.heap.size = w.heap.size := by
  obtain ⟨D, hD, hhas, hat⟩ := h
  obtain ⟨w', hrun, ho, ht⟩ := hD.store law9 Try.underlying69 hn (val := held t) (d := .lit (.string t)) (ps := []) (keyS hl) rfl
  have hk : WideAt.IsKeyLit (.string l) := law9.key (keyS hl)
  refine ⟨w', hrun, ⟨_, ho, fun x => ?_, fun x => ?_⟩, ht.grown, ?_⟩
  · by_cases hx : x = l
    · subst hx; rw [has_put_same hD.isMap hk, upd, if_pos rfl]; rfl
    · rw [has_put_other (by intro e; cases e; exact hx rfl), upd, if_neg hx, hhas]
  · by_cases hx : x = l
    · subst hx; rw [atKey_put_same hD.isMap hk, upd, if_pos rfl]; rfl
    · rw [atKey_put_other (by intro e; cases e; exact hx rfl), upd, if_neg hx, hat]
  · obtain ⟨es, c, es', c', _, rfl⟩ := ht
    simp [Go.ChangeMaps.setBlock]

/-- the texts' map of a scope: nil, or one of its own -/
def MapAt (w : World) (n : Nat) (mv : Value) (f : Bs → Option Bs) : Prop :=
  (mv = .map none ∧ f = fun _ => none) ∨ ∃ m, mv = .map (some m) ∧ Dir w n m f

theorem MapAt.look {w : World} {n : Nat} {mv : Value} {f : Bs → Option Bs} (h : MapAt w n mv f) {l : Bs} (hl : l.length ≤ maxLen) :
    (Instr.lookup 69 mv (.string (mk l)) true).run Try.prog w = .ok (.tuple #[held ((f l).getD []), .bool (f l).isSome]) w := by
  rcases h with ⟨rfl, rfl⟩ | ⟨m, rfl, h⟩
  · exact Maps.look_nil true law9 Try.underlying69 (zeroHeld w) (keyS hl)
  · exact h.look hl

def mapBlk : Value → Option Nat
  | .map o => o
  | _ => none

theorem MapAt.kept {w w' : World} {n : Nat} {mv : Value} {f : Bs → Option Bs} (h : MapAt w n mv f) (hb : ∀ m, mapBlk mv = some m → w'.heap[m]? = w.heap[m]?) : MapAt w' n mv f := by
  rcases h with ⟨rfl, rfl⟩ | ⟨m, rfl, h⟩
  · exact .inl ⟨rfl, rfl⟩
  · exact .inr ⟨m, rfl, h.kept (hb m rfl)⟩

theorem MapAt.blk {w : World} {n : Nat} {mv : Value} {f : Bs → Option Bs} (h : MapAt w n mv f) {m : Nat} (hm : mapBlk mv = some m) : ∃ es c, w.heap[m]? = some (.map es c) := by
  rcases h with ⟨rfl, rfl⟩ | ⟨m', rfl, h⟩
  · cases hm
  · cases hm; exact h.map

/-- a scope -/
structure Node (w : World) (n p : Nat) (mv : Value) (up : Option Nat) (f : Bs → Option Bs) : Prop where
  box : w.heap[p]? = some (.cells #[mv, ptr up] 71 (0, 0))
  map : MapAt w n mv f
  low : ∀ q, up = some q → q < p

theorem Node.kept {w w' : World} {n p : Nat} {mv : Value} {up : Option Nat} {f : Bs → Option Bs} (h : Node w n p mv up f) (hp : w'.heap[p]? = w.heap[p]?) (hb : ∀ m, mapBlk mv = some m → w'.heap[m]? = w.heap[m]?) : Node w' n p mv up f :=
  ⟨hp.trans h.box, h.map.kept hb, h.low⟩

theorem Node.below {w w' : World} {n p : Nat} {mv : Value} {up : Option Nat} {f : Bs → Option Bs} (h : Node w n p mv up f) (hb : Below w.heap.size w w') : Node w' n p mv up f :=
  h.kept (hb.block _ (lt_some h.box)) fun m hm => by obtain ⟨es, c, hc⟩ := h.map.blk hm; exact hb.block _ (lt_some hc)

theorem Node.cells {w : World} {n p : Nat} {mv : Value} {up : Option Nat} {f : Bs → Option Bs} (h : Node w n p mv up f) : w.cell? ⟨p, 0, none⟩ = some mv ∧ w.cell? ⟨p, 1, none⟩ = some (ptr up) ∧ w.frozen? ⟨p, 0, none⟩ = false := by
  simp [World.cell?, World.frozen?, h.box]

/-- scopes, from the lowest one upwards -/
inductive Chain (w : World) : Option Nat → List (Bs → Option Bs) → Prop
  | nil : Chain w none []
  | cons {n p : Nat} {mv : Value} {up : Option Nat} {f : Bs → Option Bs} {r : List (Bs → Option Bs)} : Node w n p mv up f → Chain w up r → Chain w (some p) (f :: r)

theorem Chain.keep {w w' : World} {o : Option Nat} {fs : List (Bs → Option Bs)} (h : Chain w o fs) (hb : Below w.heap.size w w') : Chain w' o fs := by
  induction h with
  | nil => exact .nil
  | cons hn _ ih => exact .cons (hn.below hb) ih

/-- what a name stands for -/
def getL : List (Bs → Option Bs) → Bs → Bs
  | [], _ => []
  | f :: r, l => match f l with
    | some t => t
    | none => getL r l

def ptrN : Value → Nat
  | .pointer (some a) => a.block + 1
  | _ => 0
theorem ptrN_ptr (o : Option Nat) : ptrN (ptr o) = match o with | some p => p + 1 | none => 0 := by cases o <;> rfl

set_option maxRecDepth 100000 in
set_option maxHeartbeats 4000000 in
theorem get_c {w : World} {o : Option Nat} {fs : List (Bs → Option Bs)} (h : Chain w o fs) (l : Bs) (hl : l.length ≤ 1000000) :
    Calls Try.prog 20 #[ptr o, .string (mk l)] w fun e w' => e = .returned (.string (mk (getL fs l))) ∧ Below w.heap.size w w' := by
  have hlm : l.length ≤ maxLen := by unfold maxLen; omega
  have HLM := Lib.hid hlm
  obtain ⟨R, hR⟩ : ∃ R, getL fs l = R := ⟨_, rfl⟩
  have HR := Lib.hid hR
  rw [hR]
  have HH := Lib.hid h
  clear hR hlm h
  go_enter Try.func20, Try.ntmps20
  go_wp2
  go_step3
  go_wp2
  go_step3
  go_wp2
  go_loopw [5] (fun at' W' => ∃ (q : Option Nat) (gs : List (Bs → Option Bs)), at' = ptr q ∧ Hid (Chain W' q gs) ∧ Hid (getL gs l = R) ∧ Hid (Below w.heap.size w W')) (fun at' _ => ptrN at')
  case atStart => exact ⟨o, fs, rfl, HH, HR, Lib.hid (Below.refl _ _)⟩
  case round =>
    obtain ⟨q, gs, rfl, HC, HG, HB⟩ := hrel
    have hc := HC.out
    cases hc with
    | nil =>
      have HR2 := HG.out
      change [] = R at HR2
      subst HR2
      rw [ptr_none]
      go_wp2
      rw [Exit.noGoto_ret]
      go_ret
      exact ⟨rfl, HB.out⟩
    | cons hn hup =>
      rename_i n p mv up f r
      obtain ⟨c0, c1, _⟩ := hn.cells
      have hlk := fun W (hW : MapAt W n mv f) => hW.look HLM.out
      have hlk0 := hlk _ hn.map
      have hlow := hn.low
      have hgl : getL (f :: r) l = R := HG.out
      have hHB := HB.out
      rw [ptr_some]
      cases hf : f l with
      | some t =>
        have e1 : t = R := by rw [← hgl]; unfold getL; rw [hf]
        subst e1
        rw [hf] at hlk0
        simp only [Option.getD_some, Option.isSome_some] at hlk0
        unfold held at hlk0
        clear hgl hf hlk hHB
        go_wp2
        rw [Exit.noGoto_ret]
        go_ret
        exact ⟨rfl, HB.out.alloc HB.out.size _⟩
      | none =>
        have e1 : getL r l = R := by rw [← hgl]; show _ = getL (f :: r) l; conv => rhs; unfold getL; rw [hf]
        have HN := Lib.hid e1
        have HLOW := Lib.hid hlow
        rw [hf] at hlk0
        simp only [Option.getD_none, Option.isSome_none] at hlk0
        unfold held at hlk0
        have HUP := Lib.hid hup
        have hpl := lt_some hn.box
        have c1' : ∀ ob, (wr.alloc ob).cell? ⟨p, 1, none⟩ = some (ptr up) := fun ob => by
          rw [← c1]; exact cell_of_block (Below.heap_alloc _ _ _ hpl)
        clear hgl hf hlk hHB e1 hlow hup hn
        go_wp2
        go_roundw
        case rel => exact ⟨up, r, rfl, Lib.hid (HUP.out.keep (below_alloc _ _)), HN, Lib.hid (HB.out.alloc HB.out.size _)⟩
        case measure =>
          rw [ptrN_ptr]
          cases up with
          | none => simp [ptrN]
          | some q => have := HLOW.out q rfl; simp [ptrN]; omega
end Go.Proofs.Ytbohnjiachnadaa.Sc
