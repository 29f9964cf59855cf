/-
  A DISK IN MEMORY: which blocks hold it, and that whatever else is written leaves it as it is.
-/
import Derived.Test.YtfmelhcpccghdaaGreatRows
import Derived.Test.YtfmelhcpccghdaaGreatSt
import Derived.Test.YtfmelhcpccghdaaGreatStr
import Derived.WalkKit
import Derived.WalkLawsBesides
import Derived.WalkMore
import Derived.Lib.Hide
import Derived.OpenShut
import Derived.StringKeys
import Derived.Maps.OwnSet
import Derived.Maps.RangeWalk
namespace Go.Proofs.YtfmelhcpccghdaaGreat
open Go.RowKit Go.Maps

abbrev DW := DataW Unit
def ptr (o : Option Nat) : Value := .pointer (o.map fun i => ⟨i, 0, none⟩)
theorem ptr_some (i : Nat) : ptr (some i) = .pointer (some ⟨i, 0, none⟩) := rfl
theorem ptr_none : ptr none = .pointer none := rfl
def fileE : Value → Option (DW × List MemPlace)
  | .pointer none => some (.nil, [])
  | .pointer (some ⟨i, 0, none⟩) => some (.lit (.int .i64 i), [])
  | _ => none
def elD : Option Nat → DW
  | none => .nil
  | some i => .lit (.int .i64 i)
theorem fileE_ptr (o : Option Nat) : fileE (ptr o) = some (elD o, []) := by cases o <;> rfl
theorem fileE_inv {v : Value} {z : DW × List MemPlace} (h : fileE v = some z) : ∃ o, v = ptr o ∧ z = (elD o, []) := by
  unfold fileE at h
  split at h
  · cases h; exact ⟨none, rfl, rfl⟩
  · cases h; exact ⟨some _, rfl, rfl⟩
  · cases h
theorem elD_inj {a b : Option Nat} (h : elD a = elD b) : a = b := by
  cases a <;> cases b <;> simp [elD] at h
  · rfl
  · rw [Int.ofNat.inj h]

theorem law9 : Keyed Tryz.prog 9 := string_keyed Tryz.underlying9
theorem zero66 (w : World) : (zeroValue 73).run Tryz.prog w = .ok (.pointer none) w := by kernel_rfl

theorem keyS {l : List UInt8} (h : l.length ≤ maxLen) : keyOf Tryz.prog 9 (.string (mk l)) = some (.string l) := WideMaps.keyOf_string_mk Tryz.underlying9 (by rw [mk_size]; exact h)
theorem keyS_inv {v : Value} {kl : Lit} (h : keyOf Tryz.prog 9 v = some kl) : ∃ l : List UInt8, v = .string (mk l) ∧ kl = .string l ∧ l.length ≤ maxLen := by
  obtain ⟨s, rfl, rfl, hs⟩ := WideMaps.string_of_keyOf Tryz.underlying9 h
  exact ⟨s.data.toList, by rw [mk_of], rfl, by rw [← Lib.size_eq]; exact hs⟩

/-- A DIRECTORY: block m is a map of at most n names that lead to files -/
def Dir (w : World) (n m : Nat) (f : List UInt8 → Option Nat) : Prop :=
  ∃ D : DW, w.ownsMap Tryz.prog 9 fileE m n D ∧ (∀ l, Maps.has D (.string l) = (f l).isSome) ∧ ∀ l, D.atKey (.string l) .nil = elD (f l)

theorem Dir.lt {w : World} {n m : Nat} {f : List UInt8 → Option Nat} (h : Dir w n m f) : m < w.heap.size := by obtain ⟨D, h, _⟩ := h; exact h.lt
theorem Dir.map {w : World} {n m : Nat} {f : List UInt8 → Option Nat} (h : Dir w n m f) : ∃ es c, w.heap[m]? = some (.map es c) := by obtain ⟨D, ⟨es, c, h, _⟩, _⟩ := h; exact ⟨es, c, h⟩
theorem Dir.mono {w : World} {n n' m : Nat} {f : List UInt8 → Option Nat} (h : Dir w n m f) (hn : n ≤ n') : Dir w n' m f := by
  obtain ⟨D, h, r⟩ := h; exact ⟨D, h.mono hn, r⟩
theorem Dir.kept {w w' : World} {n m : Nat} {f : List UInt8 → Option Nat} (h : Dir w n m f) (hb : w'.heap[m]? = w.heap[m]?) : Dir w' n m f := by
  obtain ⟨D, ⟨es, c, hm, r1, r2, r3⟩, r⟩ := h
  exact ⟨D, ⟨es, c, hb.trans hm, r1, r2, r3⟩, r⟩
theorem Dir.made (w : World) : Dir (w.alloc (.map #[] 0)) 0 w.heap.size (fun _ => none) :=
  ⟨.map [], World.ownsMap_made _ _ _ _, fun _ => rfl, fun _ => rfl⟩

/-- a look-up, as an equation for the walk -/
theorem Dir.look {w : World} {n m : Nat} {f : List UInt8 → Option Nat} (h : Dir w n m f) {l : List UInt8} (hl : l.length ≤ maxLen) :
    (Instr.lookup 55 (.map (some m)) (.string (mk l)) false).run Tryz.prog w = .ok (ptr (f l)) w := by
  obtain ⟨D, hD, _, hat⟩ := h
  obtain ⟨v, ps, hrun, hv⟩ := hD.lookup law9 Tryz.underlying55 (zero66 w) (zd := .nil) (zp := []) rfl (keyS hl)
  obtain ⟨o, rfl, ho⟩ := fileE_inv hv
  rw [hat] at ho
  cases elD_inj (congrArg Prod.fst ho)
  exact hrun

theorem Dir.del {w : World} {n m : Nat} {f : List UInt8 → Option Nat} (h : Dir w n m f) {l : List UInt8} (hl : l.length ≤ maxLen) (ty : TypeId) :
    ∃ w', (Builtin.delete_ #[55, 9] ty #[.map (some m), .string (mk l)]).run Tryz.prog w = .ok (.tuple #[]) w' ∧ Dir w' n m (upd f l none) ∧ w.grownBy w' (some m) ∧ w'.heap.size = w.heap.size := by
  obtain ⟨D, hD, hhas, hat⟩ := h
  obtain ⟨w', hrun, ho, ht⟩ := hD.drop law9 Tryz.underlying55 (keyS hl) ty
  refine ⟨w', hrun, ⟨_, ho, fun x => ?_, fun x => ?_⟩, ht.grown, ?_⟩
  · by_cases hx : x = l
    · subst hx; rw [has_del_same, upd_same]; rfl
    · rw [has_del_other (by intro e; cases e; exact hx rfl), upd_other _ _ hx, hhas]
  · by_cases hx : x = l
    · subst hx; rw [atKey_del_same, upd_same]; rfl
    · rw [atKey_del_other (by intro e; cases e; exact hx rfl), upd_other _ _ hx, hat]
  · obtain ⟨es, c, es', c', _, rfl⟩ := ht
    simp [Go.ChangeMaps.setBlock]

theorem Dir.put {w : World} {n m : Nat} {f : List UInt8 → Option Nat} (h : Dir w n m f) (hn : n < maxLen) {l : List UInt8} (hl : l.length ≤ maxLen) (i : Nat) :
    ∃ w', (Instr.mapUpdate 55 (.map (some m)) (.string (mk l)) (.pointer (some ⟨i, 0, none⟩))).run Tryz.prog w = .ok () w' ∧ Dir w' (n + 1) m (upd f l (some i)) ∧ w.grownBy w' (some m) ∧ w'.heap.size = w.heap.size := by
  obtain ⟨D, hD, hhas, hat⟩ := h
  obtain ⟨w', hrun, ho, ht⟩ := hD.store law9 Tryz.underlying55 hn (val := .pointer (some ⟨i, 0, none⟩)) (d := .lit (.int .i64 i)) (ps := []) (keyS hl) rfl
  have hk : WideAt.IsKeyLit (.string l) := law9.key (keyS hl)
  refine ⟨w', hrun, ⟨_, ho, fun x => ?_, fun x => ?_⟩, ht.grown, ?_⟩
  · by_cases hx : x = l
    · subst hx; rw [has_put_same hD.isMap hk, upd_same]; rfl
    · rw [has_put_other (by intro e; cases e; exact hx rfl), upd_other _ _ hx, hhas]
  · by_cases hx : x = l
    · subst hx; rw [atKey_put_same hD.isMap hk, upd_same]; rfl
    · rw [atKey_put_other (by intro e; cases e; exact hx rfl), upd_other _ _ hx, hat]
  · obtain ⟨es, c, es', c', _, rfl⟩ := ht
    simp [Go.ChangeMaps.setBlock]

theorem Dir.len {w : World} {n m : Nat} {f : List UInt8 → Option Nat} (h : Dir w n m f) (ty : TypeId) : ∃ k : Nat, k ≤ n ∧ (Builtin.len_ #[55] ty #[.map (some m)]).run Tryz.prog w = .ok (.int .i64 k) w := by
  obtain ⟨D, hD, _⟩ := h
  exact ⟨_, hD.size_le, hD.len Tryz.underlying55 ty⟩

/-! ### the blocks -/
def bytesV (l : List UInt8) : List Value := l.map fun b => Value.int .u8 b.toNat
theorem bytesV_length (l : List UInt8) : (bytesV l).length = l.length := by simp [bytesV]
def chV (c : Ch) : List Value := [.string (mk c.src), .string (mk c.dst), ptr c.file]
def chsV (l : List Ch) : List Value := l.flatMap chV
theorem chsV_length (l : List Ch) : (chsV l).length = l.length * 3 := by
  induction l with
  | nil => rfl
  | cons c r ih => simp [chsV, chV] at ih ⊢; omega

structure Pl where
  m1 : Nat
  m2 : Nat
  cv : Value
  bv : Nat → Value

def rootC (d : Ds) (q : Pl) : Array Value :=
  #[.int .i64 d.quota, .int .i64 d.clock, .int .i64 d.deeds, .bool d.up, .int .i64 d.left, .map (some q.m1), .map (some q.m2), q.cv]

def Off (X : Nat → Prop) (v : Value) : Prop := ∀ k, v.ownBlock = some k → ¬ X k

/-- a file at its place -/
structure FileAt (X : Nat → Prop) (w : World) (i : Nat) (v : Value) (f : Fl) : Prop where
  off : ¬ X i
  cells : w.heap[i]? = some (.cells #[v, .int .i64 f.sure, .int .i64 f.time] 80 (0, 0))
  row : w.ownsRow 0 5 1 v f.bytes.length (bytesV f.bytes)
  rowOff : Off X v
  le : f.sure ≤ f.bytes.length
  len : f.bytes.length ≤ 65536

def Small (d : Ds) : Prop := d.quota ≤ 16777216 ∧ -9223372036854775808 ≤ d.left ∧ d.left ≤ 9223372036854775807

/-- THE DISK d LIES AT p, and touches none of the blocks X; at most K names, changes, deeds. -/
structure DkAt (X : Nat → Prop) (K : Nat) (w : World) (p : Nat) (q : Pl) (d : Ds) : Prop where
  inX : ∀ k, X k → k < w.heap.size
  offp : ¬ X p
  off1 : ¬ X q.m1
  off2 : ¬ X q.m2
  offc : Off X q.cv
  ne : q.m1 ≠ q.m2
  root : w.heap[p]? = some (.cells (rootC d q) 58 (0, 0))
  now : ∃ n, n ≤ K ∧ Dir w n q.m1 d.now
  sure : ∃ n, n + d.changes.length ≤ K ∧ Dir w n q.m2 d.sure
  chg : w.ownsRow 0 96 3 q.cv d.changes.length (chsV d.changes)
  short : ∀ c ∈ d.changes, c.src.length ≤ 1000000 ∧ c.dst.length ≤ 1000000
  file : ∀ i, Ref d i → FileAt X w i (q.bv i) (d.files i)
  apart : ∀ i j k, Ref d i → Ref d j → (q.bv i).ownBlock = some k → (q.bv j).ownBlock = some k → i = j
  clock : d.clock ≤ 1000 * K + 1
  deeds : d.deeds ≤ 1000 * K
  quota : Small d

def Dk (X : Nat → Prop) (K : Nat) (w : World) (p : Nat) (d : Ds) : Prop := ∃ q, DkAt X K w p q d

/-- NOTHING OF X HAS TURNED -/
structure Same (X : Nat → Prop) (w w' : World) : Prop where
  os : w'.os = w.os
  tape : w'.tape = w.tape
  output : w'.output = w.output
  size : w.heap.size ≤ w'.heap.size
  block : ∀ k, k < w.heap.size → X k → w'.heap[k]? = w.heap[k]?

theorem Same.refl (X : Nat → Prop) (w : World) : Same X w w := ⟨rfl, rfl, rfl, Nat.le_refl _, fun _ _ _ => rfl⟩
theorem Same.trans {X : Nat → Prop} {a b c : World} (h : Same X a b) (k : Same X b c) : Same X a c :=
  ⟨k.os.trans h.os, k.tape.trans h.tape, k.output.trans h.output, Nat.le_trans h.size k.size, fun i hi hX => (k.block i (Nat.lt_of_lt_of_le hi h.size) hX).trans (h.block i hi hX)⟩
theorem Same.mono {X Y : Nat → Prop} {a b : World} (h : Same X a b) (hY : ∀ k, k < a.heap.size → Y k → X k) : Same Y a b := ⟨h.os, h.tape, h.output, h.size, fun k hk hy => h.block k hk (hY k hk hy)⟩
theorem Same.of_below {X : Nat → Prop} {a b : World} (h : Below a.heap.size a b) : Same X a b := ⟨h.os, h.tape, h.output, h.size, fun k hk _ => h.block k hk⟩
theorem Same.of_grown {X : Nat → Prop} {a b : World} {row : Option Nat} (h : a.grownBy b row) (hr : ∀ k, row = some k → ¬ X k) : Same X a b :=
  ⟨h.os, h.tape, h.output, h.size, fun k hk hX => h.block k hk (fun e => hr k e.symm hX)⟩
theorem Same.below {X : Nat → Prop} {B : Nat} {a b : World} (h : Same X a b) (hB : B ≤ a.heap.size) (hX : ∀ k, k < B → X k) : Below B a b :=
  ⟨h.os, h.tape, h.output, h.size, fun k hk => h.block k (Nat.lt_of_lt_of_le hk hB) (hX k hk)⟩
theorem Same.cell {X : Nat → Prop} {a b : World} (h : Same X a b) {p : Addr} (hp : p.block < a.heap.size) (hX : X p.block) : b.cell? p = a.cell? p := World.cell?_of_block (w := a) (h.block p.block hp hX)
theorem grown_set (w : World) (a : Addr) (u : Value) : w.grownBy (w.setCell a u) (some a.block) :=
  ⟨rfl, rfl, rfl, by simp [World.setCell], fun k hk hne => Below.heap_setCell w a u k (fun e => hne (by rw [e]))⟩
theorem Same.set {X : Nat → Prop} {a b : World} (h : Same X a b) (p : Addr) (u : Value) (hX : ¬ X p.block) : Same X a (b.setCell p u) :=
  h.trans (Same.of_grown (grown_set b p u) (fun k e => by cases e; exact hX))
theorem Same.alloc {X : Nat → Prop} {a b : World} (h : Same X a b) (o : Obj) : Same X a (b.alloc o) :=
  h.trans (Same.of_below (below_alloc b o))
theorem Same.drew {X : Nat → Prop} {a b : World} (h : Same X a b) : Same X a b.drew := ⟨h.os, h.tape, h.output, h.size, h.block⟩

/-- more than X is left alone: what was made since -/
def Since (X : Nat → Prop) (w w' : World) : Nat → Prop := fun k => X k ∨ (w.heap.size ≤ k ∧ k < w'.heap.size)

theorem row_kept {w w' : World} {base : Nat} {e : TypeId} {size : Nat} {v : Value} {n : Nat} {xs : List Value} (h : w.ownsRow base e size v n xs) (hb : ∀ k, v.ownBlock = some k → w'.heap[k]? = w.heap[k]?) : w'.ownsRow base e size v n xs := by
  refine ⟨h.1, ?_⟩
  rcases h.2 with hn | ⟨g, cap, cur, rfl, hbs, hgg, rest⟩
  · exact .inl hn
  · exact .inr ⟨g, cap, cur, rfl, hbs, (hb g rfl).trans hgg, rest⟩

theorem row_elem {w : World} {base : Nat} {e : TypeId} {size : Nat} {v : Value} {n : Nat} {xs : List Value} (h : w.ownsRow base e size v n xs) {k : Nat} (hk : v.ownBlock = some k) : ∃ cur, w.heap[k]? = some (.cells cur e (0, 0)) := by
  rcases h.2 with ⟨rfl, _⟩ | ⟨g, cap, cur, rfl, _, hg, _⟩
  · cases hk
  · cases hk; exact ⟨cur, hg⟩

theorem lt_of_some {w : World} {k : Nat} {o : Obj} (h : w.heap[k]? = some o) : k < w.heap.size := (Array.getElem?_eq_some_iff.1 h).1

theorem row_lt {w : World} {base : Nat} {e : TypeId} {size : Nat} {v : Value} {n : Nat} {xs : List Value} (h : w.ownsRow base e size v n xs) {k : Nat} (hk : v.ownBlock = some k) : k < w.heap.size := by
  obtain ⟨cur, hc⟩ := row_elem h hk
  exact lt_of_some hc

theorem FileAt.kept {X Y : Nat → Prop} {w w' : World} {i : Nat} {v : Value} {f : Fl} (h : FileAt X w i v f) (hb : ∀ k, k < w.heap.size → ¬ X k → w'.heap[k]? = w.heap[k]?) (hY : ∀ k, k < w.heap.size → Y k → X k) : FileAt Y w' i v f :=
  ⟨fun hy => h.off (hY i (lt_of_some h.cells) hy), (hb i (lt_of_some h.cells) h.off).trans h.cells, row_kept h.row fun k hk => hb k (row_lt h.row hk) (h.rowOff k hk), fun k hk hy => h.rowOff k hk (hY k (row_lt h.row hk) hy), h.le, h.len⟩

/-- WHAT IS NOT OF THE DISK MAY BE WRITTEN, and what is made anew is not of it. -/
theorem DkAt.frame {X Y : Nat → Prop} {K : Nat} {w w' : World} {p : Nat} {q : Pl} {d : Ds} (h : DkAt X K w p q d) (_hs : w.heap.size ≤ w'.heap.size) (hb : ∀ k, k < w.heap.size → ¬ X k → w'.heap[k]? = w.heap[k]?)
    (hY : ∀ k, k < w.heap.size → Y k → X k) (hin : ∀ k, Y k → k < w'.heap.size) : DkAt Y K w' p q d := by
  have l0 := lt_of_some h.root
  obtain ⟨n1, e1, h1⟩ := h.now
  obtain ⟨n2, e2, h2⟩ := h.sure
  exact ⟨hin, fun y => h.offp (hY _ l0 y), fun y => h.off1 (hY _ h1.lt y), fun y => h.off2 (hY _ h2.lt y), fun k hk y => h.offc k hk (hY k (row_lt h.chg hk) y), h.ne, (hb p l0 h.offp).trans h.root,
    ⟨n1, e1, h1.kept (hb _ h1.lt h.off1)⟩, ⟨n2, e2, h2.kept (hb _ h2.lt h.off2)⟩, row_kept h.chg fun k hk => hb k (row_lt h.chg hk) (h.offc k hk), h.short, fun i hi => (h.file i hi).kept hb hY, h.apart, h.clock, h.deeds, h.quota⟩

theorem Dk.frame {X Y : Nat → Prop} {K : Nat} {w w' : World} {p : Nat} {d : Ds} (h : Dk X K w p d) (hs : w.heap.size ≤ w'.heap.size) (hb : ∀ k, k < w.heap.size → ¬ X k → w'.heap[k]? = w.heap[k]?)
    (hY : ∀ k, k < w.heap.size → Y k → X k) (hin : ∀ k, Y k → k < w'.heap.size) : Dk Y K w' p d := by
  obtain ⟨q, h⟩ := h
  exact ⟨q, h.frame hs hb hY hin⟩

theorem DkAt.mono {X : Nat → Prop} {K K' : Nat} {w : World} {p : Nat} {q : Pl} {d : Ds} (h : DkAt X K w p q d) (hK : K ≤ K') : DkAt X K' w p q d := by
  obtain ⟨n1, e1, h1⟩ := h.now
  obtain ⟨n2, e2, h2⟩ := h.sure
  exact { h with now := ⟨n1, by omega, h1⟩, sure := ⟨n2, by omega, h2⟩, clock := by have := h.clock; omega, deeds := by have := h.deeds; omega }
theorem Dk.mono {X : Nat → Prop} {K K' : Nat} {w : World} {p : Nat} {d : Ds} (h : Dk X K w p d) (hK : K ≤ K') : Dk X K' w p d := by
  obtain ⟨q, h⟩ := h; exact ⟨q, h.mono hK⟩

/-- behind a call that only makes memory -/
theorem Dk.below {X Y : Nat → Prop} {K : Nat} {w w' : World} {p : Nat} {d : Ds} (h : Dk X K w p d) (hb : Below w.heap.size w w') (hY : ∀ k, k < w.heap.size → Y k → X k) (hin : ∀ k, Y k → k < w'.heap.size) : Dk Y K w' p d :=
  h.frame hb.size (fun k hk _ => hb.block k hk) hY hin
theorem Dk.since {X : Nat → Prop} {K : Nat} {w w' : World} {p : Nat} {d : Ds} (h : Dk X K w p d) (hb : Below w.heap.size w w') : Dk (Since X w w') K w' p d := by
  have hin : ∀ k, X k → k < w.heap.size := by obtain ⟨q, h⟩ := h; exact h.inX
  refine h.below hb (fun k hk hy => ?_) (fun k hy => ?_)
  · rcases hy with hy | ⟨h1, _⟩
    · exact hy
    · omega
  · rcases hy with hy | ⟨_, h1⟩
    · exact Nat.lt_of_lt_of_le (hin k hy) hb.size
    · exact h1
theorem Dk.keep {X : Nat → Prop} {K : Nat} {w w' : World} {p : Nat} {d : Ds} (h : Dk X K w p d) (hb : Below w.heap.size w w') : Dk X K w' p d := by
  have hin : ∀ k, X k → k < w.heap.size := by obtain ⟨q, h⟩ := h; exact h.inX
  exact h.below hb (fun _ _ hy => hy) fun k hy => Nat.lt_of_lt_of_le (hin k hy) hb.size

/-! ### one block of the disk is written -/
theorem heap_set_same {w : World} {b : Nat} {c : Array Value} {e : TypeId} {fz : Nat × Nat} (h : w.heap[b]? = some (.cells c e fz)) (o : Nat) (u : Value) : (w.setCell ⟨b, o, none⟩ u).heap[b]? = some (.cells (c.setIfInBounds o u) e fz) := by
  obtain ⟨hlt, he⟩ := Array.getElem?_eq_some_iff.1 h
  simp only [World.setCell, Array.getElem?_modify, if_pos]
  rw [h]
  rfl

theorem kind_ne {w : World} {a b : Nat} {c c' : Array Value} {e e' : TypeId} {z z' : Nat × Nat} (h : w.heap[a]? = some (.cells c e z)) (h' : w.heap[b]? = some (.cells c' e' z')) (hne : e ≠ e') : a ≠ b := by
  rintro rfl
  rw [h] at h'
  cases h'
  exact hne rfl
theorem map_ne {w : World} {a b : Nat} {c : Array Value} {e : TypeId} {z : Nat × Nat} {es : Array MapEntry} {k : Nat} (h : w.heap[a]? = some (.cells c e z)) (h' : w.heap[b]? = some (.map es k)) : a ≠ b := by
  rintro rfl
  rw [h] at h'
  cases h'

/-- the head alone is another one -/
theorem DkAt.head {X : Nat → Prop} {K K' : Nat} {w w' : World} {p : Nat} {q : Pl} {d d' : Ds} (h : DkAt X K w p q d) (hs : w.heap.size ≤ w'.heap.size) (hb : ∀ k, k < w.heap.size → k ≠ p → ¬ X k → w'.heap[k]? = w.heap[k]?)
    (hr : w'.heap[p]? = some (.cells (rootC d' q) 58 (0, 0))) (hK : K ≤ K') (e1 : d'.now = d.now) (e2 : d'.sure = d.sure) (e3 : d'.changes = d.changes) (e4 : d'.files = d.files)
    (hc : d'.clock ≤ 1000 * K' + 1) (hd : d'.deeds ≤ 1000 * K') (hq : Small d') : DkAt X K' w' p q d' := by
  obtain ⟨n1, l1, h1⟩ := h.now
  obtain ⟨n2, l2, h2⟩ := h.sure
  obtain ⟨es1, c1, b1⟩ := h1.map
  obtain ⟨es2, c2, b2⟩ := h2.map
  have hR : ∀ i, Ref d' i → Ref d i := fun i hi => by unfold Ref at hi ⊢; rw [e1, e2, e3] at hi; exact hi
  refine ⟨fun k hk => Nat.lt_of_lt_of_le (h.inX k hk) hs, h.offp, h.off1, h.off2, h.offc, h.ne, hr, ⟨n1, by omega, ?_⟩, ⟨n2, by rw [e3]; omega, ?_⟩, ?_, by rw [e3]; exact h.short, fun i hi => ?_, fun i j k hi hj => h.apart i j k (hR i hi) (hR j hj), hc, hd, hq⟩
  · rw [e1]; exact h1.kept (hb _ h1.lt (map_ne h.root b1).symm h.off1)
  · rw [e2]; exact h2.kept (hb _ h2.lt (map_ne h.root b2).symm h.off2)
  · rw [e3]
    refine row_kept h.chg fun k hk => ?_
    obtain ⟨cur, hcur⟩ := row_elem h.chg hk
    exact hb k (lt_of_some hcur) (kind_ne hcur h.root (by decide)) (h.offc k hk)
  · have f := h.file i (hR i hi)
    rw [e4]
    refine ⟨f.off, (hb i (lt_of_some f.cells) (kind_ne f.cells h.root (by decide)) f.off).trans f.cells, row_kept f.row fun k hk => ?_, f.rowOff, f.le, f.len⟩
    obtain ⟨cur, hcur⟩ := row_elem f.row hk
    exact hb k (lt_of_some hcur) (kind_ne hcur h.root (by decide)) (f.rowOff k hk)

/-- one file alone is another one: its cells, and its bytes at v -/
theorem DkAt.setFile {X : Nat → Prop} {K : Nat} {w w' : World} {p : Nat} {q : Pl} {d : Ds} {i : Nat} {v : Value} {f : Fl} (h : DkAt X K w p q d) (hi : Ref d i) (hs : w.heap.size ≤ w'.heap.size)
    (hb : ∀ k, k < w.heap.size → k ≠ i → (q.bv i).ownBlock ≠ some k → ¬ X k → w'.heap[k]? = w.heap[k]?)
    (hf : FileAt X w' i v f) (hv : ∀ k, v.ownBlock = some k → (q.bv i).ownBlock = some k ∨ w.heap.size ≤ k) : DkAt X K w' p { q with bv := upd q.bv i v } (setF d i f) := by
  obtain ⟨n1, l1, h1⟩ := h.now
  obtain ⟨n2, l2, h2⟩ := h.sure
  obtain ⟨es1, c1, b1⟩ := h1.map
  obtain ⟨es2, c2, b2⟩ := h2.map
  have fi := h.file i hi
  have nrow : ∀ k c e z, w.heap[k]? = some (.cells c e z) → e ≠ 5 → (q.bv i).ownBlock ≠ some k := by
    intro k c e z hk he how
    obtain ⟨cur, hcur⟩ := row_elem fi.row how
    exact kind_ne hk hcur he rfl
  have nmap : ∀ k es c, w.heap[k]? = some (.map es c) → (q.bv i).ownBlock ≠ some k := by
    intro k es c hk how
    obtain ⟨cur, hcur⟩ := row_elem fi.row how
    exact map_ne hcur hk rfl
  refine ⟨fun k hk => Nat.lt_of_lt_of_le (h.inX k hk) hs, h.offp, h.off1, h.off2, h.offc, h.ne, ?_, ⟨n1, l1, ?_⟩, ⟨n2, l2, ?_⟩, ?_, h.short, fun j hj => ?_, ?_, h.clock, h.deeds, h.quota⟩
  · exact (hb p (lt_of_some h.root) (kind_ne h.root fi.cells (by decide)) (nrow _ _ _ _ h.root (by decide)) h.offp).trans h.root
  · exact h1.kept (hb _ h1.lt (map_ne fi.cells b1).symm (nmap _ _ _ b1) h.off1)
  · exact h2.kept (hb _ h2.lt (map_ne fi.cells b2).symm (nmap _ _ _ b2) h.off2)
  · refine row_kept h.chg fun k hk => ?_
    obtain ⟨cur, hcur⟩ := row_elem h.chg hk
    exact hb k (lt_of_some hcur) (kind_ne hcur fi.cells (by decide)) (nrow _ _ _ _ hcur (by decide)) (h.offc k hk)
  · by_cases hji : j = i
    · subst hji
      show FileAt X w' j (upd q.bv j v j) (upd d.files j f j)
      rw [upd_same, upd_same]
      exact hf
    · show FileAt X w' j (upd q.bv i v j) (upd d.files i f j)
      rw [upd_other _ _ hji, upd_other _ _ hji]
      have fj := h.file j hj
      refine ⟨fj.off, (hb j (lt_of_some fj.cells) hji (nrow _ _ _ _ fj.cells (by decide)) fj.off).trans fj.cells, row_kept fj.row fun k hk => ?_, fj.rowOff, fj.le, fj.len⟩
      obtain ⟨cur, hcur⟩ := row_elem fj.row hk
      exact hb k (lt_of_some hcur) (kind_ne hcur fi.cells (by decide)) (fun e => hji (h.apart j i k hj hi hk e)) (fj.rowOff k hk)
  · intro a b k ha hb' ka kb
    have key : ∀ x, Ref d x → x ≠ i → (q.bv x).ownBlock = some k → v.ownBlock = some k → False := by
      intro x hx hxi h1 h2
      rcases hv k h2 with h3 | h3
      · exact hxi (h.apart x i k hx hi h1 h3)
      · have := row_lt (h.file x hx).row h1; omega
    have ka' : (upd q.bv i v a).ownBlock = some k := ka
    have kb' : (upd q.bv i v b).ownBlock = some k := kb
    by_cases hai : a = i
    · by_cases hbi : b = i
      · rw [hai, hbi]
      · rw [hai, upd_same] at ka'
        rw [upd_other _ _ hbi] at kb'
        exact (key b hb' hbi kb' ka').elim
    · by_cases hbi : b = i
      · rw [hbi, upd_same] at kb'
        rw [upd_other _ _ hai] at ka'
        exact (key a ha hai ka' kb').elim
      · rw [upd_other _ _ hai] at ka'
        rw [upd_other _ _ hbi] at kb'
        exact h.apart a b k ha hb' ka' kb'

/-- the head's cells -/
theorem DkAt.cells {X : Nat → Prop} {K : Nat} {w : World} {p : Nat} {q : Pl} {d : Ds} (h : DkAt X K w p q d) :
    w.cell? ⟨p, 0, none⟩ = some (.int .i64 d.quota) ∧ w.cell? ⟨p, 1, none⟩ = some (.int .i64 d.clock) ∧ w.cell? ⟨p, 2, none⟩ = some (.int .i64 d.deeds) ∧ w.cell? ⟨p, 3, none⟩ = some (.bool d.up) ∧ w.cell? ⟨p, 4, none⟩ = some (.int .i64 d.left) ∧
    w.cell? ⟨p, 5, none⟩ = some (.map (some q.m1)) ∧ w.cell? ⟨p, 6, none⟩ = some (.map (some q.m2)) ∧ w.cell? ⟨p, 7, none⟩ = some q.cv := by
  have hr := h.root
  refine ⟨?_, ?_, ?_, ?_, ?_, ?_, ?_, ?_⟩ <;> · simp only [World.cell?, hr]; rfl
theorem frozen_of {w : World} {b : Nat} {c : Array Value} {e : TypeId} (h : w.heap[b]? = some (.cells c e (0, 0))) (o : Nat) : w.frozen? ⟨b, o, none⟩ = false := by
  simp only [World.frozen?, h]
  simp
theorem FileAt.cell {X : Nat → Prop} {w : World} {i : Nat} {v : Value} {f : Fl} (h : FileAt X w i v f) :
    w.cell? ⟨i, 0, none⟩ = some v ∧ w.cell? ⟨i, 1, none⟩ = some (.int .i64 f.sure) ∧ w.cell? ⟨i, 2, none⟩ = some (.int .i64 f.time) := by
  have hr := h.cells
  refine ⟨?_, ?_, ?_⟩ <;> · simp only [World.cell?, hr]; rfl
theorem lt_alloc {w : World} {k : Nat} (o : Obj) (h : k < w.heap.size) : k < (w.alloc o).heap.size := by simp; omega
theorem grown_undrew {w w' : World} {r : Option Nat} (h : w.drew.grownBy w' r) : w.grownBy w' r := ⟨h.os, h.tape, h.output, h.size, h.block⟩
theorem set_same {w : World} {a : Addr} {v u : Value} (h : w.cell? a = some u) : (w.setCell a v).cell? a = some v := by simp [go_sem, h]
theorem set_off {w : World} {b o o' : Nat} {v u : Value} (hne : o ≠ o') (h : w.cell? ⟨b, o', none⟩ = some u) : (w.setCell ⟨b, o, none⟩ v).cell? ⟨b, o', none⟩ = some u := by
  exact (World.cell?_setCell_other w _ _ v (by intro e; exact hne (Addr.mk.inj e).2.1)).trans h
theorem set_blk {w : World} {a b : Addr} {v u : Value} (hne : a.block ≠ b.block) (h : w.cell? b = some u) : (w.setCell a v).cell? b = some u := by
  exact (World.cell?_setCell_other w a b v (by intro e; exact hne (by rw [e]))).trans h
theorem alloc_cell {w : World} {a : Addr} {u : Value} (o : Obj) (h : w.cell? a = some u) : (w.alloc o).cell? a = some u := by
  rw [World.cell?_of_block (w := w) (a := a) (Below.heap_alloc w o a.block (World.block_lt_of_cell? w a h))]; exact h
theorem alloc_frozen {w : World} {a : Addr} (o : Obj) (h : a.block < w.heap.size) : (w.alloc o).frozen? a = w.frozen? a := World.frozen?_of_block (w := w) (Below.heap_alloc w o a.block h)
end Go.Proofs.YtfmelhcpccghdaaGreat
