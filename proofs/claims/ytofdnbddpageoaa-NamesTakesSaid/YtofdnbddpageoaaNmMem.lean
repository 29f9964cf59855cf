/-
  A MAP OF YtofdnbddpageoaaS TO NUMBERS: nil, or one of its own.
-/
import Derived.Test.YtofdnbddpageoaaNmMath
import Derived.StringKeys
import Derived.Maps.OwnSet
import Derived.Maps.RangeWalk
import Derived.Lib.Hide
import Derived.Lib.Strings
import Derived.Maps.AppendAt
import Derived.Deep.RegionHeld3
namespace Go.Proofs.Ytofdnbddpageoaa.Nm
open Go.RowKit Go.Maps

abbrev DW := DataW Unit
abbrev Bs := List UInt8
def bsOf (s : ByteArray) : Bs := s.data.toList
def mkS (l : Bs) : ByteArray := ⟨l.toArray⟩
theorem mkS_of (s : ByteArray) : mkS (bsOf s) = s := Lib.mk_data s
theorem of_mkS (l : Bs) : bsOf (mkS l) = l := rfl
theorem mkS_size (l : Bs) : (mkS l).size = l.length := by rw [Lib.size_eq]; rfl
theorem bsOf_len (s : ByteArray) : (bsOf s).length = s.size := by rw [← mkS_size, mkS_of]
theorem bsOf_inj {a b : ByteArray} (h : bsOf a = bsOf b) : a = b := by rw [← mkS_of a, h, mkS_of]

theorem lt_some {w : World} {k : Nat} {o : Obj} (h : w.heap[k]? = some o) : k < w.heap.size := by
  rcases Nat.lt_or_ge k w.heap.size with h' | h'
  · exact h'
  · rw [Array.getElem?_eq_none h'] at h; cases h

def upd {A B : Type} [DecidableEq A] (f : A → B) (a : A) (b : B) : A → B := fun x => if x = a then b else f x

def intE : Value → Option (DW × List MemPlace)
  | .int .i64 z => some (.lit (.int .i64 z), [])
  | _ => Option.none
theorem intE_inv {v : Value} {z : DW × List MemPlace} (h : intE v = some z) : ∃ i, v = .int .i64 i ∧ z = (.lit (.int .i64 i), []) := by
  unfold intE at h
  split at h
  · cases h; exact ⟨_, rfl, rfl⟩
  · cases h
def elD : Option Nat → DW
  | Option.none => .lit (.int .i64 0)
  | some i => .lit (.int .i64 i)

theorem law9 : Keyed Try.prog 9 := string_keyed Try.underlying9
theorem zero3 (w : World) : (zeroValue 3).run Try.prog w = .ok (.int .i64 0) w := by kernel_rfl
theorem keyS {s : ByteArray} (h : s.size ≤ maxLen) : keyOf Try.prog 9 (.string s) = some (.string (bsOf s)) := by
  have := WideMaps.keyOf_string_mk (P := Try.prog) Try.underlying9 (s := mkS (bsOf s)) (by rw [mkS_of]; exact h)
  rw [mkS_of] at this
  exact this

/-- block m is a map of at most n texts to numbers -/
def Mi (w : World) (n m : Nat) (f : Bs → Option Nat) : Prop :=
  ∃ D : DW, w.ownsMap Try.prog 9 intE m n D ∧ (∀ l, Maps.has D (.string l) = (f l).isSome) ∧ ∀ l, D.atKey (.string l) (.lit (.int .i64 0)) = elD (f l)

section
variable {w w' : World} {n n' m : Nat} {f : Bs → Option Nat}
theorem Mi.lt (h : Mi w n m f) : m < w.heap.size := by obtain ⟨D, h, _⟩ := h; exact h.lt
theorem Mi.map (h : Mi w n m f) : ∃ es c, w.heap[m]? = some (.map es c) := by obtain ⟨D, ⟨es, c, h, _⟩, _⟩ := h; exact ⟨es, c, h⟩
theorem Mi.kept (h : Mi w n m f) (hb : w'.heap[m]? = w.heap[m]?) : Mi w' n m f := by
  obtain ⟨D, ⟨es, c, hm, r1, r2, r3⟩, r⟩ := h
  exact ⟨D, ⟨es, c, hb.trans hm, r1, r2, r3⟩, r⟩
theorem Mi.made (w : World) : Mi (w.alloc (.map #[] 0)) 0 w.heap.size (fun _ => Option.none) :=
  ⟨.map [], World.ownsMap_made _ _ _ _, fun _ => rfl, fun _ => rfl⟩

/-- the two results of a look-up -/
def lookV (o : Option Nat) : Value := .tuple #[.int .i64 ((o.getD 0 : Nat) : Int), .bool o.isSome]

theorem Mi.look (h : Mi w n m f) {s : ByteArray} (hl : s.size ≤ maxLen) :
    (Instr.lookup 66 (.map (some m)) (.string s) true).run Try.prog w = .ok (lookV (f (bsOf s))) w := by
  obtain ⟨D, hD, hhas, hat⟩ := h
  obtain ⟨v, ps, hrun, hv⟩ := hD.look_ok law9 Try.underlying66 (zero3 w) (zd := .lit (.int .i64 0)) (zp := []) rfl (keyS hl)
  obtain ⟨o, rfl, ho⟩ := intE_inv hv
  rw [hat] at ho
  have ho := congrArg Prod.fst ho
  have : o = (((f (bsOf s)).getD 0 : Nat) : Int) := by
    cases e : f (bsOf s) with
    | none => rw [e] at ho; simp [elD] at ho; simp [← ho]
    | some i => rw [e] at ho; simp [elD] at ho; simp [← ho]
  rw [hhas, this] at hrun
  exact hrun

theorem Mi.put (h : Mi w n m f) (hn : n < maxLen) {s : ByteArray} (hl : s.size ≤ maxLen) (i : Nat) :
    ∃ w', (Instr.mapUpdate 66 (.map (some m)) (.string s) (.int .i64 (i : Int))).run Try.prog w = .ok () w' ∧ Mi w' (n + 1) m (upd f (bsOf s) (some i)) ∧ w.grownBy w' (some m) ∧ w'.heap.size = w.heap.size := by
  obtain ⟨D, hD, hhas, hat⟩ := h
  obtain ⟨w', hrun, ho, ht⟩ := hD.store law9 Try.underlying66 hn (val := .int .i64 (i : Int)) (d := .lit (.int .i64 i)) (ps := []) (keyS hl) rfl
  have hk : WideAt.IsKeyLit (.string (bsOf s)) := law9.key (keyS hl)
  refine ⟨w', hrun, ⟨_, ho, fun x => ?_, fun x => ?_⟩, ht.grown, ?_⟩
  · by_cases hx : x = bsOf s
    · subst hx; rw [has_put_same hD.isMap hk, upd, if_pos rfl]; rfl
    · rw [has_put_other (by intro e; cases e; exact hx rfl), upd, if_neg hx, hhas]
  · by_cases hx : x = bsOf s
    · subst hx; rw [atKey_put_same hD.isMap hk, upd, if_pos rfl]; rfl
    · rw [atKey_put_other (by intro e; cases e; exact hx rfl), upd, if_neg hx, hat]
  · obtain ⟨es, c, es', c', _, rfl⟩ := ht
    simp [Go.ChangeMaps.setBlock]

theorem Mi.len (h : Mi w n m f) : ∃ k : Nat, k ≤ n ∧ ∀ ty, (Builtin.len_ #[66] ty #[.map (some m)]).run Try.prog w = .ok (.int .i64 k) w := by
  obtain ⟨D, hD, _⟩ := h
  exact ⟨_, hD.size_le, fun ty => hD.len Try.underlying66 ty⟩

def MapAt (w : World) (n : Nat) (mv : Value) (f : Bs → Option Nat) : Prop :=
  (mv = .map Option.none ∧ f = fun _ => Option.none) ∨ ∃ m, mv = .map (some m) ∧ Mi w n m f

theorem MapAt.look {mv : Value} (h : MapAt w n mv f) {s : ByteArray} (hl : s.size ≤ maxLen) :
    (Instr.lookup 66 mv (.string s) true).run Try.prog w = .ok (lookV (f (bsOf s))) w := by
  rcases h with ⟨rfl, rfl⟩ | ⟨m, rfl, h⟩
  · exact Maps.look_nil true law9 Try.underlying66 (zero3 w) (keyS hl)
  · exact h.look hl

def mapBlk : Value → Option Nat
  | .map o => o
  | _ => Option.none

theorem MapAt.kept {mv : Value} (h : MapAt w n mv f) (hb : ∀ m, mapBlk mv = some m → w'.heap[m]? = w.heap[m]?) : MapAt w' n mv f := by
  rcases h with ⟨rfl, rfl⟩ | ⟨m, rfl, h⟩
  · exact .inl ⟨rfl, rfl⟩
  · exact .inr ⟨m, rfl, h.kept (hb m rfl)⟩

theorem MapAt.blk {mv : Value} (h : MapAt w n mv f) {m : Nat} (hm : mapBlk mv = some m) : ∃ es c, w.heap[m]? = some (.map es c) := by
  rcases h with ⟨rfl, rfl⟩ | ⟨m', rfl, h⟩
  · cases hm
  · cases hm; exact h.map

/-- the numbers of names, as a map has them -/
def ofN (N : List ByteArray) : Bs → Option Nat := fun l => ixOf N (mkS l)
theorem ofN_at (N : List ByteArray) (s : ByteArray) : ofN N (bsOf s) = ixOf N s := by unfold ofN; rw [mkS_of]
theorem ofN_nil : ofN [] = fun _ => Option.none := rfl
theorem ofN_put {N : List ByteArray} {s : ByteArray} (h : ixOf N s = Option.none) : upd (ofN N) (bsOf s) (some N.length) = ofN (N ++ [s]) := by
  funext x
  unfold upd ofN
  rw [ixOf_snoc]
  by_cases hx : x = bsOf s
  · subst hx
    rw [if_pos rfl, mkS_of, h, if_pos rfl]
    rfl
  · have hne : ¬ s = mkS x := fun e => hx (by rw [e, of_mkS])
    rw [if_neg hx, if_neg hne]
    cases ixOf N (mkS x) <;> rfl
end
end Go.Proofs.Ytofdnbddpageoaa.Nm

/-! ROWS OF ONE's OWN: what every text of names stands on. -/
namespace Go.Proofs.Ytofdnbddpageoaa.Nm
open Go.RowKit Go.Maps

theorem one_cell {w : World} {p : Nat} {u : Value} {t : TypeId} (h : w.heap[p]? = some (.cells #[u] t (0, 0))) : w.cell? ⟨p, 0, Option.none⟩ = some u ∧ w.frozen? ⟨p, 0, Option.none⟩ = false := by
  simp [World.cell?, World.frozen?, h]

theorem owns_kept {w w' : World} {base e k : Nat} {v : Value} {n : Nat} {xs : List Value} (h : w.ownsRow base e k v n xs) (hb : ∀ g, v.ownBlock = some g → w'.heap[g]? = w.heap[g]?) : w'.ownsRow base e k v n xs := by
  refine ⟨h.1, ?_⟩
  rcases h.2 with h | ⟨g, cap, cur, h1, h2, h3, h4⟩
  · exact .inl h
  · exact .inr ⟨g, cap, cur, h1, h2, (hb g (by rw [h1]; rfl)).trans h3, h4⟩

theorem owns_block {w : World} {base e k : Nat} {v : Value} {n g : Nat} {xs : List Value} (h : w.ownsRow base e k v n xs) (hg : v.ownBlock = some g) : base ≤ g ∧ ∃ cur, w.heap[g]? = some (.cells cur e (0, 0)) := by
  rcases h.2 with ⟨rfl, _⟩ | ⟨g', cap, cur, rfl, h2, h3, h4⟩
  · cases hg
  · cases hg
    exact ⟨h2, cur, h3⟩

theorem owns_below {w w' : World} {base e k : Nat} {v : Value} {n : Nat} {xs : List Value} (h : w.ownsRow base e k v n xs) (hb : Below w.heap.size w w') : w'.ownsRow base e k v n xs :=
  owns_kept h fun g hg => by
    obtain ⟨_, cur, hc⟩ := owns_block h hg
    exact hb.block g (lt_some hc)

theorem ne_type {w : World} {p q : Nat} {C C' : Array Value} {t t' : TypeId} (h : w.heap[p]? = some (.cells C t (0, 0))) (h' : w.heap[q]? = some (.cells C' t' (0, 0))) (hne : t ≠ t') : p ≠ q := by
  rintro rfl
  rw [h] at h'
  simp at h'
  exact hne h'.2

theorem own_at {W : World} {base e k n : Nat} {v : Value} {xs : List Value} (h : W.ownsRow base e k v n xs) : (v = .slice Option.none 0 0 ∧ n = 0) ∨ ∃ g cap, v = .slice (some ⟨g, 0, Option.none⟩) n cap ∧ base ≤ g ∧ g < W.heap.size ∧ n ≤ cap ∧ ∀ j u, xs[j]? = some u → W.cell? ⟨g, j, Option.none⟩ = some u := by
  rcases h.2 with ⟨rfl, h0⟩ | ⟨gg, cap, cur, rfl, hb, hg, hle, _, hsz, htake⟩
  · exact .inl ⟨rfl, h0⟩
  · refine .inr ⟨gg, cap, rfl, hb, lt_some hg, hle, fun j u hj => ?_⟩
    have hcur : cur[j]? = some u := by
      rw [← htake, List.getElem?_take] at hj
      split at hj
      · simpa using hj
      · cases hj
    simp [World.cell?, hg, hcur]

theorem own_slice {W : World} {base e k n : Nat} {v : Value} {xs : List Value} (h : W.ownsRow base e k v n xs) : ∃ a c, v = .slice a n c := by
  rcases h.2 with ⟨rfl, rfl⟩ | ⟨g, cap, cur, rfl, _⟩
  · exact ⟨_, _, rfl⟩
  · exact ⟨_, _, rfl⟩

theorem owns_base {W : World} {b b' : Nat} {e k : Nat} {v : Value} {n : Nat} {xs : List Value} (h : W.ownsRow b e k v n xs) (hb : b' ≤ b) : W.ownsRow b' e k v n xs :=
  ⟨h.1, h.2.imp id fun ⟨g, cap, cur, e, hbg, rest⟩ => ⟨g, cap, cur, e, Nat.le_trans hb hbg, rest⟩⟩

theorem ret_bool {a b : Bool} (h : a = b) : Ending.returned (.bool a) = .returned (.bool b) := by rw [h]

theorem cell_of_block {w w' : World} {k j : Nat} (h : w'.heap[k]? = w.heap[k]?) : w'.cell? ⟨k, j, Option.none⟩ = w.cell? ⟨k, j, Option.none⟩ := by
  unfold World.cell?
  rw [h]

theorem below_drew {B : Nat} {w W : World} (h : Below B w W) : Below B w W.drew := ⟨h.os, h.tape, h.output, h.size, h.block⟩

theorem below_of_drew {w W : World} (h : Below w.drew.heap.size w.drew W) : Below w.heap.size w W := ⟨h.os, h.tape, h.output, h.size, h.block⟩

theorem below_drawn {w W : World} {B : Nat} (h : Below B w W) (n : Nat) : Below B w (W.drewN n) := ⟨h.os, h.tape, h.output, h.size, h.block⟩

/-- nothing but blocks of S, and fresh ones, has turned -/
structure Mod (S : Nat → Prop) (w w' : World) : Prop where
  os : w'.os = w.os
  tape : w'.tape = w.tape
  output : w'.output = w.output
  size : w.heap.size ≤ w'.heap.size
  block : ∀ k, k < w.heap.size → ¬ S k → w'.heap[k]? = w.heap[k]?

/-- S, and what is fresh -/
def more (S : Nat → Prop) (w w' : World) : Nat → Prop := fun k => S k ∨ (w.heap.size ≤ k ∧ k < w'.heap.size)

theorem Mod.refl (S : Nat → Prop) (w : World) : Mod S w w := ⟨rfl, rfl, rfl, Nat.le_refl _, fun _ _ _ => rfl⟩
theorem Mod.trans {S : Nat → Prop} {a b c : World} (h : Mod S a b) (k : Mod (more S a b) b c) : Mod S a c :=
  ⟨k.os.trans h.os, k.tape.trans h.tape, k.output.trans h.output, Nat.le_trans h.size k.size, fun j hj hs => (k.block j (Nat.lt_of_lt_of_le hj h.size) (by rintro (h1 | h1); exact hs h1; omega)).trans (h.block j hj hs)⟩
theorem Mod.trans2 {S : Nat → Prop} {a b c : World} (h : Mod S a b) (k : Mod S b c) : Mod S a c :=
  ⟨k.os.trans h.os, k.tape.trans h.tape, k.output.trans h.output, Nat.le_trans h.size k.size, fun j hj hs => (k.block j (Nat.lt_of_lt_of_le hj h.size) hs).trans (h.block j hj hs)⟩
theorem Mod.below {S : Nat → Prop} {w w' : World} {b : Nat} (h : Mod S w w') (hS : ∀ k, S k → b ≤ k) (hb : b ≤ w.heap.size) : Below b w w' :=
  ⟨h.os, h.tape, h.output, h.size, fun k hk => h.block k (by omega) fun hs => by have := hS k hs; omega⟩
theorem Mod.ofBelow {S : Nat → Prop} {w w' : World} (h : Below w.heap.size w w') : Mod S w w' := ⟨h.os, h.tape, h.output, h.size, fun k hk _ => h.block k hk⟩
theorem Mod.grown {S : Nat → Prop} {w w' : World} {o : Option Nat} (h : w.grownBy w' o) (ho : ∀ k, o = some k → S k) : Mod S w w' := ⟨h.os, h.tape, h.output, h.size, fun k hk hs => h.block k hk fun e => hs (ho k e.symm)⟩
theorem Mod.drewN {S : Nat → Prop} {w w' : World} (h : Mod S w w') (n : Nat) : Mod S w (w'.drewN n) := ⟨h.os, h.tape, h.output, h.size, h.block⟩
theorem Mod.set {S : Nat → Prop} (w : World) {p : Nat} (hp : S p) (j : Nat) (v : Value) : Mod S w (w.setCell ⟨p, j, Option.none⟩ v) :=
  ⟨rfl, rfl, rfl, by simp [World.setCell], fun k _ hs => Below.heap_setCell _ _ _ _ (by rintro rfl; exact hs hp)⟩
end Go.Proofs.Ytofdnbddpageoaa.Nm

/-! A BOOK IN MEMORY. -/
namespace Go.Proofs.Ytofdnbddpageoaa.Nm
open Go.RowKit Go.Maps

def ptrO (o : Option Nat) : Value := .pointer (o.map fun i => ⟨i, 0, Option.none⟩)
def strV (l : List ByteArray) : List Value := l.map .string
def intV (l : List Nat) : List Value := l.map fun (n : Nat) => .int .i64 (n : Int)

/-- what was found of one name -/
structure Fo (S : Nat → Prop) (w : World) (q : Nat) (fd : Fd) : Prop where
  inS : S q
  ex : ∃ v, w.heap[q]? = some (.cells #[.int .i64 (fd.time : Int), v] 106 (0, 0)) ∧ w.ownsRow 0 3 1 v fd.nums.length (intV fd.nums) ∧ ∀ k, v.ownBlock = some k → S k

/-- a book at block p; all its blocks are of S -/
structure Bk (S : Nat → Prop) (w : World) (p : Nat) (B : Bo) (v1 v2 v3 : Value) (Q : List (Option Nat)) : Prop where
  box : w.heap[p]? = some (.cells #[v1, v2, v3] 69 (0, 0))
  inS : S p
  names : w.ownsRow 0 9 1 v1 B.N.length (strV B.N)
  namesS : ∀ k, v1.ownBlock = some k → S k
  map : MapAt w B.N.length v2 (ofN B.N)
  mapS : ∀ m, mapBlk v2 = some m → S m
  found : w.ownsRow 0 85 1 v3 B.F.length (Q.map ptrO)
  foundS : ∀ k, v3.ownBlock = some k → S k
  len : B.F.length = B.N.length
  qlen : Q.length = B.F.length
  no : ∀ i : Nat, B.F[i]? = some Option.none → Q[i]? = some Option.none
  yes : ∀ (i : Nat) fd, B.F[i]? = some (some fd) → ∃ q, Q[i]? = some (some q) ∧ Fo S w q fd
  nums : ∀ (i : Nat) fd, B.F[i]? = some (some fd) → (∀ n ∈ fd.nums, n < B.N.length) ∧ fd.time < 4611686018427387904 ∧ fd.nums.length ≤ 1000000
  few : B.N.length ≤ 1000000
  short : ∀ s ∈ B.N, s.size ≤ 1000000

theorem map_blk {w : World} {n : Nat} {mv : Value} {f : Bs → Option Nat} (h : MapAt w n mv f) {m : Nat} (hm : mapBlk mv = some m) : m < w.heap.size := by
  obtain ⟨es, c, hc⟩ := h.blk hm
  exact lt_some hc

theorem Fo.keep {S : Nat → Prop} {w w' : World} {q : Nat} {fd : Fd} (h : Fo S w q fd) (hb : ∀ k, S k → k < w.heap.size → w'.heap[k]? = w.heap[k]?) : Fo S w' q fd := by
  obtain ⟨v, h1, h2, h3⟩ := h.ex
  exact ⟨h.inS, v, (hb _ h.inS (lt_some h1)).trans h1, owns_kept h2 fun g hg => hb g (h3 g hg) (h2.lt g hg).2, h3⟩

theorem Fo.wide {S S' : Nat → Prop} {w : World} {q : Nat} {fd : Fd} (h : Fo S w q fd) (hs : ∀ k, S k → S' k) : Fo S' w q fd := by
  obtain ⟨v, h1, h2, h3⟩ := h.ex
  exact ⟨hs _ h.inS, v, h1, h2, fun k hk => hs _ (h3 k hk)⟩

section
variable {S S' : Nat → Prop} {w w' : World} {p : Nat} {B : Bo} {v1 v2 v3 : Value} {Q : List (Option Nat)}

theorem Bk.keep (h : Bk S w p B v1 v2 v3 Q) (hb : ∀ k, S k → k < w.heap.size → w'.heap[k]? = w.heap[k]?) : Bk S w' p B v1 v2 v3 Q where
  box := (hb _ h.inS (lt_some h.box)).trans h.box
  inS := h.inS
  names := owns_kept h.names fun g hg => hb g (h.namesS g hg) (h.names.lt g hg).2
  namesS := h.namesS
  map := h.map.kept fun m hm => hb m (h.mapS m hm) (map_blk h.map hm)
  mapS := h.mapS
  found := owns_kept h.found fun g hg => hb g (h.foundS g hg) (h.found.lt g hg).2
  foundS := h.foundS
  len := h.len
  qlen := h.qlen
  no := h.no
  yes := fun i fd hi => by obtain ⟨q, h1, h2⟩ := h.yes i fd hi; exact ⟨q, h1, h2.keep hb⟩
  nums := h.nums
  few := h.few
  short := h.short

theorem Bk.below (h : Bk S w p B v1 v2 v3 Q) (hb : Below w.heap.size w w') : Bk S w' p B v1 v2 v3 Q := h.keep fun k _ hk => hb.block k hk
theorem Bk.wide (h : Bk S w p B v1 v2 v3 Q) (hs : ∀ k, S k → S' k) : Bk S' w p B v1 v2 v3 Q where
  box := h.box
  inS := hs _ h.inS
  names := h.names
  namesS := fun k hk => hs _ (h.namesS k hk)
  map := h.map
  mapS := fun k hk => hs _ (h.mapS k hk)
  found := h.found
  foundS := fun k hk => hs _ (h.foundS k hk)
  len := h.len
  qlen := h.qlen
  no := h.no
  yes := fun i fd hi => by obtain ⟨q, h1, h2⟩ := h.yes i fd hi; exact ⟨q, h1, h2.wide hs⟩
  nums := h.nums
  few := h.few
  short := h.short

theorem Bk.cells (h : Bk S w p B v1 v2 v3 Q) : w.cell? ⟨p, 0, Option.none⟩ = some v1 ∧ w.cell? ⟨p, 1, Option.none⟩ = some v2 ∧ w.cell? ⟨p, 2, Option.none⟩ = some v3 ∧ w.frozen? ⟨p, 0, Option.none⟩ = false ∧ w.frozen? ⟨p, 1, Option.none⟩ = false ∧ w.frozen? ⟨p, 2, Option.none⟩ = false := by
  simp [World.cell?, World.frozen?, h.box]
end

/-- an empty book -/
theorem bk_new (w : World) : Bk (fun k => k = w.heap.size) (w.alloc (.cells #[.slice Option.none 0 0, .map Option.none, .slice Option.none 0 0] 69)) w.heap.size ⟨[], []⟩ (.slice Option.none 0 0) (.map Option.none) (.slice Option.none 0 0) [] where
  box := heap_alloc_new _ _
  inS := rfl
  names := World.ownsRow_nil _ _ _ _
  namesS := fun k hk => by cases hk
  map := .inl ⟨rfl, rfl⟩
  mapS := fun k hk => by cases hk
  found := World.ownsRow_nil _ _ _ _
  foundS := fun k hk => by cases hk
  len := rfl
  qlen := rfl
  no := fun i hi => by simp at hi
  yes := fun i fd hi => by simp at hi
  nums := fun i fd hi => by simp at hi
  few := by simp
  short := by simp
end Go.Proofs.Ytofdnbddpageoaa.Nm
