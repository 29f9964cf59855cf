/-
  A BOOK IN MEMORY.
-/
import Derived.Test.YtmppjlgmopfaeaaNmBase
namespace Go.Proofs.Ytmppjlgmopfaeaa.Nm
open Go.RowKit Go.Maps

def ptrO (o : Option Nat) : Value := .pointer (o.map fun i => ⟨i, 0, Option.none⟩)
def strV (l : List ByteArray) : List Value := l.map .string
def intV (l : List Nat) : List Value := l.map fun (n : Nat) => .int .i64 (n : Int)

/-- what was found of one name -/
structure Fo (S : Nat → Prop) (w : World) (q : Nat) (fd : Fd) : Prop where
  inS : S q
  ex : ∃ v, w.heap[q]? = some (.cells #[.int .i64 (fd.time : Int), v] 106 (0, 0)) ∧ w.ownsRow 0 3 1 v fd.nums.length (intV fd.nums) ∧ ∀ k, v.ownBlock = some k → S k

/-- a book at block p; all its blocks are of S -/
structure Bk (S : Nat → Prop) (w : World) (p : Nat) (B : Bo) (v1 v2 v3 : Value) (Q : List (Option Nat)) : Prop where
  box : w.heap[p]? = some (.cells #[v1, v2, v3] 69 (0, 0))
  inS : S p
  names : w.ownsRow 0 9 1 v1 B.N.length (strV B.N)
  namesS : ∀ k, v1.ownBlock = some k → S k
  map : MapAt w B.N.length v2 (ofN B.N)
  mapS : ∀ m, mapBlk v2 = some m → S m
  found : w.ownsRow 0 85 1 v3 B.F.length (Q.map ptrO)
  foundS : ∀ k, v3.ownBlock = some k → S k
  len : B.F.length = B.N.length
  qlen : Q.length = B.F.length
  no : ∀ i : Nat, B.F[i]? = some Option.none → Q[i]? = some Option.none
  yes : ∀ (i : Nat) fd, B.F[i]? = some (some fd) → ∃ q, Q[i]? = some (some q) ∧ Fo S w q fd
  nums : ∀ (i : Nat) fd, B.F[i]? = some (some fd) → (∀ n ∈ fd.nums, n < B.N.length) ∧ fd.time < 4611686018427387904 ∧ fd.nums.length ≤ 1000000
  few : B.N.length ≤ 1000000
  short : ∀ s ∈ B.N, s.size ≤ 1000000

theorem map_blk {w : World} {n : Nat} {mv : Value} {f : Bs → Option Nat} (h : MapAt w n mv f) {m : Nat} (hm : mapBlk mv = some m) : m < w.heap.size := by
  obtain ⟨es, c, hc⟩ := h.blk hm
  exact lt_some hc

theorem Fo.keep {S : Nat → Prop} {w w' : World} {q : Nat} {fd : Fd} (h : Fo S w q fd) (hb : ∀ k, S k → k < w.heap.size → w'.heap[k]? = w.heap[k]?) : Fo S w' q fd := by
  obtain ⟨v, h1, h2, h3⟩ := h.ex
  exact ⟨h.inS, v, (hb _ h.inS (lt_some h1)).trans h1, owns_kept h2 fun g hg => hb g (h3 g hg) (h2.lt g hg).2, h3⟩

theorem Fo.wide {S S' : Nat → Prop} {w : World} {q : Nat} {fd : Fd} (h : Fo S w q fd) (hs : ∀ k, S k → S' k) : Fo S' w q fd := by
  obtain ⟨v, h1, h2, h3⟩ := h.ex
  exact ⟨hs _ h.inS, v, h1, h2, fun k hk => hs _ (h3 k hk)⟩

section
variable {S S' : Nat → Prop} {w w' : World} {p : Nat} {B : Bo} {v1 v2 v3 : Value} {Q : List (Option Nat)}

theorem Bk.keep (h : Bk S w p B v1 v2 v3 Q) (hb : ∀ k, S k → k < w.heap.size → w'.heap[k]? = w.heap[k]?) : Bk S w' p B v1 v2 v3 Q where
  box := (hb _ h.inS (lt_some h.box)).trans h.box
  inS := h.inS
  names := owns_kept h.names fun g hg => hb g (h.namesS g hg) (h.names.lt g hg).2
  namesS := h.namesS
  map := h.map.kept fun m hm => hb m (h.mapS m hm) (map_blk h.map hm)
  mapS := h.mapS
  found := owns_kept h.found fun g hg => hb g (h.foundS g hg) (h.found.lt g hg).2
  foundS := h.foundS
  len := h.len
  qlen := h.qlen
  no := h.no
  yes := fun i fd hi => by obtain ⟨q, h1, h2⟩ := h.yes i fd hi; exact ⟨q, h1, h2.keep hb⟩
  nums := h.nums
  few := h.few
  short := h.short

theorem Bk.below (h : Bk S w p B v1 v2 v3 Q) (hb : Below w.heap.size w w') : Bk S w' p B v1 v2 v3 Q := h.keep fun k _ hk => hb.block k hk
theorem Bk.wide (h : Bk S w p B v1 v2 v3 Q) (hs : ∀ k, S k → S' k) : Bk S' w p B v1 v2 v3 Q where
  box := h.box
  inS := hs _ h.inS
  names := h.names
  namesS := fun k hk => hs _ (h.namesS k hk)
  map := h.map
  mapS := fun k hk => hs _ (h.mapS k hk)
  found := h.found
  foundS := fun k hk => hs _ (h.foundS k hk)
  len := h.len
  qlen := h.qlen
  no := h.no
  yes := fun i fd hi => by obtain ⟨q, h1, h2⟩ := h.yes i fd hi; exact ⟨q, h1, h2.wide hs⟩
  nums := h.nums
  few := h.few
  short := h.short

theorem Bk.cells (h : Bk S w p B v1 v2 v3 Q) : w.cell? ⟨p, 0, Option.none⟩ = some v1 ∧ w.cell? ⟨p, 1, Option.none⟩ = some v2 ∧ w.cell? ⟨p, 2, Option.none⟩ = some v3 ∧ w.frozen? ⟨p, 0, Option.none⟩ = false ∧ w.frozen? ⟨p, 1, Option.none⟩ = false ∧ w.frozen? ⟨p, 2, Option.none⟩ = false := by
  simp [World.cell?, World.frozen?, h.box]
end

/-- an empty book -/
theorem bk_new (w : World) : Bk (fun k => k = w.heap.size) (w.alloc (.cells #[.slice Option.none 0 0, .map Option.none, .slice Option.none 0 0] 69)) w.heap.size ⟨[], []⟩ (.slice Option.none 0 0) (.map Option.none) (.slice Option.none 0 0) [] where
  box := heap_alloc_new _ _
  inS := rfl
  names := World.ownsRow_nil _ _ _ _
  namesS := fun k hk => by cases hk
  map := .inl ⟨rfl, rfl⟩
  mapS := fun k hk => by cases hk
  found := World.ownsRow_nil _ _ _ _
  foundS := fun k hk => by cases hk
  len := rfl
  qlen := rfl
  no := fun i hi => by simp at hi
  yes := fun i fd hi => by simp at hi
  nums := fun i fd hi => by simp at hi
  few := by simp
  short := by simp
end Go.Proofs.Ytmppjlgmopfaeaa.Nm
