/-
  STRINGS AS LISTS OF BYTES; ROWS OF STRINGS THAT THE CALL OWNS.
  EDGES, and whether they are few and short. No program, no world.
  ROWS OF EDGES, as they are read.
-/
import Derived.Test.YtbflodefmookiaaRows
import Derived.Lib.Strings
import Derived.WalkKit
import Derived.WalkLawsBesides
import Derived.WalkMore
import Derived.Lib.Hide
import Derived.OpenShut
import Derived.Laws.AppendOwnNone
import Derived.Deep.QuietTactic
import Derived.BigQuiet
import Derived.Deep.RegionHeld3
import Derived.RegionTactic
import Derived.ChangeAlike
import Derived.Maps.AppendAt
import Derived.Deep.AppendLies
import Derived.Deep.Cut
namespace Go.Proofs.Ytbflodefmookiaa
open Go.RowKit

abbrev Bs := List UInt8

/-- the string of these bytes -/
def mk (l : Bs) : ByteArray := ⟨l.toArray⟩
theorem mk_bytes (l : Bs) : (mk l).data.toList = l := rfl
theorem mk_of (s : ByteArray) : mk s.data.toList = s := Lib.mk_data s
theorem mk_size (l : Bs) : (mk l).size = l.length := by rw [Lib.size_eq, mk_bytes]
theorem mk_inj {a b : Bs} (h : mk a = mk b) : a = b := by rw [← mk_bytes a, h, mk_bytes]
theorem mk_extract (l : Bs) (a b : Nat) : (mk l).extract a b = mk ((l.drop a).take (b - a)) := by rw [← mk_of ((mk l).extract a b), Lib.extract_data, mk_bytes]
theorem mk_append (a b : Bs) : mk a ++ mk b = mk (a ++ b) := by
  rw [← mk_of (mk a ++ mk b)]
  congr 1
theorem mk_toList (x : Bs) : (mk x).toList = x := by rw [Lib.toList_data, mk_bytes]
theorem cmpS (a b : Bs) : ((mk a).toList == (mk b).toList) = decide (a = b) := by
  rw [mk_toList, mk_toList]
  exact Bool.eq_iff_iff.2 (by simp)
theorem str_eq {a b : ByteArray} (h : a = b) : Value.string a = .string b := by rw [h]
theorem ret_eq {k : IntKind} {a b : Int} (h : a = b) : Ending.returned (.int k a) = .returned (.int k b) := by rw [h]
theorem val_eq {k : IntKind} {a b : Int} (h : a = b) : Value.int k a = Value.int k b := by rw [h]
theorem below_alloc (w : World) (o : Obj) : Below w.heap.size w (w.alloc o) := (Below.refl _ _).alloc (Nat.le_refl _) _
theorem below_step {w W w1 : World} (hb : Below W.heap.size W w1) (h : Below w.heap.size w W) : Below w.heap.size w w1 := h.trans (hb.mono h.size)
theorem byte_at (s : ByteArray) {j : Nat} (h : j < s.size) : s.data.toList[j]? = some s[j] := by
  rw [Array.getElem?_toList]
  exact Array.getElem?_eq_getElem h
theorem bang_at (S : ByteArray) {j : Nat} (h : j < S.size) : S.data[j]! = S[j] := by
  have h' : j < S.data.size := h
  rw [getElem!_pos S.data j h']
  rfl
theorem get_mk (s : Bs) {j : Nat} (h : j < (mk s).size) : s[j]? = some (mk s)[j] := byte_at (mk s) h

/-! rows of strings -/
def strV (k : List Bs) : List Value := k.map fun p => Value.string (mk p)
theorem strV_length (k : List Bs) : (strV k).length = k.length := by simp [strV]
theorem strV_app (k l : List Bs) : strV (k ++ l) = strV k ++ strV l := by simp [strV]
theorem strV_snoc (k : List Bs) (p : Bs) : strV (k ++ [p]) = strV k ++ [Value.string (mk p)] := by simp [strV]
theorem info9 : (Try.prog.info? 9).map (fun i => (i.zero, i.size, i.bytes)) = some (some (.string ⟨#[]⟩), 1, 16) := by kernel_rfl

/-- a slice of strings, as it is read -/
def Strs (w : World) (v : Value) (K : List Bs) : Prop :=
  ∃ a c, v = .slice a K.length c ∧ K.length ≤ c ∧ (K = [] ∨ ∃ g off, a = some ⟨g, off, none⟩ ∧ g < w.heap.size ∧ ∀ (j : Nat) p, K[j]? = some p → w.cell? ⟨g, off + j, none⟩ = some (.string (mk p)))

theorem cell_of_block {w w' : World} {k j : Nat} (h : w'.heap[k]? = w.heap[k]?) : w'.cell? ⟨k, j, none⟩ = w.cell? ⟨k, j, none⟩ := by
  simp [World.cell?, h]

theorem Strs.below {w w' : World} {v : Value} {K : List Bs} (h : Strs w v K) (hb : Below w.heap.size w w') : Strs w' v K := by
  obtain ⟨a, c, e, hc, h⟩ := h
  refine ⟨a, c, e, hc, ?_⟩
  rcases h with h | ⟨g, off, e, hg, hcell⟩
  · exact .inl h
  · exact .inr ⟨g, off, e, Nat.lt_of_lt_of_le hg hb.size, fun j p hp => (cell_of_block (hb.block g hg)).trans (hcell j p hp)⟩

theorem Strs.drew {w : World} {v : Value} {K : List Bs} (h : Strs w v K) : Strs w.drew v K := h

theorem owns_strs {w : World} {base : Nat} {v : Value} {n : Nat} {K : List Bs} (h : w.ownsRow base 9 1 v n (strV K)) : Strs w v K := by
  have hl := h.1
  rw [strV_length, Nat.mul_one] at hl
  rcases h.2 with ⟨rfl, h0⟩ | ⟨g, cap, cur, rfl, hb, hg, hle, _⟩
  · have : K = [] := List.eq_nil_of_length_eq_zero (hl.trans h0)
    subst this
    exact ⟨none, 0, rfl, Nat.le_refl _, .inl rfl⟩
  · refine ⟨_, cap, by rw [← hl], by omega, .inr ⟨g, 0, rfl, (Array.getElem?_eq_some_iff.1 hg).1, fun j p hp => ?_⟩⟩
    have hc := h.cells (g := g) rfl j (.string (mk p)) (by simp [strV, hp])
    rw [Go.WideShapes.add_plain] at hc
    exact hc

theorem owns_len {w : World} {base : Nat} {v : Value} {n : Nat} {K : List Bs} (h : w.ownsRow base 9 1 v n (strV K)) : ∃ a cap, v = .slice a n cap := by
  rcases h.2 with ⟨rfl, h0⟩ | ⟨g, cap, cur, rfl, _⟩
  · exact ⟨none, 0, by rw [h0]⟩
  · exact ⟨_, _, rfl⟩
theorem owns_n {w : World} {base : Nat} {v : Value} {n : Nat} {K : List Bs} (h : w.ownsRow base 9 1 v n (strV K)) : n = K.length := by
  have hl := h.1
  rw [strV_length, Nat.mul_one] at hl
  exact hl.symm

theorem owns_block {w : World} {base : Nat} {e : TypeId} {sz : Nat} {v : Value} {n : Nat} {xs : List Value} (h : w.ownsRow base e sz v n xs) {g : Nat} (hg : v.ownBlock = some g) : base ≤ g ∧ ∃ cur, w.heap[g]? = some (.cells cur e (0, 0)) := by
  rcases h.2 with ⟨rfl, _⟩ | ⟨g', cap, cur, rfl, hb, hc, _⟩
  · cases hg
  · cases hg
    exact ⟨hb, cur, hc⟩

theorem owns_kept {w w' : World} {base : Nat} {e : TypeId} {sz : Nat} {v : Value} {n : Nat} {xs : List Value} (h : w.ownsRow base e sz v n xs) (hk : ∀ g, v.ownBlock = some g → w'.heap[g]? = w.heap[g]?) : w'.ownsRow base e sz v n xs := by
  refine ⟨h.1, ?_⟩
  rcases h.2 with h | ⟨g, cap, cur, rfl, hb, hc, hr⟩
  · exact .inl h
  · exact .inr ⟨g, cap, cur, rfl, hb, (hk g rfl).trans hc, hr⟩

theorem owns_below {w w' : World} {base : Nat} {e : TypeId} {sz : Nat} {v : Value} {n : Nat} {xs : List Value} (h : w.ownsRow base e sz v n xs) (hb : Below w.heap.size w w') : w'.ownsRow base e sz v n xs :=
  owns_kept h fun g hg => by
    obtain ⟨_, cur, hc⟩ := owns_block h hg
    exact hb.block g (Array.getElem?_eq_some_iff.1 hc).1

theorem owns_mono {w : World} {b b' : Nat} {e : TypeId} {sz : Nat} {v : Value} {n : Nat} {xs : List Value} (h : w.ownsRow b e sz v n xs) (hb : b' ≤ b) : w.ownsRow b' e sz v n xs := by
  refine ⟨h.1, ?_⟩
  rcases h.2 with h | ⟨g, cap, cur, rfl, hbg, hc, hr⟩
  · exact .inl h
  · exact .inr ⟨g, cap, cur, rfl, Nat.le_trans hb hbg, hc, hr⟩

theorem lt_some {w : World} {p : Nat} {o : Obj} (h : w.heap[p]? = some o) : p < w.heap.size := by
  rcases Nat.lt_or_ge p w.heap.size with h' | h'
  · exact h'
  · rw [Array.getElem?_eq_none h'] at h; cases h

theorem one_cell {w : World} {p : Nat} {u : Value} {t : TypeId} (h : w.heap[p]? = some (.cells #[u] t (0, 0))) : w.cell? ⟨p, 0, none⟩ = some u ∧ w.frozen? ⟨p, 0, none⟩ = false := by
  simp [World.cell?, World.frozen?, h]

theorem set_block {w : World} {p j : Nat} {C : Array Value} {u : Value} {t : TypeId} (h : w.heap[p]? = some (.cells C t (0, 0))) :
    (w.setCell ⟨p, j, none⟩ u).heap[p]? = some (.cells (C.setIfInBounds j u) t (0, 0)) := by
  have hlt := lt_some h
  have h' : w.heap[p] = .cells C t (0, 0) := by simpa [Array.getElem?_eq_getElem hlt] using h
  show (w.heap.modify p _)[p]? = _
  rw [Array.getElem?_eq_getElem (by simpa using hlt), Array.getElem_modify_self, h']
  rfl

theorem set_one {w : World} {p : Nat} {u v : Value} {t : TypeId} (h : w.heap[p]? = some (.cells #[u] t (0, 0))) : (w.setCell ⟨p, 0, none⟩ v).heap[p]? = some (.cells #[v] t (0, 0)) := by
  have := set_block (j := 0) (u := v) h
  simpa using this

theorem set_other {w : World} {p q : Nat} {j : Nat} {v : Value} (h : q ≠ p) : (w.setCell ⟨p, j, none⟩ v).heap[q]? = w.heap[q]? := Below.heap_setCell _ _ _ _ h

theorem cell_new (w : World) (v : Value) (t : TypeId) : (w.alloc (.cells #[v] t)).cell? ⟨w.heap.size, 0, none⟩ = some v := (one_cell (t := t) (heap_alloc_new w _)).1

theorem wpList_append_str {w : World} {ops : Array Oper} {rest : List Oper} {o : Oper} {a : Act} {Q : Exit → Act → World → Prop} (hgd : o.guard = none) (s x : Operand)
    (ho : o.op = .call { callee := .builtin .append, args := #[s, x], argTypes := #[23, 23] })
    (base : Nat) (v : Value) (n : Nat) (K : List Bs) (hs : a.eval s = v) (hown : w.ownsRow base 9 1 v n (strV K))
    (ad : Addr) (c : Nat) (p : Bs) (hx : a.eval x = .slice (some ad) 1 c) (hnews : ∀ j u, [Value.string (mk p)][j]? = some u → w.cell? (ad.add j) = some u)
    (hn : n ≤ 1000000) (hbase : base ≤ w.heap.size)
    (h : ∀ a' c' w', w'.ownsRow base 9 1 (.slice a' (n + 1) c') (n + 1) (strV (K ++ [p])) → Below base w w' → wpList Try.prog ops Q rest (a.put o.dst (.slice a' (n + 1) c')) w') : wpList Try.prog ops Q (o :: rest) a w := by
  obtain ⟨i0, hi, hz0, hz1, hz2⟩ := info_parts info9
  refine wpList_append_own w hgd s x 23 ho base 9 i0 (.string ⟨#[]⟩) 1 16 Try.underlying23 hi hz0 hz1 hz2 rfl (by decide) v n (strV K) hs hown ad 1 c [.string (mk p)] hx rfl hnews (by simp [Value.oneCell']) (by unfold maxLen; omega) (by omega) hbase ?_
  intro v' w' h1 h2 _
  have h3 : w'.ownsRow base 9 1 v' (n + 1) (strV (K ++ [p])) := by rw [strV_snoc]; exact h1
  obtain ⟨a', c', rfl⟩ := owns_len h3
  exact h a' c' w' h3 ((Below.refl _ _).grown h2 hbase fun k hk => (hown.lt k hk).1)

/-- nothing that was there has turned but these blocks -/
structure Off (C : Nat → Prop) (w w' : World) : Prop where
  os : w'.os = w.os
  tape : w'.tape = w.tape
  output : w'.output = w.output
  size : w.heap.size ≤ w'.heap.size
  block : ∀ k, k < w.heap.size → ¬ C k → w'.heap[k]? = w.heap[k]?

theorem Off.below {C : Nat → Prop} {B : Nat} {w w' : World} (h : Off C w w') (hB : ∀ k, C k → B ≤ k) (hs : B ≤ w.heap.size) : Below B w w' :=
  ⟨h.os, h.tape, h.output, h.size, fun k hk => h.block k (by omega) fun hc => by have := hB k hc; omega⟩
theorem Off.trans {C : Nat → Prop} {a b c : World} (h : Off C a b) (k : Off C b c) : Off C a c :=
  ⟨k.os.trans h.os, k.tape.trans h.tape, k.output.trans h.output, Nat.le_trans h.size k.size, fun i hi hc => (k.block i (Nat.lt_of_lt_of_le hi h.size) hc).trans (h.block i hi hc)⟩
theorem off_set {w : World} {p j : Nat} {v : Value} {C : Nat → Prop} (h : C p) : Off C w (w.setCell ⟨p, j, none⟩ v) :=
  ⟨rfl, rfl, rfl, by simp [World.setCell], fun k _ hk => set_other fun e => hk (e ▸ h)⟩
end Go.Proofs.Ytbflodefmookiaa
namespace Go.Proofs.Ytbflodefmookiaa.Df
end Go.Proofs.Ytbflodefmookiaa.Df
namespace Go.Proofs.Ytbflodefmookiaa.Pr

/-- an edge -/
structure Ed where
  outs : List Bs
  ins : List Bs
  imp : List Bs
  ord : List Bs
  cmd : Bs
  dep : Bs

/-! few, and short -/
def nm (e : Ed) : List Bs := e.outs ++ e.ins ++ e.imp ++ e.ord
def fewE (e : Ed) : Bool := decide (e.outs.length ≤ 10) && decide (e.ins.length ≤ 10) && decide (e.imp.length ≤ 10) && decide (e.ord.length ≤ 10) && decide (e.cmd.length ≤ 300) && decide (e.dep.length ≤ 200)
def shortN (s : Bs) : Bool := decide (s.length ≤ 200)
def allN (L : List Ed) (D : List Bs) : List Bs := D ++ L.flatMap nm
def fewM (L : List Ed) (D : List Bs) : Bool := decide (L.length ≤ 30) && decide (D.length ≤ 20) && L.all fewE && (allN L D).all shortN
theorem allN_take {L : List Ed} {D : List Bs} {j : Nat} {x : Ed} (h : L[j]? = some x) : allN (L.take (j + 1)) D = allN (L.take j) D ++ nm x := by
  rw [List.take_add_one, h]
  simp [allN]

/-- an edge whose parts are few, and short -/
structure Sm (e : Ed) : Prop where
  o : e.outs.length ≤ 10
  i : e.ins.length ≤ 10
  m : e.imp.length ≤ 10
  r : e.ord.length ≤ 10
  c : e.cmd.length ≤ 300
  d : e.dep.length ≤ 200
  xo : ∀ x ∈ e.outs, x.length ≤ 200
  xi : ∀ x ∈ e.ins, x.length ≤ 200
  xm : ∀ x ∈ e.imp, x.length ≤ 200
  xr : ∀ x ∈ e.ord, x.length ≤ 200
theorem fewM_of {L : List Ed} {D : List Bs} (h : fewM L D = true) : L.length ≤ 30 ∧ D.length ≤ 20 ∧ (∀ x ∈ D, x.length ≤ 200) ∧ ∀ e ∈ L, Sm e := by
  unfold fewM at h
  simp only [Bool.and_eq_true, decide_eq_true_eq, List.all_eq_true] at h
  obtain ⟨⟨⟨h1, h2⟩, h3⟩, h4⟩ := h
  have hs : ∀ x ∈ allN L D, x.length ≤ 200 := fun x hx => by have := h4 x hx; unfold shortN at this; exact of_decide_eq_true this
  refine ⟨h1, h2, fun x hx => hs x (by simp [allN, hx]), fun e he => ?_⟩
  have hf := h3 e he
  unfold fewE at hf
  simp only [Bool.and_eq_true, decide_eq_true_eq] at hf
  obtain ⟨⟨⟨⟨⟨a1, a2⟩, a3⟩, a4⟩, a5⟩, a6⟩ := hf
  have hn : ∀ x ∈ nm e, x.length ≤ 200 := fun x hx => hs x (by
    unfold allN
    rw [List.mem_append, List.mem_flatMap]
    exact .inr ⟨e, he, hx⟩)
  exact ⟨a1, a2, a3, a4, a5, a6, fun x hx => hn x (by simp [nm, hx]), fun x hx => hn x (by simp [nm, hx]), fun x hx => hn x (by simp [nm, hx]), fun x hx => hn x (by simp [nm, hx])⟩

end Go.Proofs.Ytbflodefmookiaa.Pr
namespace Go.Proofs.Ytbflodefmookiaa.Pr
open Go.RowKit Go.Proofs.Ytbflodefmookiaa Go.Proofs.Ytbflodefmookiaa.Df

/-- the four rows of an edge -/
structure EdV (w : World) (e : Ed) (v0 v1 v2 v3 : Value) : Prop where
  o : Strs w v0 e.outs
  i : Strs w v1 e.ins
  m : Strs w v2 e.imp
  r : Strs w v3 e.ord
/-- a row of edges -/
def Eds (w : World) (v : Value) (L : List Ed) : Prop :=
  ∃ a c, v = .slice a L.length c ∧ L.length ≤ c ∧ (L = [] ∨ ∃ g off, a = some ⟨g, off, none⟩ ∧ g < w.heap.size ∧ ∀ (j : Nat) e, L[j]? = some e → ∃ v0 v1 v2 v3, EdV w e v0 v1 v2 v3 ∧
    w.cell? ⟨g, off + j * 6, none⟩ = some v0 ∧ w.cell? ⟨g, off + j * 6 + 1, none⟩ = some v1 ∧ w.cell? ⟨g, off + j * 6 + 2, none⟩ = some v2 ∧ w.cell? ⟨g, off + j * 6 + 3, none⟩ = some v3 ∧ w.cell? ⟨g, off + j * 6 + 4, none⟩ = some (.string (mk e.cmd)) ∧ w.cell? ⟨g, off + j * 6 + 5, none⟩ = some (.string (mk e.dep)))
section
variable {w w' : World} {e : Ed} {v0 v1 v2 v3 v : Value} {L : List Ed}
theorem EdV.below (h : EdV w e v0 v1 v2 v3) (hb : Below w.heap.size w w') : EdV w' e v0 v1 v2 v3 := ⟨h.o.below hb, h.i.below hb, h.m.below hb, h.r.below hb⟩
theorem EdV.sl (h : EdV w e v0 v1 v2 v3) : ∃ a0 c0 a1 c1 a2 c2 a3 c3, v0 = .slice a0 e.outs.length c0 ∧ v1 = .slice a1 e.ins.length c1 ∧ v2 = .slice a2 e.imp.length c2 ∧ v3 = .slice a3 e.ord.length c3 := by
  obtain ⟨a0, c0, h0, -⟩ := h.o
  obtain ⟨a1, c1, h1, -⟩ := h.i
  obtain ⟨a2, c2, h2, -⟩ := h.m
  obtain ⟨a3, c3, h3, -⟩ := h.r
  exact ⟨a0, c0, a1, c1, a2, c2, a3, c3, h0, h1, h2, h3⟩
theorem Eds.below (h : Eds w v L) (hb : Below w.heap.size w w') : Eds w' v L := by
  obtain ⟨a, c, e, hc, h⟩ := h
  refine ⟨a, c, e, hc, ?_⟩
  rcases h with h | ⟨g, off, e, hg, hat⟩
  · exact .inl h
  · refine .inr ⟨g, off, e, Nat.lt_of_lt_of_le hg hb.size, fun j x hx => ?_⟩
    obtain ⟨v0, v1, v2, v3, hE, h0, h1, h2, h3, h4, h5⟩ := hat j x hx
    have hB := hb.block g hg
    exact ⟨v0, v1, v2, v3, hE.below hb, (cell_of_block hB).trans h0, (cell_of_block hB).trans h1, (cell_of_block hB).trans h2, (cell_of_block hB).trans h3, (cell_of_block hB).trans h4, (cell_of_block hB).trans h5⟩
theorem Eds.at (h : Eds w v L) {j : Nat} (hx : L[j]? = some e) : ∃ g off c v0 v1 v2 v3, v = .slice (some ⟨g, off, none⟩) L.length c ∧ g < w.heap.size ∧ EdV w e v0 v1 v2 v3 ∧
    w.cell? ⟨g, off + j * 6, none⟩ = some v0 ∧ w.cell? ⟨g, off + j * 6 + 1, none⟩ = some v1 ∧ w.cell? ⟨g, off + j * 6 + 2, none⟩ = some v2 ∧ w.cell? ⟨g, off + j * 6 + 3, none⟩ = some v3 ∧ w.cell? ⟨g, off + j * 6 + 4, none⟩ = some (.string (mk e.cmd)) ∧ w.cell? ⟨g, off + j * 6 + 5, none⟩ = some (.string (mk e.dep)) := by
  obtain ⟨a, c, rfl, hc, h⟩ := h
  rcases h with rfl | ⟨g, off, rfl, hg, hat⟩
  · cases hx
  · obtain ⟨v0, v1, v2, v3, hE⟩ := hat j e hx
    exact ⟨g, off, c, v0, v1, v2, v3, rfl, hg, hE⟩
end

theorem box6 {w : World} {v0 v1 v2 v3 v4 v5 : Value} {t : TypeId} : let W := w.alloc (.cells #[v0, v1, v2, v3, v4, v5] t); W.cell? ⟨w.heap.size, 0, none⟩ = some v0 ∧ W.cell? ⟨w.heap.size, 1, none⟩ = some v1 ∧ W.cell? ⟨w.heap.size, 2, none⟩ = some v2 ∧ W.cell? ⟨w.heap.size, 3, none⟩ = some v3 ∧ W.cell? ⟨w.heap.size, 4, none⟩ = some v4 ∧ W.cell? ⟨w.heap.size, 5, none⟩ = some v5 := by
  have h := heap_alloc_new w (.cells #[v0, v1, v2, v3, v4, v5] t)
  intro W
  refine ⟨?_, ?_, ?_, ?_, ?_, ?_⟩ <;> (rw [Lib.cell_of_heap h]; rfl)

end Go.Proofs.Ytbflodefmookiaa.Pr
