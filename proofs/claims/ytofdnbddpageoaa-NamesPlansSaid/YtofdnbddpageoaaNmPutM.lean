/-
  THE DOCUMENT's BOOK: names, and what was found, in the order of outputs: plain lists.
-/
import Derived.Test.YtofdnbddpageoaaNmLiveM
import Derived.Test.YtofdnbddpageoaaNmRec
namespace Go.Proofs.Ytofdnbddpageoaa.Nm
open Go.RowKit Go.Sort Go.Shelf

theorem lt_or_ne {a b : Bs} (h : a ≠ b) : a < b ∨ b < a := by
  by_cases h1 : a < b
  · exact .inl h1
  · by_cases h2 : b < a
    · exact .inr h2
    · exact absurd (List.le_antisymm (List.not_lt.1 h2) (List.not_lt.1 h1)) h

def ltD (x y : Dp) : Prop := bsOf x.out < bsOf y.out
/-- what was found of an output, in its place -/
def putL : List Dp → Dp → List Dp
  | [], d => [d]
  | x :: l, d => if bsOf x.out < bsOf d.out then x :: putL l d else if x.out = d.out then d :: l else d :: x :: l

theorem putL_mem (l : List Dp) (d : Dp) (hs : l.Pairwise ltD) (y : Dp) : y ∈ putL l d ↔ y = d ∨ (y ∈ l ∧ y.out ≠ d.out) := by
  induction l with
  | nil => simp [putL]
  | cons x l ih =>
    rw [List.pairwise_cons] at hs
    have ih := ih hs.2
    unfold putL
    split
    · rename_i h1
      rw [List.mem_cons, ih, List.mem_cons]
      have hx : x.out ≠ d.out := fun e => by rw [e] at h1; exact List.lt_irrefl _ h1
      constructor
      · rintro (rfl | rfl | ⟨h, h2⟩)
        · exact .inr ⟨.inl rfl, hx⟩
        · exact .inl rfl
        · exact .inr ⟨.inr h, h2⟩
      · rintro (rfl | ⟨rfl | h, h2⟩)
        · exact .inr (.inl rfl)
        · exact .inl rfl
        · exact .inr (.inr ⟨h, h2⟩)
    · split
      · rename_i h1 h2
        have hl : ∀ z ∈ l, z.out ≠ d.out := fun z hz e => by
          have := hs.1 z hz
          unfold ltD at this
          rw [h2, e] at this
          exact List.lt_irrefl _ this
        rw [List.mem_cons, List.mem_cons]
        constructor
        · rintro (rfl | h)
          · exact .inl rfl
          · exact .inr ⟨.inr h, hl y h⟩
        · rintro (rfl | ⟨rfl | h, h3⟩)
          · exact .inl rfl
          · exact absurd h2 h3
          · exact .inr h
      · rename_i h1 h2
        have hd : bsOf d.out < bsOf x.out := by
          rcases lt_or_ne (fun e : bsOf x.out = bsOf d.out => h2 (bsOf_inj e)) with h | h
          · exact absurd h h1
          · exact h
        have hl : ∀ z ∈ l, z.out ≠ d.out := fun z hz e => by
          have := hs.1 z hz
          unfold ltD at this
          rw [e] at this
          exact List.lt_irrefl _ (List.lt_trans this hd)
        rw [List.mem_cons, List.mem_cons]
        constructor
        · rintro (rfl | rfl | h)
          · exact .inl rfl
          · exact .inr ⟨.inl rfl, h2⟩
          · exact .inr ⟨.inr h, hl y h⟩
        · rintro (rfl | ⟨rfl | h, _⟩)
          · exact .inl rfl
          · exact .inr (.inl rfl)
          · exact .inr (.inr h)

theorem putL_sorted (l : List Dp) (d : Dp) (hs : l.Pairwise ltD) : (putL l d).Pairwise ltD := by
  induction l with
  | nil => simp [putL]
  | cons x l ih =>
    have hs' := List.pairwise_cons.1 hs
    unfold putL
    split
    · rename_i h1
      refine List.pairwise_cons.2 ⟨fun z hz => ?_, ih hs'.2⟩
      rcases (putL_mem l d hs'.2 z).1 hz with rfl | ⟨h, _⟩
      · exact h1
      · exact hs'.1 z h
    · split
      · rename_i h1 h2
        refine List.pairwise_cons.2 ⟨fun z hz => ?_, hs'.2⟩
        have := hs'.1 z hz
        unfold ltD at this ⊢
        rw [← h2]
        exact this
      · rename_i h1 h2
        have hd : bsOf d.out < bsOf x.out := by
          rcases lt_or_ne (fun e : bsOf x.out = bsOf d.out => h2 (bsOf_inj e)) with h | h
          · exact absurd h h1
          · exact h
        refine List.pairwise_cons.2 ⟨fun z hz => ?_, hs⟩
        rcases List.mem_cons.1 hz with rfl | hz
        · exact hd
        · exact List.lt_trans hd (hs'.1 z hz)

/-- lists that are sorted and have the same are the same -/
theorem sorted_eq : ∀ {l k : List Dp}, l.Pairwise ltD → k.Pairwise ltD → (∀ x, x ∈ l ↔ x ∈ k) → l = k
  | [], [], _, _, _ => rfl
  | [], y :: k, _, _, h => by have := (h y).2 (by simp); simp at this
  | x :: l, [], _, _, h => by have := (h x).1 (by simp); simp at this
  | x :: l, y :: k, hl, hk, h => by
    have h1 := List.pairwise_cons.1 hl
    have h2 := List.pairwise_cons.1 hk
    have e : x = y := by
      rcases List.mem_cons.1 ((h x).1 (by simp)) with e | hx
      · exact e
      · rcases List.mem_cons.1 ((h y).2 (by simp)) with e | hy
        · exact e.symm
        · exact absurd (List.lt_trans (h2.1 x hx) (h1.1 y hy)) (List.lt_irrefl _)
    subst e
    congr 1
    refine sorted_eq h1.2 h2.2 fun z => ?_
    constructor
    · intro hz
      rcases List.mem_cons.1 ((h z).1 (by simp [hz])) with e | hz'
      · subst e; exact absurd (h1.1 z hz) (List.lt_irrefl _)
      · exact hz'
    · intro hz
      rcases List.mem_cons.1 ((h z).2 (by simp [hz])) with e | hz'
      · subst e; exact absurd (h2.1 z hz) (List.lt_irrefl _)
      · exact hz'

theorem sort_sorted {FL : List Dp} (hn : (FL.map Dp.out).Nodup) : (sortD FL).Pairwise ltD := by
  have h1 : ((sortD FL).map Dp.out).Pairwise fun x y => leS x y = true := by
    rw [sort_outs]
    refine List.pairwise_mergeSort (le := leS) (fun a b c h1 h2 => ?_) (fun a b => ?_) _
    · unfold leS at *
      rw [ltS] at *
      simp only [Bool.not_eq_true', decide_eq_false_iff_not, List.not_lt] at *
      exact List.le_trans h1 h2
    · unfold leS
      rw [ltS, ltS]
      simp only [Bool.or_eq_true, Bool.not_eq_true', decide_eq_false_iff_not, List.not_lt]
      exact List.le_total _ _
  have h2 := sort_nodup hn
  have h3 := List.Pairwise.and h1 h2
  rw [List.pairwise_map] at h3
  refine h3.imp fun {x y} h => ?_
  obtain ⟨h4, h5⟩ := h
  unfold leS at h4
  rw [ltS] at h4
  simp only [Bool.not_eq_true', decide_eq_false_iff_not, List.not_lt] at h4
  unfold ltD
  rcases lt_or_ne (fun e : bsOf x.out = bsOf y.out => h5 (bsOf_inj e)) with h | h
  · exact h
  · exact absurd h (List.not_lt.2 h4)

/-! ### a record, in the document's book -/
theorem sets_found {B : Bo} (hl : B.F.length = B.N.length) (hn : B.N.Nodup) {B' : Bo} (hl' : B'.F.length = B'.N.length) (hn' : B'.N.Nodup) {d : Dp}
    (h : ∀ s, lookB B' s = if s = d.out then some d else lookB B s) : allL B' = putL (allL B) d := by
  have o1 := found_nodup hl hn
  have o2 := found_nodup hl' hn'
  have s1 := sort_sorted o1
  have hout : ∀ (C : Bo) (s : ByteArray) (x : Dp), lookB C s = some x → x.out = s := fun C s x hx => by
    unfold lookB at hx
    cases e : ixOf C.N s with
    | none => rw [e] at hx; cases hx
    | some i =>
      rw [e, Option.bind_some] at hx
      cases e2 : C.F[i]? with
      | none => rw [e2] at hx; cases hx
      | some o =>
        rw [e2] at hx
        cases o with
        | none => cases hx
        | some fd =>
          have hx : some (depOf C.N s fd) = some x := hx
          cases hx
          rfl
  refine sorted_eq (sort_sorted o2) (putL_sorted _ _ s1) fun x => ?_
  have a1 : x ∈ allL B' ↔ lookB B' x.out = some x := (sort_mem o2 x).trans (mem_found hl' hn' x)
  have a2 : x ∈ allL B ↔ lookB B x.out = some x := (sort_mem o1 x).trans (mem_found hl hn x)
  show x ∈ allL B' ↔ _
  have a3 : x ∈ putL (allL B) d ↔ x = d ∨ (x ∈ allL B ∧ x.out ≠ d.out) := putL_mem (allL B) d s1 x
  rw [a3, a1, h]
  by_cases hx : x.out = d.out
  · rw [if_pos hx]
    constructor
    · intro e; exact .inl (Option.some.inj e).symm
    · rintro (rfl | ⟨_, h2⟩)
      · rfl
      · exact absurd hx h2
  · rw [if_neg hx]
    constructor
    · intro e; exact .inr ⟨a2.2 e, hx⟩
    · rintro (rfl | ⟨h1, _⟩)
      · exact absurd rfl hx
      · exact a2.1 h1

theorem takeN_all {B : Bo} (hB : OkB B) (hn : B.N.Nodup) {l : List Nat} {B' : Bo} (h : takeN B l = some B') : B'.N = B.N ++ [Pk.str (Pk.txS l)] ∧ allL B' = allL B ∧ OkB B' ∧ B'.N.Nodup := by
  unfold takeN at h
  split at h
  · rename_i hc
    cases h
    have hnew : (B.N ++ [Pk.str (Pk.txS l)]).Nodup := by
      have := withL_nodup hn (Pk.str (Pk.txS l))
      unfold withL at this
      rw [hc.2.2] at this
      exact this
    have hok : OkB ⟨B.N ++ [Pk.str (Pk.txS l)], B.F ++ [Option.none]⟩ := ⟨by simp [hB.len], fun i fd hi n hm => by
      rcases Nat.lt_or_ge i B.F.length with h1 | h1
      · have hi : (B.F ++ [Option.none])[i]? = some (some fd) := hi
        rw [List.getElem?_append_left h1] at hi
        have := hB.nums i fd hi n hm
        show n < (B.N ++ [Pk.str (Pk.txS l)]).length
        simp
        omega
      · have hi : (B.F ++ [Option.none])[i]? = some (some fd) := hi
        rw [List.getElem?_append_right h1] at hi
        cases e : i - B.F.length with
        | zero => rw [e] at hi; simp at hi
        | succ k => rw [e] at hi; simp at hi⟩
    refine ⟨rfl, ?_, hok, hnew⟩
    have key : foundL ⟨B.N ++ [Pk.str (Pk.txS l)], B.F ++ [Option.none]⟩ (B.F ++ [Option.none]).length = foundL B B.F.length := by
      rw [List.length_append, List.length_singleton, foundL_succ]
      have h0 : foundAt ⟨B.N ++ [Pk.str (Pk.txS l)], B.F ++ [Option.none]⟩ B.F.length = Option.none := by
        unfold foundAt
        show ((B.N ++ [Pk.str (Pk.txS l)])[B.F.length]?).bind (fun nm => ((B.F ++ [Option.none])[B.F.length]?).bind _) = _
        rw [List.getElem?_append_right (by rw [hB.len]; omega), List.getElem?_append_right (Nat.le_refl _), Nat.sub_self]
        cases ([Pk.str (Pk.txS l)] : List ByteArray)[B.F.length - B.N.length]? <;> rfl
      rw [h0]
      have : ∀ j, j ≤ B.F.length → foundL ⟨B.N ++ [Pk.str (Pk.txS l)], B.F ++ [Option.none]⟩ j = foundL B j := by
        intro j
        induction j with
        | zero => intro _; rfl
        | succ j ih =>
          intro hj
          rw [foundL_succ, foundL_succ, ih (by omega)]
          congr 2
          unfold foundAt
          show ((B.N ++ [Pk.str (Pk.txS l)])[j]?).bind (fun nm => ((B.F ++ [Option.none])[j]?).bind fun o => o.map fun fd => depOf (B.N ++ [Pk.str (Pk.txS l)]) nm fd) = _
          rw [List.getElem?_append_left (by have := hB.len; omega), List.getElem?_append_left (by omega)]
          cases e1 : B.N[j]? with
          | none => rfl
          | some nm =>
            cases e2 : B.F[j]? with
            | none => rfl
            | some o =>
              cases o with
              | none => rfl
              | some fd =>
                show some (depOf (B.N ++ [Pk.str (Pk.txS l)]) nm fd) = some (depOf B.N nm fd)
                congr 1
                unfold depOf
                congr 1
                refine List.map_congr_left fun n hm => ?_
                have := hB.nums j fd e2 n hm
                unfold nameAt
                simp [List.getD, List.getElem?_append_left this]
      rw [this _ (Nat.le_refl _)]
      simp
    unfold allL
    show sortD (foundL _ (B.F ++ [Option.none]).length) = _
    rw [key]
  · cases h

theorem takeO_all {B : Bo} (hB : OkB B) (hn : B.N.Nodup) {l : List Nat} {B' : Bo} (h : takeO B l = some B') : B'.N = B.N ∧ allL B' = putL (allL B) ⟨nameAt B.N (oOut l), (oTime l : Int), (nums (oMany l) (oRest l)).map (nameAt B.N)⟩ ∧ OkB B' ∧ B'.N.Nodup := by
  unfold takeO at h
  split at h
  · rename_i hc
    cases h
    unfold fitsO at hc
    simp only [Bool.and_eq_true, decide_eq_true_eq, List.all_eq_true] at hc
    obtain ⟨⟨⟨⟨_, _⟩, _⟩, hi⟩, hnum⟩ := hc
    have hil : oOut l < B.F.length := by rw [hB.len]; exact hi
    have hok : OkB ⟨B.N, B.F.set (oOut l) (some ⟨oTime l, nums (oMany l) (oRest l)⟩)⟩ := ⟨by simp [hB.len], fun i fd hf n hm => by
      have hf : (B.F.set (oOut l) (some ⟨oTime l, nums (oMany l) (oRest l)⟩))[i]? = some (some fd) := hf
      rw [List.getElem?_set] at hf
      split at hf
      · first
          | (cases hf; exact hnum n hm)
          | (split at hf; · cases hf; exact hnum n hm; · cases hf)
      · exact hB.nums i fd hf n hm⟩
    refine ⟨rfl, ?_, hok, hn⟩
    have hnm : B.N[oOut l]? = some (nameAt B.N (oOut l)) := by unfold nameAt; rw [List.getD_eq_getElem?_getD, List.getElem?_eq_getElem hi]; rfl
    have hix := ixOf_nodup hn hnm
    refine sets_found hB.len hn hok.len hn fun s => ?_
    unfold lookB
    show (ixOf B.N s).bind _ = _
    by_cases hs : s = nameAt B.N (oOut l)
    · rw [if_pos hs, hs, hix, Option.bind_some]
      show ((B.F.set (oOut l) _)[oOut l]?).bind _ = _
      rw [List.getElem?_set_self hil]
      rfl
    · rw [if_neg hs]
      cases e : ixOf B.N s with
      | none => rfl
      | some i =>
        rw [Option.bind_some, Option.bind_some]
        have hne : oOut l ≠ i := fun e2 => by
          subst e2
          have := ixOf_get e
          rw [hnm] at this
          exact hs (Option.some.inj this).symm
        show ((B.F.set (oOut l) _)[i]?).bind _ = _
        rw [List.getElem?_set_ne hne]
  · cases h
end Go.Proofs.Ytofdnbddpageoaa.Nm

/-! THE DOCUMENT's BOOK IN MEMORY; At. -/
namespace Go.Proofs.Ytofdnbddpageoaa.Nm
open Go.RowKit Go.Maps

/-- a row of texts, in a block of P -/
def StrAt (P : Nat → Prop) (w : World) (v : Value) (l : List ByteArray) : Prop :=
  ∃ a c, v = .slice a l.length c ∧ l.length ≤ c ∧ (l = [] ∨ ∃ b off, a = some ⟨b, off, Option.none⟩ ∧ P b ∧ b < w.heap.size ∧ ∀ i x, l[i]? = some x → w.cell? ⟨b, off + i, Option.none⟩ = some (.string x))
section
variable {P P' : Nat → Prop} {w w' : World} {v : Value} {l : List ByteArray}
theorem StrAt.keep (h : StrAt P w v l) (hb : ∀ k, P k → k < w.heap.size → w'.heap[k]? = w.heap[k]?) (hs : w.heap.size ≤ w'.heap.size) : StrAt P w' v l := by
  obtain ⟨a, c, e, h1, h2⟩ := h
  exact ⟨a, c, e, h1, h2.imp id fun ⟨b, off, e, hp, hl, hc⟩ => ⟨b, off, e, hp, Nat.lt_of_lt_of_le hl hs, fun i x hi => (cell_of_block (hb b hp hl)).trans (hc i x hi)⟩⟩
theorem StrAt.wide (h : StrAt P w v l) (hp : ∀ k, P k → k < w.heap.size → P' k) : StrAt P' w v l := by
  obtain ⟨a, c, e, h1, h2⟩ := h
  exact ⟨a, c, e, h1, h2.imp id fun ⟨b, off, e, hp', hl, hc⟩ => ⟨b, off, e, hp b hp' hl, hl, hc⟩⟩
theorem StrAt.row (h : StrAt P w v l) : StrRow w v l := by
  obtain ⟨a, c, e, h1, h2⟩ := h
  exact ⟨a, c, e, h1, h2.imp id fun ⟨b, off, e, _, hl, hc⟩ => ⟨b, off, e, hl, hc⟩⟩
end

/-- where the texts of what was found may lie -/
def ElP (S : Nat → Prop) (p : Nat) (vN vL : Value) (k : Nat) : Prop := S k ∧ k ≠ p ∧ vN.ownBlock ≠ some k ∧ vL.ownBlock ≠ some k

/-- the document's book at p; all its blocks are of S -/
structure Rb (S : Nat → Prop) (w : World) (p : Nat) (N : List ByteArray) (L : List Dp) (vN vL : Value) (G : List Gd) : Prop where
  box : w.heap[p]? = some (.cells #[vN, vL] 30 (0, 0))
  inS : S p
  names : w.ownsRow 0 9 1 vN N.length (strV N)
  namesS : ∀ k, vN.ownBlock = some k → S k
  found : w.ownsRow 0 42 3 vL G.length (depV G)
  foundS : ∀ k, vL.ownBlock = some k → S k
  els : ∀ g ∈ G, StrAt (ElP S p vN vL) w g.v g.1.deps
  eq : G.map (·.1) = L
  few : N.length ≤ 1000000
  fewL : L.length ≤ 900000

section
variable {S S' : Nat → Prop} {w w' : World} {p : Nat} {N : List ByteArray} {L : List Dp} {vN vL : Value} {G : List Gd}
theorem Rb.len (h : Rb S w p N L vN vL G) : G.length = L.length := by rw [← h.eq, List.length_map]
theorem Rb.keep (h : Rb S w p N L vN vL G) (hb : ∀ k, S k → k < w.heap.size → w'.heap[k]? = w.heap[k]?) (hs : w.heap.size ≤ w'.heap.size) : Rb S w' p N L vN vL G where
  box := (hb _ h.inS (lt_some h.box)).trans h.box
  inS := h.inS
  names := owns_kept h.names fun g hg => hb g (h.namesS g hg) (h.names.lt g hg).2
  namesS := h.namesS
  found := owns_kept h.found fun g hg => hb g (h.foundS g hg) (h.found.lt g hg).2
  foundS := h.foundS
  els := fun g hg => (h.els g hg).keep (fun k hk hl => hb k hk.1 hl) hs
  eq := h.eq
  few := h.few
  fewL := h.fewL
theorem Rb.below (h : Rb S w p N L vN vL G) (hb : Below w.heap.size w w') : Rb S w' p N L vN vL G := h.keep (fun k _ hk => hb.block k hk) hb.size
theorem Rb.wide (h : Rb S w p N L vN vL G) (hs : ∀ k, S k → S' k) : Rb S' w p N L vN vL G where
  box := h.box
  inS := hs _ h.inS
  names := h.names
  namesS := fun k hk => hs _ (h.namesS k hk)
  found := h.found
  foundS := fun k hk => hs _ (h.foundS k hk)
  els := fun g hg => (h.els g hg).wide fun k hk _ => ⟨hs _ hk.1, hk.2⟩
  eq := h.eq
  few := h.few
  fewL := h.fewL
theorem Rb.cells (h : Rb S w p N L vN vL G) : w.cell? ⟨p, 0, Option.none⟩ = some vN ∧ w.cell? ⟨p, 1, Option.none⟩ = some vL ∧ w.frozen? ⟨p, 0, Option.none⟩ = false ∧ w.frozen? ⟨p, 1, Option.none⟩ = false := by
  simp [World.cell?, World.frozen?, h.box]
end

/-- an empty book of the document's -/
theorem rb_new (w : World) : Rb (fun k => k = w.heap.size) (w.alloc (.cells #[.slice Option.none 0 0, .slice Option.none 0 0] 30)) w.heap.size [] [] (.slice Option.none 0 0) (.slice Option.none 0 0) [] where
  box := heap_alloc_new _ _
  inS := rfl
  names := World.ownsRow_nil _ _ _ _
  namesS := fun k hk => by cases hk
  found := World.ownsRow_nil _ _ _ _
  foundS := fun k hk => by cases hk
  els := fun g hg => by simp at hg
  eq := rfl
  few := by simp
  fewL := by simp

/-- where a name is; -1: nowhere -/
def atZ (N : List ByteArray) (s : ByteArray) : Int := match ixOf N s with
  | some i => (i : Int)
  | Option.none => -1

set_option maxRecDepth 100000 in
set_option maxHeartbeats 2000000 in
theorem at_c {w : World} {p : Nat} {N : List ByteArray} {vN vL : Value} {s : ByteArray} (hbox : w.heap[p]? = some (.cells #[vN, vL] 30 (0, 0))) (hrow : StrRow w vN N) (hN : N.length ≤ 1000000) :
    Calls Try.prog 31 #[.pointer (some ⟨p, 0, Option.none⟩), .string s] w fun e w' => e = .returned (.int .i64 (atZ N s)) ∧ w = w' := by
  have c0 : w.cell? ⟨p, 0, Option.none⟩ = some vN := by simp [World.cell?, hbox]
  obtain ⟨a, c, rfl, hc, hr⟩ := hrow
  have HROW := Lib.hid hr
  clear hbox hr
  go_enter Try.func31, Try.ntmps31
  go_wp2_with fail
  go_loopw [5] (fun i wr => ∃ j : Nat, j ≤ N.length ∧ i = .int .i64 j ∧ Hid (ixOf (N.take j) s = Option.none) ∧ w = wr) (fun i _ => N.length - (intOf i).toNat)
  case atStart => exact ⟨0, Nat.zero_le _, rfl, Lib.hid rfl, rfl⟩
  case round =>
    obtain ⟨j, hj, rfl, hT, rfl⟩ := hrel
    by_cases hlt : j < N.length
    · have hx := List.getElem?_eq_getElem hlt
      rcases HROW.out with h | ⟨b, off, rfl, hb, hcell⟩
      · rw [h] at hlt; simp at hlt
      have x0 := hcell j _ hx
      have hsp : N = N.take j ++ (N[j] :: N.drop (j + 1)) := by
        have := (List.take_append_drop j N).symm
        rwa [List.drop_eq_getElem_cons hlt] at this
      generalize N[j] = x at *
      have hi0 : (0 : Int) ≤ (j : Int) := by omega
      have hi1 : (j : Int) < (N.length : Int) := by omega
      by_cases hz : x = s
      · have t0 : (x.toList == s.toList) = true := by rw [hz]; simp
        have HAT : Hid (atZ N s = (j : Int)) := Lib.hid (by
          have : ixOf N s = some j := by
            rw [hsp, ixOf_app, hT.out]
            have h0 : ixOf (x :: N.drop (j + 1)) s = some 0 := by unfold ixOf; simp [List.findIdx?_cons, hz]
            rw [h0]
            simp
            omega
          unfold atZ
          rw [this])
        clear hcell hx hz hsp
        go_wp2_with fail
        go_ret
        exact ⟨by rw [HAT.out]; rfl, rfl⟩
      · have t0 : (x.toList == s.toList) = false := Pk.toList_ne hz
        have HT : Hid (ixOf (N.take (j + 1)) s = Option.none) := Lib.hid (by
          rw [List.take_add_one, hx, Option.toList_some, ixOf_snoc, hT.out, if_neg hz]
          rfl)
        clear hcell hx hz hsp
        go_wp2_with fail
        go_roundw
        case rel => exact ⟨j + 1, by omega, by go_num, HT, by simp⟩
        case measure => simp [intOf]; omega
    · obtain rfl : j = N.length := by omega
      rw [List.take_length] at hT
      go_wp2_with fail
      go_ret
      refine ⟨?_, rfl⟩
      unfold atZ
      rw [hT.out]
      rfl
end Go.Proofs.Ytofdnbddpageoaa.Nm

/-! WHAT IS FOUND, PUT IN ITS PLACE: memory. -/
namespace Go.Proofs.Ytofdnbddpageoaa.Nm
open Go.RowKit Go.Maps

theorem putL_eq {L : List Dp} {d : Dp} {m : Nat} (hlo : ∀ (i : Nat) x, i < m → L[i]? = some x → bsOf x.out < bsOf d.out) {x : Dp} (hx : L[m]? = some x) (he : x.out = d.out) : putL L d = L.set m d := by
  induction L generalizing m with
  | nil => simp at hx
  | cons y l ih =>
    cases m with
    | zero =>
      simp at hx
      subst hx
      unfold putL
      rw [if_neg (by rw [he]; exact List.lt_irrefl _), if_pos he]
      rfl
    | succ m =>
      have h0 := hlo 0 y (by omega) rfl
      unfold putL
      rw [if_pos h0, ih (m := m) (fun i z hi hz => hlo (i + 1) z (by omega) (by simpa using hz)) (by simpa using hx)]
      rfl
theorem putL_ins {L : List Dp} {d : Dp} {m : Nat} (hlo : ∀ (i : Nat) x, i < m → L[i]? = some x → bsOf x.out < bsOf d.out) (hm : m ≤ L.length) (hx : ∀ x, L[m]? = some x → ¬ bsOf x.out < bsOf d.out ∧ x.out ≠ d.out) : putL L d = L.take m ++ [d] ++ L.drop m := by
  induction L generalizing m with
  | nil =>
    have : m = 0 := by simpa using hm
    subst this
    rfl
  | cons y l ih =>
    cases m with
    | zero =>
      obtain ⟨h1, h2⟩ := hx y rfl
      unfold putL
      rw [if_neg h1, if_neg h2]
      rfl
    | succ m =>
      have h0 := hlo 0 y (by omega) rfl
      unfold putL
      rw [if_pos h0, ih (m := m) (fun i z hi hz => hlo (i + 1) z (by omega) (by simpa using hz)) (by simpa using hm) (fun z hz => hx z (by simpa using hz))]
      rfl

theorem infoD7 : (Try.prog.info? 42).map (fun i => (i.zero, i.size, i.bytes)) = some (some (.agg #[.string ⟨#[]⟩, .int .i64 0, .slice Option.none 0 0]), 3, 48) := by kernel_rfl

theorem depV_len (G : List Gd) : (depV G).length = G.length * 3 := by
  induction G with
  | nil => rfl
  | cons z M ih =>
    have e : depV (z :: M) = .string z.1.out :: .int .i64 z.1.time :: z.v :: depV M := rfl
    rw [e]
    simp [ih]
    omega
theorem depV_one (G : List Gd) : ∀ u ∈ depV G, u.oneCell' = true := fun u hu => by
  unfold depV at hu
  obtain ⟨g, _, h⟩ := List.mem_flatMap.1 hu
  simp at h
  rcases h with rfl | rfl | rfl <;> rfl
theorem depV_app (G M : List Gd) : depV (G ++ M) = depV G ++ depV M := by simp [depV]
theorem depV_take (G : List Gd) (m j : Nat) (u : Value) (h : (depV (G.take m))[j]? = some u) : (depV G)[j]? = some u := by
  have : depV G = depV (G.take m) ++ depV (G.drop m) := by rw [← depV_app, List.take_append_drop]
  rw [this, List.getElem?_append_left (List.getElem?_eq_some_iff.1 h).1]
  exact h
theorem depV_drop (G : List Gd) (m j : Nat) (hm : m ≤ G.length) (u : Value) (h : (depV (G.drop m))[j]? = some u) : (depV G)[m * 3 + j]? = some u := by
  have e : depV G = depV (G.take m) ++ depV (G.drop m) := by rw [← depV_app, List.take_append_drop]
  have hl : (depV (G.take m)).length = m * 3 := by rw [depV_len, List.length_take, Nat.min_eq_left hm]
  rw [e, List.getElem?_append_right (by omega), hl, Nat.add_sub_cancel_left]
  exact h

theorem run_appG {w : World} {base n : Nat} {v : Value} {xs : List Value} (hown : w.ownsRow base 42 3 v n xs) {src : Value} {m : Nat} {news : List Value}
    (hsrc : (src = .slice Option.none 0 0 ∧ m = 0 ∧ news = []) ∨ ∃ ad c, src = .slice (some ad) m c ∧ ∀ j u, news[j]? = some u → w.cell? (ad.add j) = some u)
    (hl : news.length = m * 3) (hone : ∀ u ∈ news, u.oneCell' = true) (hb : n + m ≤ 1000000) (hbase : base ≤ w.heap.size) (ty : TypeId) :
    ∃ a' c' w', (Builtin.append_ #[28, 28] ty #[v, src]).run Try.prog w = .ok (.slice a' (n + m) c') w' ∧ w'.ownsRow base 42 3 (.slice a' (n + m) c') (n + m) (xs ++ news) ∧ w.grownBy w' v.ownBlock := by
  obtain ⟨i0, hi, hz0, hz1, hz2⟩ := info_parts infoD7
  rcases hsrc with ⟨rfl, rfl, rfl⟩ | ⟨ad, c, rfl, hc⟩
  · obtain ⟨a, c, rfl⟩ := own_slice hown
    refine ⟨a, c, w, run_append_owned_none (P := Try.prog) w base 28 ty 42 i0 3 Try.underlying28 hi _ _ _ hown, by simpa using hown, ⟨rfl, rfl, rfl, Nat.le_refl _, fun _ _ _ => rfl⟩⟩
  · obtain ⟨v', w', hr, h2, h3, _, _⟩ := run_append_own_at (P := Try.prog) w base 28 ty 42 i0 (.agg #[.string ⟨#[]⟩, .int .i64 0, .slice Option.none 0 0]) 3 48 Try.underlying28 hi hz0 hz1 hz2 rfl (by decide) v n xs hown ad m c news hl hc hone (by unfold maxLen; omega) (by omega) hbase
    obtain ⟨a', c', rfl⟩ := own_slice h2
    exact ⟨a', c', w', hr, h2, h3⟩

/-- a row that one made oneself, behind world wk -/
structure Fr (wk W : World) (v : Value) (G : List Gd) : Prop where
  own : W.ownsRow wk.heap.size 42 3 v G.length (depV G)
  bel : Below wk.heap.size wk W
theorem Fr.keep {wk W W1 : World} {v : Value} {G : List Gd} (h : Fr wk W v G) (hb : Below W.heap.size W W1) : Fr wk W1 v G := ⟨owns_below h.own hb, h.bel.trans (hb.mono h.bel.size)⟩

/-- elements put behind it -/
theorem Fr.app {wk W : World} {v : Value} {G M : List Gd} (h : Fr wk W v G) {src : Value} {m : Nat} (hm : M.length = m)
    (hsrc : (src = .slice Option.none 0 0 ∧ m = 0) ∨ ∃ ad c, src = .slice (some ad) m c ∧ ∀ j u, (depV M)[j]? = some u → W.cell? (ad.add j) = some u) (hb : G.length + m ≤ 1000000) (ty : TypeId) :
    ∃ a' c' w', (Builtin.append_ #[28, 28] ty #[v, src]).run Try.prog W = .ok (.slice a' (G.length + m) c') w' ∧ Fr wk w' (.slice a' (G.length + m) c') (G ++ M) ∧ W.grownBy w' v.ownBlock := by
  obtain ⟨a', c', w', hr, ho, hg⟩ := run_appG (ty := ty) h.own (src := src) (m := m) (news := depV M) (by
    rcases hsrc with ⟨h1, h2⟩ | h3
    · subst h2
      exact .inl ⟨h1, rfl, by rw [List.eq_nil_of_length_eq_zero hm]; rfl⟩
    · exact .inr h3) (by rw [depV_len, hm]) (depV_one M) hb h.bel.size
  refine ⟨a', c', w', hr, ⟨?_, h.bel.trans ⟨hg.os, hg.tape, hg.output, hg.size, fun k hk => hg.block k (by have := h.bel.size; omega) fun e => by have := (h.own.lt k e.symm).1; omega⟩⟩, hg⟩
  rw [depV_app, List.length_append, hm]
  exact ho

/-- the first two appends: in three orders -/
structure Ins (wk W1 : World) (e bd : Nat) (src : Value) (G : List Gd) (d : Dp) (da : Option Addr) (dc : Nat) (m : Nat) (lit : Bool) : Prop where
  ex : ∃ ta tc U, (Builtin.append_ #[28, 28] 28 #[.slice (some ⟨e, 0, Option.none⟩) 0 0, src]).run Try.prog W1 = .ok (.slice ta m tc) U ∧ Below wk.heap.size wk U ∧
    ∃ ra rc W9, (Builtin.append_ #[28, 28] 28 #[.slice ta m tc, .slice (some ⟨if lit then U.heap.size else bd, 0, Option.none⟩) 1 1]).run Try.prog (if lit then U.alloc (.cells #[.string d.out, .int .i64 d.time, .slice da d.deps.length dc] 42) else U) = .ok (.slice ra (m + 1) rc) W9 ∧ Fr wk W9 (.slice ra (m + 1) rc) (G.take m ++ [(d, da, dc)]) ∧ Below wk.heap.size wk (if lit then U.alloc (.cells #[.string d.out, .int .i64 d.time, .slice da d.deps.length dc] 42) else U)

theorem ins_of {wk W1 : World} {e bd : Nat} {src : Value} {G : List Gd} {d : Dp} {da : Option Addr} {dc : Nat} {m : Nat} (lit : Bool) (h : Fr wk W1 (.slice (some ⟨e, 0, Option.none⟩) 0 0) []) (hm : m ≤ G.length) (hG : G.length ≤ 900000)
    (hsrc : (src = .slice Option.none 0 0 ∧ m = 0) ∨ ∃ ad c, src = .slice (some ad) m c ∧ ∀ j u, (depV (G.take m))[j]? = some u → W1.cell? (ad.add j) = some u)
    (hbd : lit = false → bd ≠ e ∧ bd < W1.heap.size ∧ W1.heap[bd]? = some (.cells #[.string d.out, .int .i64 d.time, .slice da d.deps.length dc] 42 (0, 0))) : Ins wk W1 e bd src G d da dc m lit := by
  have hl : (G.take m).length = m := by rw [List.length_take, Nat.min_eq_left hm]
  obtain ⟨ta, tc, U, hr, hF, hg⟩ := h.app (ty := 28) hl hsrc (by simp; omega)
  simp only [List.length_nil, Nat.zero_add, List.nil_append] at hr hF
  refine ⟨ta, tc, U, hr, hF.bel, ?_⟩
  have hdep : depV [(d, da, dc)] = [.string d.out, .int .i64 d.time, .slice da d.deps.length dc] := rfl
  cases lit with
  | true =>
    have hF2 := hF.keep (Pk.below_alloc U (.cells #[.string d.out, .int .i64 d.time, .slice da d.deps.length dc] 42))
    obtain ⟨ra, rc, W9, hr2, hF9, -⟩ := (show Fr wk (U.alloc (.cells #[.string d.out, .int .i64 d.time, .slice da d.deps.length dc] 42)) (.slice ta m tc) (G.take m) from hF2).app (M := [(d, da, dc)]) (m := 1) (ty := 28) (src := .slice (some ⟨U.heap.size, 0, Option.none⟩) 1 1) rfl (.inr ⟨⟨U.heap.size, 0, Option.none⟩, 1, rfl, fun j u hu => by rw [hdep] at hu; exact World.news_of_block (heap_alloc_new U _) j u hu⟩) (by rw [hl]; omega)
    rw [hl] at hr2 hF9
    exact ⟨ra, rc, W9, hr2, hF9, hF2.bel⟩
  | false =>
    obtain ⟨h1, h2, h3⟩ := hbd rfl
    have h4 : U.heap[bd]? = some (.cells #[.string d.out, .int .i64 d.time, .slice da d.deps.length dc] 42 (0, 0)) := (hg.block bd h2 (fun e2 => h1 (Option.some.inj e2))).trans h3
    obtain ⟨ra, rc, W9, hr2, hF9, -⟩ := hF.app (M := [(d, da, dc)]) (m := 1) (ty := 28) (src := .slice (some ⟨bd, 0, Option.none⟩) 1 1) rfl (.inr ⟨⟨bd, 0, Option.none⟩, 1, rfl, fun j u hu => by rw [hdep] at hu; exact World.news_of_block h4 j u hu⟩) (by rw [hl]; omega)
    rw [hl] at hr2 hF9
    exact ⟨ra, rc, W9, hr2, hF9, hF.bel⟩
end Go.Proofs.Ytofdnbddpageoaa.Nm
