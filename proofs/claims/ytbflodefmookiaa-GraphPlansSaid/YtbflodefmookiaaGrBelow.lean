/-
  ROWS OF BOOLS IN A ROW: who stands below whom, as the document holds it.
  WHAT THE LOOPS OF THE DOCUMENT's Below KEEP (pure).
  THE DOCUMENT's Below: who stands below whom.
-/
import Derived.Test.YtbflodefmookiaaGrRefN
import Derived.Deep.RegionHeld3
namespace Go.Proofs.Ytbflodefmookiaa.Gr
open Go.RowKit Go.Maps Go.Proofs.Ytbflodefmookiaa Go.Proofs.Ytbflodefmookiaa.Pr

theorem infoBool : (Try.prog.info? 4).map (fun i => (i.zero, i.size, i.bytes)) = some (some (.bool false), 1, 1) := by kernel_rfl
theorem infoBools : (Try.prog.info? 58).map (fun i => (i.zero, i.size, i.bytes)) = some (some (.slice none 0 0), 1, 24) := by kernel_rfl
theorem run_bools (n : Nat) (hn : n ≤ 1000) (base : Nat) (W : World) (hb : base ≤ W.heap.size) : (Instr.makeSlice 58 (.int .i64 (n : Int)) (.int .i64 (n : Int))).run Try.prog W = .ok (.slice (some ⟨W.heap.size, 0, none⟩) n n) (W.alloc (.cells (madeCells #[.bool false] n) 4)) ∧
    (W.alloc (.cells (madeCells #[.bool false] n) 4)).ownsRow base 4 1 (.slice (some ⟨W.heap.size, 0, none⟩) n n) n (List.replicate n (.bool false)) := by
  obtain ⟨i0, hi, hz0, hz1, hz2⟩ := info_parts infoBool
  have hm := run_make (P := Try.prog) W 58 4 i0 (.bool false) Try.underlying58 hi hz0 .i64 .i64 (n : Int) (n : Int) (by omega) (by omega) (by rw [hz2]; omega) (by omega)
  rw [Int.toNat_natCast, hz1, Nat.mul_one] at hm
  refine ⟨hm, ?_⟩
  have h1 := World.ownsRow_lit (base := base) (e := 4) (size := 1) W (madeCells #[.bool false] n) n hb (by unfold maxLen; omega) (by rw [← Array.length_toList, toList_madeCells_one]; simp)
  rw [toList_madeCells_one] at h1
  exact h1
theorem run_boolss (n : Nat) (hn : n ≤ 1000) (base : Nat) (W : World) (hb : base ≤ W.heap.size) : (Instr.makeSlice 74 (.int .i64 (n : Int)) (.int .i64 (n : Int))).run Try.prog W = .ok (.slice (some ⟨W.heap.size, 0, none⟩) n n) (W.alloc (.cells (madeCells #[.slice none 0 0] n) 58)) ∧
    (W.alloc (.cells (madeCells #[.slice none 0 0] n) 58)).ownsRow base 58 1 (.slice (some ⟨W.heap.size, 0, none⟩) n n) n (List.replicate n (.slice none 0 0)) := by
  obtain ⟨i0, hi, hz0, hz1, hz2⟩ := info_parts infoBools
  have hm := run_make (P := Try.prog) W 74 58 i0 (.slice none 0 0) Try.underlying74 hi hz0 .i64 .i64 (n : Int) (n : Int) (by omega) (by omega) (by rw [hz2]; omega) (by omega)
  rw [Int.toNat_natCast, hz1, Nat.mul_one] at hm
  refine ⟨hm, ?_⟩
  have h1 := World.ownsRow_lit (base := base) (e := 58) (size := 1) W (madeCells #[.slice none 0 0] n) n hb (by unfold maxLen; omega) (by rw [← Array.length_toList, toList_madeCells_one]; simp)
  rw [toList_madeCells_one] at h1
  exact h1

def bV (B : Nat → Nat → Bool) (n i : Nat) : List Value := (List.range n).map fun j => .bool (B i j)
def oV (r : Nat → Nat) (n t : Nat) : List Value := (List.range n).map fun i => if i < t then .slice (some ⟨r i, 0, none⟩) n n else .slice none 0 0
def setB (B : Nat → Nat → Bool) (i j : Nat) : Nat → Nat → Bool := fun a b => if a = i ∧ b = j then true else B a b
theorem bV_len (B : Nat → Nat → Bool) (n i : Nat) : (bV B n i).length = n := by simp [bV]
theorem oV_len (r : Nat → Nat) (n t : Nat) : (oV r n t).length = n := by simp [oV]
theorem bV_at {B : Nat → Nat → Bool} {n i j : Nat} (h : j < n) : (bV B n i)[j]? = some (.bool (B i j)) := by simp [bV, h]
theorem oV_at {r : Nat → Nat} {n t i : Nat} (h : i < n) (ht : i < t) : (oV r n t)[i]? = some (.slice (some ⟨r i, 0, none⟩) n n) := by simp [oV, h, ht]
theorem bV_set {B : Nat → Nat → Bool} {n i j : Nat} : (bV B n i).set j (.bool true) = bV (setB B i j) n i := by
  refine List.ext_getElem? fun k => ?_
  by_cases hk : k < n
  · rw [bV_at hk, List.getElem?_set]
    by_cases e : j = k
    · subst e
      simp [bV_len, hk, setB]
    · rw [if_neg e, bV_at hk]
      have : ¬ (i = i ∧ k = j) := fun h => e h.2.symm
      rw [setB, if_neg this]
  · rw [List.getElem?_eq_none (by rw [List.length_set, bV_len]; omega), List.getElem?_eq_none (by rw [bV_len]; omega)]
theorem bV_other {B : Nat → Nat → Bool} {n i j k : Nat} (h : k ≠ i) : bV (setB B i j) n k = bV B n k := by
  unfold bV
  refine List.map_congr_left fun x _ => ?_
  rw [setB, if_neg fun e => h e.1]
theorem oV_set {r : Nat → Nat} {n t q : Nat} : (oV r n t).set t (.slice (some ⟨q, 0, none⟩) n n) = oV (fun i => if i = t then q else r i) n (t + 1) := by
  refine List.ext_getElem? fun k => ?_
  by_cases hk : k < n
  · rw [List.getElem?_set]
    by_cases e : t = k
    · subst e
      simp [oV, hk]
    · rw [if_neg e]
      have e2 : ¬ k = t := fun h => e h.symm
      by_cases h2 : k < t
      · have h3 : k < t + 1 := by omega
        simp [oV, hk, h2, h3, e2]
      · have h3 : ¬ k < t + 1 := by omega
        simp [oV, hk, h2, h3]
  · rw [List.getElem?_eq_none (by rw [List.length_set, oV_len]; omega), List.getElem?_eq_none (by rw [oV_len]; omega)]

/-- the first t rows are made -/
structure Mx (w W : World) (bb : Nat) (C : Array Value) (ty : TypeId) (g n t : Nat) (r : Nat → Nat) (B : Nat → Nat → Bool) : Prop where
  out : W.ownsRow w.heap.size 58 1 (.slice (some ⟨g, 0, none⟩) n n) n (oV r n t)
  row : ∀ i, i < t → W.ownsRow w.heap.size 4 1 (.slice (some ⟨r i, 0, none⟩) n n) n (bV B n i)
  inj : ∀ i j, i < t → j < t → r i = r j → i = j
  le : t ≤ n
  bx : W.heap[bb]? = some (.cells C ty (0, 0))
  bel : Below w.heap.size w W
section
variable {w W W' : World} {bb g n t i j : Nat} {C : Array Value} {ty : TypeId} {r : Nat → Nat} {B : Nat → Nat → Bool}
theorem Mx.below (h : Mx w W bb C ty g n t r B) (hb : Below W.heap.size W W') : Mx w W' bb C ty g n t r B :=
  ⟨owns_below h.out hb, fun i hi => owns_below (h.row i hi) hb, h.inj, h.le, (hb.block _ (lt_some h.bx)).trans h.bx, h.bel.trans (hb.mono h.bel.size)⟩
theorem Mx.rblk (h : Mx w W bb C ty g n t r B) (hi : i < t) : w.heap.size ≤ r i ∧ ∃ D, W.heap[r i]? = some (.cells D 4 (0, 0)) := owns_block (h.row i hi) rfl
theorem Mx.gblk (h : Mx w W bb C ty g n t r B) : w.heap.size ≤ g ∧ ∃ D, W.heap[g]? = some (.cells D 58 (0, 0)) := owns_block h.out rfl
theorem Mx.cell0 (h : Mx w W bb C ty g n t r B) (hi : i < t) : W.cell? ⟨g, i, none⟩ = some (.slice (some ⟨r i, 0, none⟩) n n) := by
  have := h.le
  exact (h.out.cellAt i (by omega)).trans (oV_at (by omega) hi)
theorem Mx.cell1 (h : Mx w W bb C ty g n t r B) (hi : i < t) (hj : j < n) : W.cell? ⟨r i, j, none⟩ = some (.bool (B i j)) :=
  ((h.row i hi).cellAt j (by omega)).trans (bV_at hj)
theorem Mx.frz1 (h : Mx w W bb C ty g n t r B) (hi : i < t) : W.frozen? ⟨r i, j, none⟩ = false := (h.row i hi).frozenAt j
theorem Mx.frz0 (h : Mx w W bb C ty g n t r B) : W.frozen? ⟨g, j, none⟩ = false := h.out.frozenAt j
theorem keepT_setCell {b j : Nat} {v : Value} {D : Array Value} {t : TypeId} (ht : t ≠ 9) (h : W.heap[b]? = some (.cells D t (0, 0))) : KeepT W (W.setCell ⟨b, j, none⟩ v) := fun g C x hc => by
  rw [Below.heap_setCell]
  intro e
  have e : g = b := e
  subst e
  rw [h] at hc
  cases hc
  exact ht rfl
theorem Mx.set (h : Mx w W bb C ty g n t r B) (hty : ty ≠ 4) (hi : i < t) : Mx w (W.setCell ⟨r i, j, none⟩ (.bool true)) bb C ty g n t r (setB B i j) ∧ KeepT W (W.setCell ⟨r i, j, none⟩ (.bool true)) := by
  obtain ⟨hge, D, hD⟩ := h.rblk hi
  obtain ⟨_, D2, hG⟩ := h.gblk
  obtain ⟨h1, h2⟩ := (h.row i hi).stored j (.bool true)
  rw [bV_set] at h1
  have hne : ∀ q, q ≠ r i → (W.setCell ⟨r i, j, none⟩ (.bool true)).heap[q]? = W.heap[q]? := fun q hq => Below.heap_setCell W _ _ q hq
  refine ⟨⟨owns_kept h.out fun q hq => hne q ?_, fun k hk => ?_, h.inj, h.le, (hne bb ?_).trans h.bx, h.bel.setCell hge _⟩, keepT_setCell (by decide) hD⟩
  · cases hq
    rintro rfl
    rw [hG] at hD
    cases hD
  · by_cases e : k = i
    · subst e; exact h1
    · rw [bV_other e]
      exact owns_kept (h.row k hk) fun q hq => hne q fun e2 => by
        cases hq
        exact e (h.inj k i hk hi e2)
  · rintro rfl
    rw [h.bx] at hD
    cases hD
    exact hty rfl
/-- one row more -/
theorem Mx.add (h : Mx w W bb C ty g n t r B) (hty : ty ≠ 58) (hn : n ≤ 1000) (ht : t < n) :
    (Instr.makeSlice 58 (.int .i64 (n : Int)) (.int .i64 (n : Int))).run Try.prog W = .ok (.slice (some ⟨W.heap.size, 0, none⟩) n n) (W.alloc (.cells (madeCells #[.bool false] n) 4)) ∧
    (∃ u, (W.alloc (.cells (madeCells #[.bool false] n) 4)).cell? ⟨g, t, none⟩ = some u) ∧ (W.alloc (.cells (madeCells #[.bool false] n) 4)).frozen? ⟨g, t, none⟩ = false ∧
    Mx w ((W.alloc (.cells (madeCells #[.bool false] n) 4)).setCell ⟨g, t, none⟩ (.slice (some ⟨W.heap.size, 0, none⟩) n n)) bb C ty g n (t + 1) (fun i => if i = t then W.heap.size else r i) (fun a b => if a = t then false else B a b) := by
  obtain ⟨hrun, hrow⟩ := run_bools n hn w.heap.size W h.bel.size
  have hA := below_alloc W (.cells (madeCells #[.bool false] n) 4)
  have hM := h.below hA
  have hnew := heap_alloc_new W (.cells (madeCells #[.bool false] n) 4)
  obtain ⟨W1, hW1⟩ : ∃ W1, W.alloc (.cells (madeCells #[.bool false] n) 4) = W1 := ⟨_, rfl⟩
  rw [hW1] at hrun hrow hM hA hnew ⊢
  obtain ⟨hge, D2, hG⟩ := hM.gblk
  obtain ⟨h1, h2⟩ := hM.out.stored t (.slice (some ⟨W.heap.size, 0, none⟩) n n)
  rw [oV_set] at h1
  have hne : ∀ q, q ≠ g → (W1.setCell ⟨g, t, none⟩ (.slice (some ⟨W.heap.size, 0, none⟩) n n)).heap[q]? = W1.heap[q]? := fun q hq => Below.heap_setCell W1 _ _ q hq
  have hlt : ∀ i, i < t → r i < W.heap.size := fun i hi => by
    obtain ⟨_, D, hD⟩ := h.rblk hi
    exact lt_some hD
  have hgne : ∀ q D, W1.heap[q]? = some (.cells D 4 (0, 0)) → q ≠ g := fun q D hD e => by
    rw [e, hG] at hD
    cases hD
  refine ⟨hrun, ⟨_, (hM.out.cellAt t (by omega)).trans (by simp [oV, ht]; rfl)⟩, hM.frz0, ⟨h1, fun k hk => ?_, fun a b ha hb e => ?_, by omega, (hne bb ?_).trans hM.bx, hM.bel.setCell hge _⟩⟩
  · by_cases e : k = t
    · subst e
      have hb : bV (fun a b => if a = k then false else B a b) n k = List.replicate n (.bool false) := by
        unfold bV
        simp [List.map_const']
      rw [hb]
      simp only [if_true]
      exact owns_kept hrow fun q hq => hne q (by cases hq; exact hgne _ _ hnew)
    · have hkt : k < t := by omega
      have hb : bV (fun a b => if a = t then false else B a b) n k = bV B n k := by
        unfold bV
        refine List.map_congr_left fun x _ => ?_
        simp only [if_neg e]
      rw [hb]
      simp only [if_neg e]
      obtain ⟨_, D, hD⟩ := hM.rblk hkt
      exact owns_kept (hM.row k hkt) fun q hq => hne q (by cases hq; exact hgne _ _ hD)
  · by_cases e1 : a = t
    · by_cases e2 : b = t
      · omega
      · have := hlt b (by omega)
        simp only [e1, if_true, if_neg e2] at e
        omega
    · by_cases e2 : b = t
      · have := hlt a (by omega)
        simp only [e2, if_true, if_neg e1] at e
        omega
      · simp only [if_neg e1, if_neg e2] at e
        exact h.inj a b (by omega) (by omega) e
  · rintro rfl
    rw [hM.bx] at hG
    cases hG
    exact hty rfl
end
end Go.Proofs.Ytbflodefmookiaa.Gr
namespace Go.Proofs.Ytbflodefmookiaa.Gr
open Go.Proofs.Ytbflodefmookiaa Go.Proofs.Ytbflodefmookiaa.Pr
section
variable {deps : Nat → List Nat} {n k i j t : Nat} {B : Nat → Nat → Bool} {mkr : Bs → Option Nat} {K : List Bs}
/-- the first t rows are as the edges tell -/
def Wl (deps : Nat → List Nat) (t : Nat) (B : Nat → Nat → Bool) : Prop := ∀ a b, a < t → (B a b = true ↔ b ∈ deps a)
/-- and of the next one the first m needs are told -/
structure Wm (deps : Nat → List Nat) (mkr : Bs → Option Nat) (t : Nat) (K : List Bs) (m : Nat) (B : Nat → Nat → Bool) : Prop where
  old : ∀ a b, a < t → (B a b = true ↔ b ∈ deps a)
  now : ∀ b, B t b = true ↔ ∃ s ∈ K.take m, mkr s = some b
theorem Wm.start (h : Wl deps t B) : Wm deps mkr t K 0 (fun a b => if a = t then false else B a b) :=
  ⟨fun a b ha => by
    have e : ¬ a = t := by omega
    simp only [if_neg e]
    exact h a b ha, fun b => by simp⟩
theorem Wm.skip {s : Bs} {m : Nat} (h : Wm deps mkr t K m B) (hs : K[m]? = some s) (hm : mkr s = none) : Wm deps mkr t K (m + 1) B :=
  ⟨h.old, fun b => by
    rw [h.now, List.take_add_one, hs]
    constructor
    · rintro ⟨x, hx, e⟩
      exact ⟨x, List.mem_append.2 (.inl hx), e⟩
    · rintro ⟨x, hx, e⟩
      rcases List.mem_append.1 hx with hx | hx
      · exact ⟨x, hx, e⟩
      · simp at hx
        subst hx
        rw [hm] at e
        cases e⟩
theorem Wm.put {s : Bs} {m d : Nat} (h : Wm deps mkr t K m B) (hs : K[m]? = some s) (hm : mkr s = some d) : Wm deps mkr t K (m + 1) (setB B t d) :=
  ⟨fun a b ha => by
    have e : ¬ (a = t ∧ b = d) := fun h => by omega
    unfold setB
    rw [if_neg e]
    exact h.old a b ha, fun b => by
    rw [List.take_add_one, hs]
    unfold setB
    by_cases e : b = d
    · subst e
      simp only [and_self, if_true, true_iff]
      exact ⟨s, by simp, hm⟩
    · have e2 : ¬ (t = t ∧ b = d) := fun h => e h.2
      rw [if_neg e2, h.now]
      constructor
      · rintro ⟨x, hx, e⟩
        exact ⟨x, List.mem_append.2 (.inl hx), e⟩
      · rintro ⟨x, hx, e3⟩
        rcases List.mem_append.1 hx with hx | hx
        · exact ⟨x, hx, e3⟩
        · simp at hx
          subst hx
          rw [hm] at e3
          cases e3
          exact absurd rfl e⟩
theorem Wm.fin {L : List Ed} {x : Ed} (h : Wm (depsL mkr L) mkr t (needsL x) (needsL x).length B) (hx : L[t]? = some x) : Wl (depsL mkr L) (t + 1) B := fun a b ha => by
  by_cases e : a = t
  · subst e
    rw [h.now, List.take_length]
    unfold depsL
    rw [hx]
    exact List.mem_filterMap.symm
  · exact h.old a b (by omega)

structure Wq (deps : Nat → List Nat) (n k i j : Nat) (B : Nat → Nat → Bool) : Prop where
  snd : ∀ a b, a < n → b < n → B a b = true → Tc deps a b
  bas : ∀ a b, a < n → b < n → Pk deps k a b → B a b = true
  nxt : ∀ a b, a < n → b < n → (a < i ∨ (a = i ∧ b < j)) → Pk deps (k + 1) a b → B a b = true
theorem Wq.start (h : Wl deps n B) : Wq deps n 0 0 0 B :=
  ⟨fun a b ha _ hb => .one ((h a b ha).1 hb), fun a b ha _ hp => (h a b ha).2 hp, fun a b _ _ h => by omega⟩
theorem Wq.put (h : Wq deps n k i j B) (hk : k < n) (hi : i < n) (hj : j < n) (h1 : B i k = true) (h2 : B k j = true) : Wq deps n k i (j + 1) (setB B i j) := by
  have hset : ∀ a b, B a b = true → setB B i j a b = true := fun a b h => by
    unfold setB
    split
    · rfl
    · exact h
  refine ⟨fun a b ha hb hh => ?_, fun a b ha hb hp => hset a b (h.bas a b ha hb hp), fun a b ha hb hab hp => ?_⟩
  · unfold setB at hh
    split at hh
    · rename_i e
      obtain ⟨rfl, rfl⟩ := e
      exact (h.snd a k hi hk h1).trans (h.snd k b hk hj h2)
    · exact h.snd a b ha hb hh
  · by_cases e : a = i ∧ b = j
    · unfold setB
      rw [if_pos e]
    · exact hset a b (h.nxt a b ha hb (by omega) hp)
theorem Wq.skip (h : Wq deps n k i j B) (hk : k < n) (hn : (B i k && B k j) = false) : Wq deps n k i (j + 1) B := by
  refine ⟨h.snd, h.bas, fun a b ha hb hab hp => ?_⟩
  by_cases e : a = i ∧ b = j
  · obtain ⟨rfl, rfl⟩ := e
    rcases hp with hp | ⟨h1, h2⟩
    · exact h.bas a b ha hb hp
    · rw [h.bas a k ha hk h1, h.bas k b hk hb h2] at hn
      cases hn
  · exact h.nxt a b ha hb (by omega) hp
theorem Wq.line (h : Wq deps n k i n B) : Wq deps n k (i + 1) 0 B := ⟨h.snd, h.bas, fun a b ha hb hab hp => h.nxt a b ha hb (by omega) hp⟩
theorem Wq.phase (h : Wq deps n k n 0 B) : Wq deps n (k + 1) 0 0 B := ⟨h.snd, fun a b ha hb hp => h.nxt a b ha hb (by omega) hp, fun a b _ _ h => by omega⟩
theorem Wq.fin (h : Wq deps n n 0 0 B) (hl : ∀ i, ∀ j ∈ deps i, j < n) (a b : Nat) (ha : a < n) (hb : b < n) : B a b = true ↔ Tc deps a b := ⟨h.snd a b ha hb, fun ht => h.bas a b ha hb (Pk.complete hl ht)⟩
end
end Go.Proofs.Ytbflodefmookiaa.Gr
namespace Go.Proofs.Ytbflodefmookiaa.Gr
open Go.RowKit Go.Maps Go.Proofs.Ytbflodefmookiaa Go.Proofs.Ytbflodefmookiaa.Pr

set_option maxRecDepth 100000 in
set_option maxHeartbeats 32000000 in
theorem belowR_c {w : World} {u0 u1 : Value} {L : List Ed} {mkr : Bs → Option Nat} (hL : Eds w u0 L) (hm : makers L = some mkr) (hs : ∀ e ∈ L, Sm e) (hl : L.length ≤ 1000) :
    Calls Try.prog 39 #[.agg #[u0, u1]] w fun e w' => ∃ (g bb : Nat) (C : Array Value) (ty : TypeId) (r : Nat → Nat) (B : Nat → Nat → Bool), e = .returned (.slice (some ⟨g, 0, none⟩) L.length L.length) ∧
      Mx w w' bb C ty g L.length L.length r B ∧ ty ≠ 4 ∧ ∀ a b, a < L.length → b < L.length → (B a b = true ↔ Tc (depsL mkr L) a b) := by
  have hA := below_alloc w (.cells #[u0, u1] 25)
  have hb := heap_alloc_new w (.cells #[u0, u1] 25)
  obtain ⟨wB, hwB⟩ : ∃ wB, w.alloc (.cells #[u0, u1] 25) = wB := ⟨_, rfl⟩
  rw [hwB] at hA hb
  obtain ⟨a0, k0, rfl, -, -⟩ := id hL
  have c0 : wB.cell? ⟨w.heap.size, 0, none⟩ = some (.slice a0 L.length k0) := by rw [Lib.cell_of_heap hb]; rfl
  obtain ⟨hmk, hown⟩ := run_boolss L.length hl w.heap.size wB hA.size
  have hA1 := below_alloc wB (.cells (madeCells #[.slice none 0 0] L.length) 58)
  have hM0 : ∀ r B, Mx w (wB.alloc (.cells (madeCells #[.slice none 0 0] L.length) 58)) w.heap.size #[.slice a0 L.length k0, u1] 25 wB.heap.size L.length 0 r B := fun r B =>
    ⟨by
      have e : oV r L.length 0 = List.replicate L.length (.slice none 0 0) := by
        unfold oV
        simp [List.map_const']
      rw [e]
      exact hown, fun i hi => by omega, fun i j hi => by omega, Nat.zero_le _, (hA1.block _ (lt_some hb)).trans hb, hA.trans (hA1.mono hA.size)⟩
  have HM0 := Lib.hid (hM0 (fun _ => 0) (fun _ _ => false))
  have HL := Lib.hid hL
  have HMK := Lib.hid hm
  have HS := Lib.hid hs
  have HWB := Lib.hid hwB
  obtain ⟨n, hn⟩ : ∃ n, L.length = n := ⟨_, rfl⟩
  have HN := Lib.hid hn
  have HDL : Hid (∀ i, ∀ j ∈ depsL mkr L i, j < n) := Lib.hid (hn ▸ deps_lt hm)
  rw [hn] at hmk c0 HM0 hl HWB ⊢
  obtain ⟨bb, hbb⟩ : ∃ bb, w.heap.size = bb := ⟨_, rfl⟩
  rw [hbb] at HM0 c0
  obtain ⟨g, hg⟩ : ∃ g, wB.heap.size = g := ⟨_, rfl⟩
  rw [hg] at HM0 hmk
  clear hA hb hwB hown hA1 hM0 hL hm hs hn
  go_enter Try.func39, Try.ntmps39
  go_upto_region 1 with fail
  rw [HWB.out]
  clear HWB
  go_wp2_with fail
  obtain ⟨W1, hW1⟩ : ∃ W1, wB.alloc (.cells (madeCells #[.slice none 0 0] n) 58) = W1 := ⟨_, rfl⟩
  rw [hW1] at HM0 ⊢
  clear hmk hW1 c0
  go_loopw [5, 6, 7, 8] (fun i _ _ _ W => ∃ (t : Nat) (r : Nat → Nat) (B : Nat → Nat → Bool), t ≤ n ∧ i = .int .i64 t ∧ Hid (Mx w W bb #[.slice a0 n k0, u1] 25 g n t r B) ∧ Hid (Wl (depsL mkr L) t B)) (fun i _ _ _ _ => n - (intOf i).toNat)
  case atStart => exact ⟨0, _, _, Nat.zero_le _, rfl, HM0, Lib.hid fun a b h => by omega⟩
  case round =>
    clear HM0 W1
    obtain ⟨t, r, B, ht, rfl, HM, HW⟩ := hrel
    by_cases hlt : t < n
    · have hlt2 : t < L.length := by rw [HN.out]; exact hlt
      have hx := List.getElem?_eq_getElem hlt2
      have hsE := HS.out _ (List.getElem_mem hlt2)
      generalize L[t] = x at *
      obtain ⟨hrun, ⟨u, hu⟩, hfz, hM2⟩ := HM.out.add (by decide) hl hlt
      obtain ⟨W1, hW1⟩ : ∃ W1, wr.alloc (.cells (madeCells #[.bool false] n) 4) = W1 := ⟨_, rfl⟩
      rw [hW1] at hrun hu hfz hM2
      obtain ⟨W2, hW2⟩ : ∃ W2, W1.setCell ⟨g, t, none⟩ (.slice (some ⟨wr.heap.size, 0, none⟩) n n) = W2 := ⟨_, rfl⟩
      rw [hW2] at hM2
      have HW2 := Lib.hid hW2
      have c0 : W2.cell? ⟨bb, 0, none⟩ = some (.slice a0 n k0) := by rw [Lib.cell_of_heap hM2.bx]; rfl
      obtain ⟨ge, off, ce, v0, v1, v2, v3, e1, hge, hE, r0, r1, r2, r3, r4, r5⟩ := (HL.out.below hM2.bel).at hx
      rw [HN.out] at e1
      cases e1
      have hnd := needsR_c hE (by have := hsE.i; omega) (by have := hsE.m; omega) (by have := hsE.r; omega)
      obtain ⟨y0, z0, y1, z1, y2, z2, y3, z3, rfl, rfl, rfl, rfl⟩ := hE.sl
      have hi0 : (0 : Int) ≤ (t : Int) := by omega
      have hi1 : (t : Int) < (n : Int) := by omega
      have HSX : Hid ((needsL x).length ≤ 30 ∧ ∀ y ∈ needsL x, y.length ≤ 200) := Lib.hid (by
        refine ⟨by have := hsE.i; have := hsE.m; have := hsE.r; simp [needsL]; omega, fun y hy => ?_⟩
        simp only [needsL, List.mem_append] at hy
        rcases hy with (hy | hy) | hy
        · exact hsE.xi y hy
        · exact hsE.xm y hy
        · exact hsE.xr y hy)
      obtain ⟨K, hK⟩ : ∃ K, needsL x = K := ⟨_, rfl⟩
      have HK := Lib.hid hK
      rw [hK] at hnd HSX
      have HX := Lib.hid hx
      have HM2 := Lib.hid hM2
      have HWm := Lib.hid (Wm.start (mkr := mkr) (K := K) HW.out)
      generalize (fun i => if i = t then wr.heap.size else r i) = rf at *
      generalize (fun a b => if a = t then false else B a b) = B2 at *
      clear hlt2 hsE hE hge hK hx hM2 hW2 HM HW
      go_upto_region 7 with fail
      rw [HW2.out]
      clear HW2 hrun hu hfz hW1
      go_wp2_with fail
      refine hnd.mono ?_
      rintro e w3 ⟨vN, rfl, hS, -, hb3⟩
      have HM3 := Lib.hid (HM2.out.below hb3)
      have HSt := Lib.hid hS
      obtain ⟨⟨aN, cN, rfl, -, -⟩, -⟩ := id hS
      clear hnd hS hb3 c0 r0 r1 r2 r3 r4 r5 HM2
      go_wp2_with fail
      go_loopw [7, 8] (fun i _ W => ∃ (m : Nat) (B3 : Nat → Nat → Bool), m ≤ K.length ∧ i = .int .i64 m ∧ Hid (Mx w W bb #[.slice (some ⟨ge, off, none⟩) n k0, u1] 25 g n (t + 1) rf B3) ∧ Hid (Wm (depsL mkr L) mkr t K m B3) ∧ Hid (KeepT w3 W) ∧ Hid (w3.heap.size ≤ W.heap.size)) (fun i _ _ => K.length - (intOf i).toNat)
      case atStart => exact ⟨0, B2, Nat.zero_le _, rfl, HM3, HWm, Lib.hid (KeepT.refl _), Lib.hid (Nat.le_refl _)⟩
      case round =>
        clear HM3 HWm
        obtain ⟨m, B3, hm, rfl, HM, HWm, HKT, HSZ⟩ := hrel
        by_cases hlm : m < K.length
        · have hx2 := List.getElem?_eq_getElem hlm
          have hsl := HSX.out.2 _ (List.getElem_mem hlm)
          have hKl := HSX.out.1
          generalize K[m] = s at *
          have hSr := (HSt.out.keepT fun g C fr hc => HKT.out g C fr hc).1
          obtain ⟨_, _, eS, _, hSr⟩ := hSr
          cases eS
          rcases hSr with h | ⟨gS, oS, rfl, hgS, hcS⟩
          · rw [h] at hlm; simp at hlm
          have s0 := hcS m s hx2
          have c0 : wr.cell? ⟨bb, 0, none⟩ = some (.slice (some ⟨ge, off, none⟩) n k0) := by rw [Lib.cell_of_heap HM.out.bx]; rfl
          have c1 : wr.cell? ⟨bb, 1, none⟩ = some u1 := by rw [Lib.cell_of_heap HM.out.bx]; rfl
          have hLr := HL.out.below HM.out.bel
          have hmr := makerR_c (w := wr.drew) (u1 := u1) (s := s) (hLr.below ⟨rfl, rfl, rfl, Nat.le_refl _, fun _ _ => rfl⟩) HMK.out (by rw [HN.out]; omega) (fun e he => by have := (HS.out e he).o; omega)
          rw [HN.out] at hmr
          have hmr2 := hmr.mono (R' := fun e w' => (e = .returned (mkV (mkr s)) ∧ Below wr.heap.size wr w') ∧ (w'.cell? ⟨bb, 0, none⟩ = some (.slice (some ⟨ge, off, none⟩) n k0) ∧ w'.cell? ⟨bb, 1, none⟩ = some u1 ∧ w'.cell? ⟨gS, oS + m, none⟩ = some (.string (mk s)))) fun e w' ⟨h1, h2⟩ => by
            have h5 : Below wr.heap.size wr w' := ⟨h2.os, h2.tape, h2.output, h2.size, h2.block⟩
            exact ⟨⟨h1, h5⟩, (cell_of_block (h5.block bb (lt_some HM.out.bx))).trans c0, (cell_of_block (h5.block bb (lt_some HM.out.bx))).trans c1, (cell_of_block (h5.block gS hgS)).trans s0⟩
          have k0' : wr.drew.cell? ⟨bb, 0, none⟩ = some (.slice (some ⟨ge, off, none⟩) n k0) ∧ wr.drew.cell? ⟨bb, 1, none⟩ = some u1 ∧ wr.drew.cell? ⟨gS, oS + m, none⟩ = some (.string (mk s)) := ⟨c0, c1, s0⟩
          have hj0 : (0 : Int) ≤ (m : Int) := by omega
          have hj1 : (m : Int) < (K.length : Int) := by omega
          have HX2 := Lib.hid hx2
          clear hx2 hcS hLr hmr
          go_wp2_with fail
          go_region_held3 (fun w' => w'.cell? ⟨bb, 0, none⟩ = some (.slice (some ⟨ge, off, none⟩) n k0) ∧ w'.cell? ⟨bb, 1, none⟩ = some u1 ∧ w'.cell? ⟨gS, oS + m, none⟩ = some (.string (mk s)))
            (first | exact k0' | exact k1)
            (first
              | (go_at_call 18; (with_reducible refine hmr2.mono ?_); rintro e w4 ⟨⟨rfl, hb4⟩, k1⟩))
          clear hmr2 k0' k1 c0 c1 s0
          have HM4 := Lib.hid (HM.out.below hb4)
          have HKT4 := Lib.hid (HKT.out.trans (KeepC.below hb4).t)
          have HSZ4 := Lib.hid (Nat.le_trans HSZ.out hb4.size)
          clear hb4 HM HKT HSZ
          cases hms : mkr s with
          | none =>
            have HW2 := Lib.hid (HWm.out.skip HX2.out hms)
            simp only [hms, mkV]
            clear hms HWm
            go_wp2_with fail
            go_roundw
            case rel => exact ⟨m + 1, B3, by omega, by go_num, HM4, HW2, HKT4, HSZ4⟩
            case measure => simp [intOf]; omega
          | some d =>
            have HW2 := Lib.hid (HWm.out.put HX2.out hms)
            have hdn : d < n := HDL.out t d (by
              unfold depsL
              rw [HX.out]
              exact List.mem_filterMap.2 ⟨s, by rw [HK.out]; exact List.mem_of_getElem? HX2.out, hms⟩)
            simp only [hms, mkV]
            have t0 := HM4.out.cell0 (i := t) (by omega)
            have t1 := HM4.out.cell1 (i := t) (j := d) (by omega) hdn
            have tf := HM4.out.frz1 (i := t) (j := d) (by omega)
            obtain ⟨hM5, hkt5⟩ := HM4.out.set (i := t) (j := d) (by decide) (by omega)
            obtain ⟨W5, hW5⟩ : ∃ W5, w4.setCell ⟨rf t, d, none⟩ (.bool true) = W5 := ⟨_, rfl⟩
            rw [hW5] at hM5 hkt5
            have HM5 := Lib.hid hM5
            have HKT5 := Lib.hid (HKT4.out.trans hkt5)
            have HSZ5 : Hid (w3.heap.size ≤ W5.heap.size) := Lib.hid (Nat.le_trans HSZ4.out (by rw [← hW5]; simp [World.setCell]))
            have HW5 := Lib.hid hW5
            have hd0 : (0 : Int) ≤ (d : Int) := by omega
            have hd1 : (d : Int) < (n : Int) := by omega
            clear hms HWm hM5 hkt5 hW5
            go_upto_region 10 with fail
            rw [HW5.out]
            clear HW5 t0 t1 tf
            go_wp2_with fail
            go_roundw
            case rel => exact ⟨m + 1, _, by omega, by go_num, HM5, HW2, HKT5, HSZ5⟩
            case measure => simp [intOf]; omega
        · obtain rfl : m = K.length := by omega
          have HWl : Hid (Wl (depsL mkr L) (t + 1) B3) := Lib.hid (by
            have := HWm.out
            rw [← HK.out] at this
            exact this.fin HX.out)
          go_wp2_with fail
          go_roundw
          case rel => exact ⟨t + 1, rf, B3, by omega, by go_num, HM, HWl⟩
          case measure => simp [intOf]; omega
    · obtain rfl : t = n := by omega
      have HQ := Lib.hid (Wq.start HW.out)
      clear HW
      go_wp2_with fail
      go_loopw [9, 10, 11] (fun i _ _ W => ∃ (k : Nat) (B : Nat → Nat → Bool), k ≤ t ∧ i = .int .i64 k ∧ Hid (Mx w W bb #[.slice a0 t k0, u1] 25 g t t r B) ∧ Hid (Wq (depsL mkr L) t k 0 0 B)) (fun i _ _ _ => t - (intOf i).toNat)
      case atStart => exact ⟨0, B, Nat.zero_le _, rfl, HM, HQ⟩
      case round =>
        clear HM HQ
        clear B
        obtain ⟨k, B, hk, rfl, HM, HQ⟩ := hrel
        by_cases hlk : k < t
        · go_wp2_with fail
          go_loopw [10, 11] (fun i _ W => ∃ (i1 : Nat) (B : Nat → Nat → Bool), i1 ≤ t ∧ i = .int .i64 i1 ∧ Hid (Mx w W bb #[.slice a0 t k0, u1] 25 g t t r B) ∧ Hid (Wq (depsL mkr L) t k i1 0 B)) (fun i _ _ => t - (intOf i).toNat)
          case atStart => exact ⟨0, B, Nat.zero_le _, rfl, HM, HQ⟩
          case round =>
            clear HM HQ
            clear B
            obtain ⟨i1, B, hi1, rfl, HM, HQ⟩ := hrel
            by_cases hli : i1 < t
            · go_wp2_with fail
              go_loopw [11] (fun i W => ∃ (j1 : Nat) (B : Nat → Nat → Bool), j1 ≤ t ∧ i = .int .i64 j1 ∧ Hid (Mx w W bb #[.slice a0 t k0, u1] 25 g t t r B) ∧ Hid (Wq (depsL mkr L) t k i1 j1 B)) (fun i _ => t - (intOf i).toNat)
              case atStart => exact ⟨0, B, Nat.zero_le _, rfl, HM, HQ⟩
              case round =>
                clear HM HQ
                clear B
                obtain ⟨j1, B, hj1, rfl, HM, HQ⟩ := hrel
                by_cases hlj : j1 < t
                · have t0 := HM.out.cell0 hli
                  have t1 := HM.out.cell0 hlk
                  have t2 := HM.out.cell1 hli hlk
                  have t3 := HM.out.cell1 hlk hlj
                  have t4 := HM.out.cell1 hli hlj
                  have tf := HM.out.frz1 (j := j1) hli
                  have q0 : (0 : Int) ≤ (i1 : Int) := by omega
                  have q1 : (i1 : Int) < (t : Int) := by omega
                  have q2 : (0 : Int) ≤ (j1 : Int) := by omega
                  have q3 : (j1 : Int) < (t : Int) := by omega
                  have q4 : (0 : Int) ≤ (k : Int) := by omega
                  have q5 : (k : Int) < (t : Int) := by omega
                  cases h1 : B i1 k with
                  | false =>
                    have HQ2 := Lib.hid (HQ.out.skip (j := j1) hlk (by rw [h1]; rfl))
                    rw [h1] at t2
                    clear h1 HQ t4 tf t3 t1
                    go_wp2_with fail
                    go_roundw
                    case rel => exact ⟨j1 + 1, B, by omega, by go_num, HM, HQ2⟩
                    case measure => simp [intOf]; omega
                  | true =>
                    cases h2 : B k j1 with
                    | false =>
                      have HQ2 := Lib.hid (HQ.out.skip (j := j1) hlk (by rw [h1, h2]; rfl))
                      rw [h1] at t2
                      rw [h2] at t3
                      clear h1 h2 HQ t4 tf
                      go_wp2_with fail
                      go_roundw
                      case rel => exact ⟨j1 + 1, B, by omega, by go_num, HM, HQ2⟩
                      case measure => simp [intOf]; omega
                    | true =>
                      have HQ2 := Lib.hid (HQ.out.put (j := j1) hlk hli hlj h1 h2)
                      rw [h1] at t2
                      rw [h2] at t3
                      obtain ⟨hM5, -⟩ := HM.out.set (i := i1) (j := j1) (by decide) hli
                      obtain ⟨W5, hW5⟩ : ∃ W5, wr.setCell ⟨r i1, j1, none⟩ (.bool true) = W5 := ⟨_, rfl⟩
                      rw [hW5] at hM5
                      have HM5 := Lib.hid hM5
                      have HW5 := Lib.hid hW5
                      clear h1 h2 HQ hM5 hW5
                      go_upto_region 22 with fail
                      rw [HW5.out]
                      clear HW5 t0 t1 t2 t3 t4 tf
                      go_wp2_with fail
                      go_roundw
                      case rel => exact ⟨j1 + 1, _, by omega, by go_num, HM5, HQ2⟩
                      case measure => simp [intOf]; omega
                · obtain rfl : j1 = t := by omega
                  have HQ2 := Lib.hid HQ.out.line
                  go_wp2_with fail
                  go_roundw
                  case rel => exact ⟨i1 + 1, B, by omega, by go_num, HM, HQ2⟩
                  case measure => simp [intOf]; omega
            · obtain rfl : i1 = t := by omega
              have HQ2 := Lib.hid HQ.out.phase
              go_wp2_with fail
              go_roundw
              case rel => exact ⟨k + 1, B, by omega, by go_num, HM, HQ2⟩
              case measure => simp [intOf]; omega
        · obtain rfl : k = t := by omega
          go_wp2_with fail
          go_ret
          exact ⟨g, bb, _, _, r, B, rfl, HM.out, by decide, fun a b ha hb => HQ.out.fin HDL.out a b ha hb⟩
end Go.Proofs.Ytbflodefmookiaa.Gr
