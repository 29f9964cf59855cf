/-
  THE TEXT OF A MANIFEST, as lists of bytes. No program, no world.
-/
import Derived.Test.YtlhhpggjdbbcmaaDoorPaMath
namespace Go.Proofs.YtlhhpggjdbbcmaaDoor.Pr

/-- an edge -/
structure Ed where
  outs : List Bs
  ins : List Bs
  imp : List Bs
  ord : List Bs
  cmd : Bs
  dep : Bs

/-! escaped texts -/
def escB (c : UInt8) : Bool := c == 36 || c == 32 || c == 58 || c == 124
def esc (s : Bs) : Bs := s.flatMap fun c => if escB c = true then [36, c] else [c]
theorem esc_cons (c : UInt8) (r : Bs) : esc (c :: r) = (if escB c = true then [36, c] else [c]) ++ esc r := rfl
theorem esc_snoc (s : Bs) (c : UInt8) : esc (s ++ [c]) = esc s ++ (if escB c = true then [36, c] else [c]) := by simp [esc]
theorem esc_len (s : Bs) : (esc s).length ≤ 2 * s.length := by
  induction s with
  | nil => simp [esc]
  | cons c r ih =>
    rw [esc_cons, List.length_append, List.length_cons]
    split <;> simp <;> omega

/-- names, each with a blank ahead -/
def rowT (K : List Bs) : Bs := K.flatMap fun n => 32 :: esc n
theorem rowT_nil : rowT [] = [] := rfl
theorem rowT_take {K : List Bs} {j : Nat} {x : Bs} (h : K[j]? = some x) : rowT (K.take (j + 1)) = rowT (K.take j) ++ 32 :: esc x := by
  rw [List.take_add_one, h]
  simp [rowT]
theorem rowT_len {K : List Bs} (hx : ∀ x ∈ K, x.length ≤ 200) : (rowT K).length ≤ 401 * K.length := by
  induction K with
  | nil => simp [rowT]
  | cons x r ih =>
    have h1 := ih fun y hy => hx y (List.mem_cons_of_mem _ hy)
    have h2 := hx x (List.mem_cons_self ..)
    have h3 := esc_len x
    have h4 : rowT (x :: r) = 32 :: esc x ++ rowT r := rfl
    rw [h4, List.length_append, List.length_cons, List.length_cons]
    omega

/-- a number below a hundred -/
def digT (n : Nat) : Bs := if n < 10 then [UInt8.ofNat (48 + n)] else [UInt8.ofNat (48 + n / 10), UInt8.ofNat (48 + n % 10)]
theorem digT_len (n : Nat) : (digT n).length ≤ 2 := by unfold digT; split <;> simp
def ruleT (n : Nat) : Bs := 114 :: digT n
theorem ruleT_len (n : Nat) : (ruleT n).length ≤ 3 := by have := digT_len n; simp [ruleT]; omega

def depT (d : Bs) : Bs := if d = [] then [] else [32, 32, 100, 101, 112, 102, 105, 108, 101, 32, 61, 32] ++ esc d ++ [10]
def barT (b : Bs) (K : List Bs) : Bs := if K = [] then [] else b ++ rowT K
def headT (r : Bs) (e : Ed) : Bs := [114, 117, 108, 101, 32] ++ r ++ [10, 32, 32, 99, 111, 109, 109, 97, 110, 100, 32, 61, 32] ++ esc e.cmd ++ [10]
def edgeT (r : Bs) (e : Ed) : Bs :=
  headT r e ++ depT e.dep ++ [98, 117, 105, 108, 100] ++ rowT e.outs ++ ([58, 32] ++ r) ++ rowT e.ins ++ barT [32, 124] e.imp ++ barT [32, 124, 124] e.ord ++ [10]
def edgesT : Nat → List Ed → Bs
  | _, [] => []
  | k, e :: r => edgeT (ruleT k) e ++ edgesT (k + 1) r
theorem edgesT_snoc : ∀ (L : List Ed) (k : Nat) (x : Ed), edgesT k (L ++ [x]) = edgesT k L ++ edgeT (ruleT (k + L.length)) x
  | [], k, x => by simp [edgesT]
  | e :: L, k, x => by
    have h := edgesT_snoc L (k + 1) x
    rw [List.cons_append, edgesT, edgesT, h, List.length_cons, List.append_assoc]
    congr 4
    omega
theorem edgesT_take {L : List Ed} {j : Nat} {x : Ed} (h : L[j]? = some x) : edgesT 0 (L.take (j + 1)) = edgesT 0 (L.take j) ++ edgeT (ruleT j) x := by
  have hj := (List.getElem?_eq_some_iff.1 h).1
  rw [List.take_add_one, h]
  have := edgesT_snoc (L.take j) 0 x
  rw [List.length_take, Nat.min_eq_left (by omega), Nat.zero_add] at this
  exact this
def defT (D : List Bs) : Bs := if D = [] then [] else [100, 101, 102, 97, 117, 108, 116] ++ rowT D ++ [10]
def printT (L : List Ed) (D : List Bs) : Bs := edgesT 0 L ++ defT D

/-! few, and short -/
def nm (e : Ed) : List Bs := e.outs ++ e.ins ++ e.imp ++ e.ord
def fewE (e : Ed) : Bool := decide (e.outs.length ≤ 10) && decide (e.ins.length ≤ 10) && decide (e.imp.length ≤ 10) && decide (e.ord.length ≤ 10) && decide (e.cmd.length ≤ 300) && decide (e.dep.length ≤ 200)
def shortN (s : Bs) : Bool := decide (s.length ≤ 200)
def allN (L : List Ed) (D : List Bs) : List Bs := D ++ L.flatMap nm
def fewM (L : List Ed) (D : List Bs) : Bool := decide (L.length ≤ 30) && decide (D.length ≤ 20) && L.all fewE && (allN L D).all shortN
theorem allN_take {L : List Ed} {D : List Bs} {j : Nat} {x : Ed} (h : L[j]? = some x) : allN (L.take (j + 1)) D = allN (L.take j) D ++ nm x := by
  rw [List.take_add_one, h]
  simp [allN]

/-- an edge whose parts are few, and short -/
structure Sm (e : Ed) : Prop where
  o : e.outs.length ≤ 10
  i : e.ins.length ≤ 10
  m : e.imp.length ≤ 10
  r : e.ord.length ≤ 10
  c : e.cmd.length ≤ 300
  d : e.dep.length ≤ 200
  xo : ∀ x ∈ e.outs, x.length ≤ 200
  xi : ∀ x ∈ e.ins, x.length ≤ 200
  xm : ∀ x ∈ e.imp, x.length ≤ 200
  xr : ∀ x ∈ e.ord, x.length ≤ 200
theorem fewM_of {L : List Ed} {D : List Bs} (h : fewM L D = true) : L.length ≤ 30 ∧ D.length ≤ 20 ∧ (∀ x ∈ D, x.length ≤ 200) ∧ ∀ e ∈ L, Sm e := by
  unfold fewM at h
  simp only [Bool.and_eq_true, decide_eq_true_eq, List.all_eq_true] at h
  obtain ⟨⟨⟨h1, h2⟩, h3⟩, h4⟩ := h
  have hs : ∀ x ∈ allN L D, x.length ≤ 200 := fun x hx => by have := h4 x hx; unfold shortN at this; exact of_decide_eq_true this
  refine ⟨h1, h2, fun x hx => hs x (by simp [allN, hx]), fun e he => ?_⟩
  have hf := h3 e he
  unfold fewE at hf
  simp only [Bool.and_eq_true, decide_eq_true_eq] at hf
  obtain ⟨⟨⟨⟨⟨a1, a2⟩, a3⟩, a4⟩, a5⟩, a6⟩ := hf
  have hn : ∀ x ∈ nm e, x.length ≤ 200 := fun x hx => hs x (by
    unfold allN
    rw [List.mem_append, List.mem_flatMap]
    exact .inr ⟨e, he, hx⟩)
  exact ⟨a1, a2, a3, a4, a5, a6, fun x hx => hn x (by simp [nm, hx]), fun x hx => hn x (by simp [nm, hx]), fun x hx => hn x (by simp [nm, hx]), fun x hx => hn x (by simp [nm, hx])⟩

theorem barT_len {b : Bs} {K : List Bs} (hb : b.length ≤ 3) (hk : K.length ≤ 10) (hx : ∀ x ∈ K, x.length ≤ 200) : (barT b K).length ≤ 4013 := by
  have := rowT_len hx
  unfold barT
  split
  · simp
  · rw [List.length_append]; omega
theorem depT_len {d : Bs} (hd : d.length ≤ 200) : (depT d).length ≤ 413 := by
  have := esc_len d
  unfold depT
  split
  · simp
  · simp; omega
theorem headT_len {r : Bs} {e : Ed} (hr : r.length ≤ 3) (h : e.cmd.length ≤ 300) : (headT r e).length ≤ 622 := by
  have := esc_len e.cmd
  unfold headT
  simp
  omega
theorem edgeT_len {r : Bs} {e : Ed} (hr : r.length ≤ 3) (h : Sm e) : (edgeT r e).length ≤ 18000 := by
  have h1 := headT_len hr h.c
  have h2 := depT_len h.d
  have h3 := rowT_len h.xo
  have h4 := rowT_len h.xi
  have h5 := barT_len (b := [32, 124]) (by decide) h.m h.xm
  have h6 := barT_len (b := [32, 124, 124]) (by decide) h.r h.xr
  have := h.o
  have := h.i
  unfold edgeT
  simp only [List.length_append, List.length_cons, List.length_nil]
  omega
theorem edgesT_len : ∀ (L : List Ed) (k : Nat), (∀ e ∈ L, Sm e) → (edgesT k L).length ≤ 18000 * L.length
  | [], _, _ => by simp [edgesT]
  | e :: L, k, h => by
    have h1 := edgeT_len (ruleT_len k) (h e (List.mem_cons_self ..))
    have h2 := edgesT_len L (k + 1) fun x hx => h x (List.mem_cons_of_mem _ hx)
    rw [edgesT, List.length_append, List.length_cons]
    omega
theorem defT_len {D : List Bs} (h : D.length ≤ 20) (hx : ∀ x ∈ D, x.length ≤ 200) : (defT D).length ≤ 8100 := by
  have := rowT_len hx
  unfold defT
  split
  · simp
  · simp; omega

/-! what may be printed -/
def comB (c : UInt8) : Bool := decide (32 ≤ c.toNat) && decide (c.toNat ≤ 126)
def comL (s : Bs) : Bool := s.all comB && !s.isEmpty
end Go.Proofs.YtlhhpggjdbbcmaaDoor.Pr
