/-
  COMMANDS AS LISTS OF BYTES: what has the form; what is put in. No program, no world.
-/
import Derived.Test.YtgledabcfonbeaaGreatDoorCkThree
import Derived.Lib.SlSplitV
import Derived.Lib.Bytes2
namespace Go.Proofs.YtgledabcfonbeaaGreatDoor.Df
open Go.Proofs.YtgledabcfonbeaaGreatDoor

/-! ### lines -/
def linesA : Bs → List Bs
  | [] => [[]]
  | b :: r => if b = 10 then [b] :: linesA r else match linesA r with
    | [] => [[b]]
    | x :: y => (b :: x) :: y
theorem linesA_none : ∀ b : Bs, (10 : UInt8) ∉ b → linesA b = [b]
  | [], _ => rfl
  | b :: r, h => by
    have h1 : ¬ b = 10 := fun e => h (by rw [e]; exact List.mem_cons_self)
    rw [linesA, if_neg h1, linesA_none r (fun e => h (List.mem_cons_of_mem _ e))]
theorem linesA_at : ∀ (p r : Bs), (10 : UInt8) ∉ p → linesA (p ++ 10 :: r) = (p ++ [10]) :: linesA r
  | [], r, _ => by rw [List.nil_append, linesA, if_pos rfl]; rfl
  | b :: p, r, h => by
    have h1 : ¬ b = 10 := fun e => h (by rw [e]; exact List.mem_cons_self)
    rw [List.cons_append, linesA, if_neg h1, linesA_at p r (fun e => h (List.mem_cons_of_mem _ e))]
    rfl
theorem idx_none : ∀ l : Bs, (10 : UInt8) ∉ l → Lib.index l [10] = -1
  | [], _ => rfl
  | b :: l, h => by
    have h1 : ¬ b = 10 := fun e => h (by rw [e]; exact List.mem_cons_self)
    have h2 : ([10] : Bs).isPrefixOf (b :: l) = false := by
      simp [List.isPrefixOf]
      exact fun e => h1 e.symm
    rw [Lib.index, h2, idx_none l (fun e => h (List.mem_cons_of_mem _ e))]
    rfl
theorem idx_at : ∀ p r : Bs, (10 : UInt8) ∉ p → Lib.index (p ++ 10 :: r) [10] = p.length
  | [], r, _ => by rw [List.nil_append, Lib.index]; simp [List.isPrefixOf]
  | b :: p, r, h => by
    have h1 : ¬ b = 10 := fun e => h (by rw [e]; exact List.mem_cons_self)
    have h2 : ([10] : Bs).isPrefixOf (b :: (p ++ 10 :: r)) = false := by
      simp [List.isPrefixOf]
      exact fun e => h1 e.symm
    have h3 : ((p.length : Int) == -1) = false := by rw [beq_eq_false_iff_ne]; omega
    rw [List.cons_append, Lib.index, h2, idx_at p r (fun e => h (List.mem_cons_of_mem _ e)), h3]
    simp
theorem splitA_eq : ∀ (k : Nat) (b : Bs), b.count 10 ≤ k → Lib.splitK [10] 1 k b = linesA b
  | 0, b, h => by
    have h1 : (10 : UInt8) ∉ b := List.count_eq_zero.1 (by omega)
    rw [linesA_none b h1]
    rfl
  | k + 1, b, h => by
    by_cases h1 : (10 : UInt8) ∈ b
    · obtain ⟨p, r, rfl, hp⟩ := List.eq_append_cons_of_mem h1
      have hc : r.count 10 ≤ k := by
        rw [List.count_append, List.count_cons_self] at h
        omega
      have h3 : ((p.length : Int) == -1) = false := by rw [beq_eq_false_iff_ne]; omega
      rw [Lib.splitK, idx_at p r hp, h3, linesA_at p r hp]
      have e1 : ((p.length : Int).toNat + 1) = (p ++ [10]).length := by simp
      have e2 : p ++ 10 :: r = (p ++ [10]) ++ r := by simp
      have e3 : ((p.length : Int).toNat + ([10] : Bs).length) = (p ++ [10]).length := by simp
      rw [e1, e3, e2, List.take_left, List.drop_left, splitA_eq k r hc]
      rfl
    · rw [Lib.splitK, idx_none b h1, linesA_none b h1]
      rfl
theorem linesA_sum : ∀ b : Bs, (linesA b).flatten = b
  | [] => rfl
  | b :: r => by
    have h := linesA_sum r
    rw [linesA]
    split
    · rw [List.flatten_cons, h]; rfl
    · split
      · rename_i h2
        rw [h2] at h
        rw [← h]
        rfl
      · rename_i x y h2
        rw [h2, List.flatten_cons] at h
        rw [List.flatten_cons, List.cons_append, h]
theorem linesA_len (b : Bs) : (linesA b).length ≤ b.length + 1 := by
  induction b with
  | nil => simp [linesA]
  | cons b r ih =>
    rw [linesA]
    split
    · simp; omega
    · split
      · simp
      · rename_i x y h2
        rw [h2] at ih
        simp at ih ⊢
        omega
theorem mem_flat : ∀ (L : List Bs) (l : Bs), l ∈ L → l.length ≤ L.flatten.length
  | [], _, h => by cases h
  | x :: L, l, h => by
    rw [List.flatten_cons, List.length_append]
    rcases List.mem_cons.1 h with rfl | h
    · omega
    · have := mem_flat L l h
      omega
theorem linesA_mem {b l : Bs} (h : l ∈ linesA b) : l.length ≤ b.length := by
  have h1 := mem_flat _ _ h
  rwa [linesA_sum] at h1

/-! ### what is put in -/
structure Kst where
  whole : Bs
  n : Nat
  found : List Bs
def incP : Bs := [35, 105, 110, 99, 108, 117, 100, 101, 32]
def trimE (l : Bs) : Bs := if l.getLast? = some 10 then l.dropLast else l
def cutP (l : Bs) : Option Bs := if incP.isPrefixOf l then some (l.drop 9) else none
def growO (a b : Bs) : Option Bs := if a.length + b.length ≤ 65536 then some (a ++ b) else none
def fndO (l : List Bs) (x : Bs) : List Bs := if l.contains x then l else l ++ [x]
def inclO (F : Bs → Option Bs) (nm : Bs) (s : Kst) : Option (Bs × Kst) :=
  if s.n + 1 ≤ 1000 ∧ rightL nm = true then (F nm).map fun b => (b, ⟨s.whole, s.n + 1, fndO s.found nm⟩) else none
def lineO (F : Bs → Option Bs) (f : Option (Bs → Kst → Option Kst)) (l : Bs) (s : Kst) : Option Kst :=
  match cutP l with
  | none => (growO s.whole l).map fun w => ⟨w, s.n, s.found⟩
  | some nm => match f with
    | none => none
    | some f => (inclO F (trimE nm) s).bind fun p => f p.1 p.2
def foldO {S : Type} (f : Bs → S → Option S) : List Bs → S → Option S
  | [], s => some s
  | l :: r, s => (f l s).bind (foldO f r)
def putO (F : Bs → Option Bs) : Nat → Bs → Kst → Option Kst
  | 0, b, s => foldO (lineO F none) (linesA b) s
  | r + 1, b, s => foldO (lineO F (some (putO F r))) (linesA b) s
theorem foldO_app {S : Type} (f : Bs → S → Option S) : ∀ (a b : List Bs) (s : S), foldO f (a ++ b) s = (foldO f a s).bind (foldO f b)
  | [], _, _ => rfl
  | l :: a, b, s => by
    rw [List.cons_append, foldO, foldO]
    cases f l s with
    | none => rfl
    | some t => exact foldO_app f a b t
theorem foldO_snoc {S : Type} {f : Bs → S → Option S} {L : List Bs} {j : Nat} {x : Bs} {s t : S} (hx : L[j]? = some x) (h : foldO f (L.take j) s = some t) : foldO f (L.take (j + 1)) s = f x t := by
  have e : L.take (j + 1) = L.take j ++ [x] := by rw [List.take_add_one, hx]; rfl
  rw [e, foldO_app, h]
  show (f x t).bind (foldO f []) = _
  cases f x t <;> rfl
theorem foldO_fail {S : Type} {f : Bs → S → Option S} {L : List Bs} {j : Nat} {s : S} (h : foldO f (L.take j) s = none) : foldO f L s = none := by
  have e : L = L.take j ++ L.drop j := (List.take_append_drop j L).symm
  rw [e, foldO_app, h]
  rfl

def Ok3 (s : Kst) : Prop := s.whole.length ≤ 65536 ∧ s.n ≤ 1000 ∧ s.found.length ≤ s.n
theorem fndO_len (L : List Bs) (x : Bs) : (fndO L x).length ≤ L.length + 1 := by
  unfold fndO
  split <;> simp
theorem lineO_ok {F : Bs → Option Bs} {f : Option (Bs → Kst → Option Kst)} (hf : ∀ f0, f = some f0 → ∀ b s t, f0 b s = some t → Ok3 s → Ok3 t) {l : Bs} {s t : Kst} (h : lineO F f l s = some t) (hs : Ok3 s) : Ok3 t := by
  unfold lineO at h
  cases hcp : cutP l with
  | none =>
    rw [hcp] at h
    dsimp only at h
    unfold growO at h
    split at h
    · cases h
      exact ⟨by simpa using ‹_›, hs.2.1, hs.2.2⟩
    · cases h
  | some nm =>
    rw [hcp] at h
    cases f with
    | none => cases h
    | some f0 =>
      dsimp only at h
      unfold inclO at h
      by_cases hc : s.n + 1 ≤ 1000 ∧ rightL (trimE nm) = true
      · rw [if_pos hc] at h
        cases hF : F (trimE nm) with
        | none => rw [hF] at h; cases h
        | some b =>
          rw [hF] at h
          refine hf f0 rfl _ _ _ h ⟨hs.1, hc.1, ?_⟩
          have := fndO_len s.found (trimE nm)
          have := hs.2.2
          show (fndO s.found (trimE nm)).length ≤ s.n + 1
          omega
      · rw [if_neg hc] at h
        cases h
theorem inclO_ok {F : Bs → Option Bs} {nm : Bs} {s : Kst} {p : Bs × Kst} (h : inclO F nm s = some p) (hs : Ok3 s) : p.2.whole = s.whole ∧ Ok3 p.2 := by
  unfold inclO at h
  by_cases hc : s.n + 1 ≤ 1000 ∧ rightL nm = true
  · rw [if_pos hc] at h
    cases hF : F nm with
    | none => rw [hF] at h; cases h
    | some b =>
      rw [hF] at h
      cases h
      refine ⟨rfl, hs.1, hc.1, ?_⟩
      have := fndO_len s.found nm
      have := hs.2.2
      show (fndO s.found nm).length ≤ s.n + 1
      omega
  · rw [if_neg hc] at h
    cases h
theorem trimE_len (l : Bs) : (trimE l).length ≤ l.length := by
  unfold trimE
  split
  · rw [List.length_dropLast]; omega
  · exact Nat.le_refl _
theorem foldO_ok {S : Type} {f : Bs → S → Option S} {P : S → Prop} (hf : ∀ l s t, f l s = some t → P s → P t) : ∀ (L : List Bs) (s t : S), foldO f L s = some t → P s → P t
  | [], s, t, h, hs => by cases h; exact hs
  | l :: L, s, t, h, hs => by
    rw [foldO] at h
    cases hl : f l s with
    | none => rw [hl] at h; cases h
    | some u =>
      rw [hl] at h
      exact foldO_ok hf L u t h (hf l s u hl hs)
theorem putO_ok (F : Bs → Option Bs) : ∀ (r : Nat) (b : Bs) (s t : Kst), putO F r b s = some t → Ok3 s → Ok3 t
  | 0, b, s, t, h, hs => foldO_ok (fun l s t h hs => lineO_ok (fun f0 e => by cases e) h hs) _ s t h hs
  | r + 1, b, s, t, h, hs => foldO_ok (fun l s t h hs => lineO_ok (fun f0 e => by cases e; exact putO_ok F r) h hs) _ s t h hs
def recO (F : Bs → Option Bs) : Nat → Option (Bs → Kst → Option Kst)
  | 0 => none
  | r + 1 => some (putO F r)
theorem putO_eq (F : Bs → Option Bs) (r : Nat) (b : Bs) (s : Kst) : putO F r b s = foldO (lineO F (recO F r)) (linesA b) s := by
  cases r <;> rfl

/-! ### what arguments are -/
def argO (decl : List Bs) (F : Bs → Option Bs) (s : Bs) : Option Bs := if decl.contains s then F s else none
def catO (decl : List Bs) (F : Bs → Option Bs) : List Bs → Bs → Option Bs := foldO fun a acc => (argO decl F a).bind (growO acc)

/-! ### a command that has the form -/
def wOnce : Bs := [111, 110, 99, 101]
def wInc : Bs := [105, 110, 99]
structure Cmd where
  once : Bool
  verb : Bs
  args : List Bs
  outs : List Bs
  dep : Bs
def offOnce : List Bs → Bool × List Bs
  | [] => (false, [])
  | x :: r => if x = wOnce then (true, r) else (false, x :: r)
def okOuts (outs : List Bs) : Bool := !outs.isEmpty && outs.all rightL && decide ((onceL outs).length = outs.length)
def depOf (parted : Bool) (deps : List Bs) : Option Bs :=
  if parted then (match deps with
    | [d] => if rightL d then some d else none
    | _ => none) else some []
def readB (on : Bool) (verb : Bs) (args : List Bs) (c : List Bs × List Bs × Bool) : Option Cmd :=
  if (verbF verb).isSome && okOuts c.1 && (c.2.2 == decide (verb = wInc)) then (depOf c.2.2 c.2.1).map (fun d => ⟨on, verb, args, c.1, d⟩) else none
def readA (on : Bool) : List Bs × List Bs × Bool → Option Cmd
  | (verb :: args, behind, true) => readB on verb args (cutW [58] behind)
  | _ => none
def readL (ws : List Bs) : Option Cmd := readA (offOnce ws).1 (cutW [62] (offOnce ws).2)
end Go.Proofs.YtgledabcfonbeaaGreatDoor.Df
