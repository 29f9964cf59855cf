/-
  COMMANDS AS LISTS OF BYTES: what has the form; what is put in. No program, no world.
-/
import Derived.Test.YtgledabcfonbeaaGreatDoorCkJ6
import Derived.Lib.SlSplitV
import Derived.Lib.Bytes2
import Derived.Test.YtgledabcfonbeaaGreatDoorCkKit
import Derived.WalkLawsBesides
namespace Go.Proofs.YtgledabcfonbeaaGreatDoor.Df
open Go.Proofs.YtgledabcfonbeaaGreatDoor

/-! ### lines -/
def linesA : Bs → List Bs
  | [] => [[]]
  | b :: r => if b = 10 then [b] :: linesA r else match linesA r with
    | [] => [[b]]
    | x :: y => (b :: x) :: y
theorem linesA_none : ∀ b : Bs, (10 : UInt8) ∉ b → linesA b = [b]
  | [], _ => rfl
  | b :: r, h => by
    have h1 : ¬ b = 10 := fun e => h (by rw [e]; exact List.mem_cons_self)
    rw [linesA, if_neg h1, linesA_none r (fun e => h (List.mem_cons_of_mem _ e))]
theorem linesA_at : ∀ (p r : Bs), (10 : UInt8) ∉ p → linesA (p ++ 10 :: r) = (p ++ [10]) :: linesA r
  | [], r, _ => by rw [List.nil_append, linesA, if_pos rfl]; rfl
  | b :: p, r, h => by
    have h1 : ¬ b = 10 := fun e => h (by rw [e]; exact List.mem_cons_self)
    rw [List.cons_append, linesA, if_neg h1, linesA_at p r (fun e => h (List.mem_cons_of_mem _ e))]
    rfl
theorem idx_none : ∀ l : Bs, (10 : UInt8) ∉ l → Lib.index l [10] = -1
  | [], _ => rfl
  | b :: l, h => by
    have h1 : ¬ b = 10 := fun e => h (by rw [e]; exact List.mem_cons_self)
    have h2 : ([10] : Bs).isPrefixOf (b :: l) = false := by
      simp [List.isPrefixOf]
      exact fun e => h1 e.symm
    rw [Lib.index, h2, idx_none l (fun e => h (List.mem_cons_of_mem _ e))]
    rfl
theorem idx_at : ∀ p r : Bs, (10 : UInt8) ∉ p → Lib.index (p ++ 10 :: r) [10] = p.length
  | [], r, _ => by rw [List.nil_append, Lib.index]; simp [List.isPrefixOf]
  | b :: p, r, h => by
    have h1 : ¬ b = 10 := fun e => h (by rw [e]; exact List.mem_cons_self)
    have h2 : ([10] : Bs).isPrefixOf (b :: (p ++ 10 :: r)) = false := by
      simp [List.isPrefixOf]
      exact fun e => h1 e.symm
    have h3 : ((p.length : Int) == -1) = false := by rw [beq_eq_false_iff_ne]; omega
    rw [List.cons_append, Lib.index, h2, idx_at p r (fun e => h (List.mem_cons_of_mem _ e)), h3]
    simp
theorem splitA_eq : ∀ (k : Nat) (b : Bs), b.count 10 ≤ k → Lib.splitK [10] 1 k b = linesA b
  | 0, b, h => by
    have h1 : (10 : UInt8) ∉ b := List.count_eq_zero.1 (by omega)
    rw [linesA_none b h1]
    rfl
  | k + 1, b, h => by
    by_cases h1 : (10 : UInt8) ∈ b
    · obtain ⟨p, r, rfl, hp⟩ := List.eq_append_cons_of_mem h1
      have hc : r.count 10 ≤ k := by
        rw [List.count_append, List.count_cons_self] at h
        omega
      have h3 : ((p.length : Int) == -1) = false := by rw [beq_eq_false_iff_ne]; omega
      rw [Lib.splitK, idx_at p r hp, h3, linesA_at p r hp]
      have e1 : ((p.length : Int).toNat + 1) = (p ++ [10]).length := by simp
      have e2 : p ++ 10 :: r = (p ++ [10]) ++ r := by simp
      have e3 : ((p.length : Int).toNat + ([10] : Bs).length) = (p ++ [10]).length := by simp
      rw [e1, e3, e2, List.take_left, List.drop_left, splitA_eq k r hc]
      rfl
    · rw [Lib.splitK, idx_none b h1, linesA_none b h1]
      rfl
theorem linesA_sum : ∀ b : Bs, (linesA b).flatten = b
  | [] => rfl
  | b :: r => by
    have h := linesA_sum r
    rw [linesA]
    split
    · rw [List.flatten_cons, h]; rfl
    · split
      · rename_i h2
        rw [h2] at h
        rw [← h]
        rfl
      · rename_i x y h2
        rw [h2, List.flatten_cons] at h
        rw [List.flatten_cons, List.cons_append, h]
theorem linesA_len (b : Bs) : (linesA b).length ≤ b.length + 1 := by
  induction b with
  | nil => simp [linesA]
  | cons b r ih =>
    rw [linesA]
    split
    · simp; omega
    · split
      · simp
      · rename_i x y h2
        rw [h2] at ih
        simp at ih ⊢
        omega
theorem mem_flat : ∀ (L : List Bs) (l : Bs), l ∈ L → l.length ≤ L.flatten.length
  | [], _, h => by cases h
  | x :: L, l, h => by
    rw [List.flatten_cons, List.length_append]
    rcases List.mem_cons.1 h with rfl | h
    · omega
    · have := mem_flat L l h
      omega
theorem linesA_mem {b l : Bs} (h : l ∈ linesA b) : l.length ≤ b.length := by
  have h1 := mem_flat _ _ h
  rwa [linesA_sum] at h1

/-! ### what is put in -/
structure Kst where
  whole : Bs
  n : Nat
  found : List Bs
def incP : Bs := [35, 105, 110, 99, 108, 117, 100, 101, 32]
def trimE (l : Bs) : Bs := if l.getLast? = some 10 then l.dropLast else l
def cutP (l : Bs) : Option Bs := if incP.isPrefixOf l then some (l.drop 9) else none
def growO (a b : Bs) : Option Bs := if a.length + b.length ≤ 65536 then some (a ++ b) else none
def fndO (l : List Bs) (x : Bs) : List Bs := if l.contains x then l else l ++ [x]
def inclO (F : Bs → Option Bs) (nm : Bs) (s : Kst) : Option (Bs × Kst) :=
  if s.n + 1 ≤ 1000 ∧ rightL nm = true then (F nm).map fun b => (b, ⟨s.whole, s.n + 1, fndO s.found nm⟩) else none
def lineO (F : Bs → Option Bs) (f : Option (Bs → Kst → Option Kst)) (l : Bs) (s : Kst) : Option Kst :=
  match cutP l with
  | none => (growO s.whole l).map fun w => ⟨w, s.n, s.found⟩
  | some nm => match f with
    | none => none
    | some f => (inclO F (trimE nm) s).bind fun p => f p.1 p.2
def foldO {S : Type} (f : Bs → S → Option S) : List Bs → S → Option S
  | [], s => some s
  | l :: r, s => (f l s).bind (foldO f r)
def putO (F : Bs → Option Bs) : Nat → Bs → Kst → Option Kst
  | 0, b, s => foldO (lineO F none) (linesA b) s
  | r + 1, b, s => foldO (lineO F (some (putO F r))) (linesA b) s
theorem foldO_app {S : Type} (f : Bs → S → Option S) : ∀ (a b : List Bs) (s : S), foldO f (a ++ b) s = (foldO f a s).bind (foldO f b)
  | [], _, _ => rfl
  | l :: a, b, s => by
    rw [List.cons_append, foldO, foldO]
    cases f l s with
    | none => rfl
    | some t => exact foldO_app f a b t
theorem foldO_snoc {S : Type} {f : Bs → S → Option S} {L : List Bs} {j : Nat} {x : Bs} {s t : S} (hx : L[j]? = some x) (h : foldO f (L.take j) s = some t) : foldO f (L.take (j + 1)) s = f x t := by
  have e : L.take (j + 1) = L.take j ++ [x] := by rw [List.take_add_one, hx]; rfl
  rw [e, foldO_app, h]
  show (f x t).bind (foldO f []) = _
  cases f x t <;> rfl
theorem foldO_fail {S : Type} {f : Bs → S → Option S} {L : List Bs} {j : Nat} {s : S} (h : foldO f (L.take j) s = none) : foldO f L s = none := by
  have e : L = L.take j ++ L.drop j := (List.take_append_drop j L).symm
  rw [e, foldO_app, h]
  rfl

def Ok3 (s : Kst) : Prop := s.whole.length ≤ 65536 ∧ s.n ≤ 1000 ∧ s.found.length ≤ s.n
theorem fndO_len (L : List Bs) (x : Bs) : (fndO L x).length ≤ L.length + 1 := by
  unfold fndO
  split <;> simp
theorem lineO_ok {F : Bs → Option Bs} {f : Option (Bs → Kst → Option Kst)} (hf : ∀ f0, f = some f0 → ∀ b s t, f0 b s = some t → Ok3 s → Ok3 t) {l : Bs} {s t : Kst} (h : lineO F f l s = some t) (hs : Ok3 s) : Ok3 t := by
  unfold lineO at h
  cases hcp : cutP l with
  | none =>
    rw [hcp] at h
    dsimp only at h
    unfold growO at h
    split at h
    · cases h
      exact ⟨by simpa using ‹_›, hs.2.1, hs.2.2⟩
    · cases h
  | some nm =>
    rw [hcp] at h
    cases f with
    | none => cases h
    | some f0 =>
      dsimp only at h
      unfold inclO at h
      by_cases hc : s.n + 1 ≤ 1000 ∧ rightL (trimE nm) = true
      · rw [if_pos hc] at h
        cases hF : F (trimE nm) with
        | none => rw [hF] at h; cases h
        | some b =>
          rw [hF] at h
          refine hf f0 rfl _ _ _ h ⟨hs.1, hc.1, ?_⟩
          have := fndO_len s.found (trimE nm)
          have := hs.2.2
          show (fndO s.found (trimE nm)).length ≤ s.n + 1
          omega
      · rw [if_neg hc] at h
        cases h
theorem inclO_ok {F : Bs → Option Bs} {nm : Bs} {s : Kst} {p : Bs × Kst} (h : inclO F nm s = some p) (hs : Ok3 s) : p.2.whole = s.whole ∧ Ok3 p.2 := by
  unfold inclO at h
  by_cases hc : s.n + 1 ≤ 1000 ∧ rightL nm = true
  · rw [if_pos hc] at h
    cases hF : F nm with
    | none => rw [hF] at h; cases h
    | some b =>
      rw [hF] at h
      cases h
      refine ⟨rfl, hs.1, hc.1, ?_⟩
      have := fndO_len s.found nm
      have := hs.2.2
      show (fndO s.found nm).length ≤ s.n + 1
      omega
  · rw [if_neg hc] at h
    cases h
theorem trimE_len (l : Bs) : (trimE l).length ≤ l.length := by
  unfold trimE
  split
  · rw [List.length_dropLast]; omega
  · exact Nat.le_refl _
theorem foldO_ok {S : Type} {f : Bs → S → Option S} {P : S → Prop} (hf : ∀ l s t, f l s = some t → P s → P t) : ∀ (L : List Bs) (s t : S), foldO f L s = some t → P s → P t
  | [], s, t, h, hs => by cases h; exact hs
  | l :: L, s, t, h, hs => by
    rw [foldO] at h
    cases hl : f l s with
    | none => rw [hl] at h; cases h
    | some u =>
      rw [hl] at h
      exact foldO_ok hf L u t h (hf l s u hl hs)
theorem putO_ok (F : Bs → Option Bs) : ∀ (r : Nat) (b : Bs) (s t : Kst), putO F r b s = some t → Ok3 s → Ok3 t
  | 0, b, s, t, h, hs => foldO_ok (fun l s t h hs => lineO_ok (fun f0 e => by cases e) h hs) _ s t h hs
  | r + 1, b, s, t, h, hs => foldO_ok (fun l s t h hs => lineO_ok (fun f0 e => by cases e; exact putO_ok F r) h hs) _ s t h hs
def recO (F : Bs → Option Bs) : Nat → Option (Bs → Kst → Option Kst)
  | 0 => none
  | r + 1 => some (putO F r)
theorem putO_eq (F : Bs → Option Bs) (r : Nat) (b : Bs) (s : Kst) : putO F r b s = foldO (lineO F (recO F r)) (linesA b) s := by
  cases r <;> rfl

/-! ### what arguments are -/
def argO (decl : List Bs) (F : Bs → Option Bs) (s : Bs) : Option Bs := if decl.contains s then F s else none
def catO (decl : List Bs) (F : Bs → Option Bs) : List Bs → Bs → Option Bs := foldO fun a acc => (argO decl F a).bind (growO acc)

/-! ### a command that has the form -/
def wOnce : Bs := [111, 110, 99, 101]
def wInc : Bs := [105, 110, 99]
structure Cmd where
  once : Bool
  verb : Bs
  args : List Bs
  outs : List Bs
  dep : Bs
def offOnce : List Bs → Bool × List Bs
  | [] => (false, [])
  | x :: r => if x = wOnce then (true, r) else (false, x :: r)
def okOuts (outs : List Bs) : Bool := !outs.isEmpty && outs.all rightL && decide ((onceL outs).length = outs.length)
def depOf (parted : Bool) (deps : List Bs) : Option Bs :=
  if parted then (match deps with
    | [d] => if rightL d then some d else none
    | _ => none) else some []
def readB (on : Bool) (verb : Bs) (args : List Bs) (c : List Bs × List Bs × Bool) : Option Cmd :=
  if (verbF verb).isSome && okOuts c.1 && (c.2.2 == decide (verb = wInc)) then (depOf c.2.2 c.2.1).map (fun d => ⟨on, verb, args, c.1, d⟩) else none
def readA (on : Bool) : List Bs × List Bs × Bool → Option Cmd
  | (verb :: args, behind, true) => readB on verb args (cutW [58] behind)
  | _ => none
def readL (ws : List Bs) : Option Cmd := readA (offOnce ws).1 (cutW [62] (offOnce ws).2)
end Go.Proofs.YtgledabcfonbeaaGreatDoor.Df

/-! WHAT FAILS: need, a file's bytes, an argument's, grown, cat. -/
namespace Go.Proofs.YtgledabcfonbeaaGreatDoor.Df
open Go.RowKit Go.Maps Go.Proofs.YtgledabcfonbeaaGreatDoor

def pch : List PanicEntry := [{ v := pz, recovered := false }]
theorem need_f (w : World) : Calls Tryz.prog 32 #[.bool false] w fun e w' => e = .panicked pch ∧ w = w' := by
  go_enter Tryz.func32, Tryz.ntmps32
  go_wp2_with fail
  exact ⟨rfl, rfl, rfl⟩
theorem need_a (b : Bool) (w : World) : Calls Tryz.prog 32 #[.bool b] w fun e w' => e = (if b then .returned (.tuple #[]) else .panicked pch) ∧ w = w' := by
  cases b with
  | true => exact (need_t w).mono fun e w' h => h
  | false => exact (need_f w).mono fun e w' h => h

/-- a kitchen, as it is read -/
def Kn (W : World) (k m0 m1 m2 : Nat) (n : Int) (fv : Value) (decl : List Bs) (n0 : Nat) (T : List Value) (F : Bs → Option Value) (n1 : Nat) : Prop :=
  W.heap[k]? = some (KtO m0 m1 n fv m2) ∧ Si W n0 m0 (fun l => decl.contains l) ∧ Vi W n1 m1 T F ∧ zFile ∈ T
theorem Kn.below {W W' : World} {k m0 m1 m2 n0 n1 : Nat} {n : Int} {fv : Value} {decl : List Bs} {T : List Value} {F : Bs → Option Value} (h : Kn W k m0 m1 m2 n fv decl n0 T F n1) (hb : Below W.heap.size W W') : Kn W' k m0 m1 m2 n fv decl n0 T F n1 := by
  obtain ⟨h1, h2, h3, h4⟩ := h
  exact ⟨(hb.block _ (lt_some h1)).trans h1, h2.kept (hb.block _ h2.lt), h3.kept (hb.block _ h3.lt), h4⟩
/-- the files of F' bear the bytes of F -/
def FT (W : World) (F' : Bs → Option Value) (F : Bs → Option Bs) : Prop :=
  ∀ s, match F s with
    | some b => ∃ f0 ua uc, F' s = some (.agg #[.string f0, .slice ua b.length uc]) ∧ Byt W (.slice ua b.length uc) b ∧ b.length ≤ 1000000 ∧ uc ≤ 9223372036854775807
    | none => F' s = none
theorem FT.below {W W' : World} {F' : Bs → Option Value} {F : Bs → Option Bs} (h : FT W F' F) (hb : Below W.heap.size W W') : FT W' F' F := fun s => by
  have := h s
  split at this <;> rename_i hs
  · obtain ⟨f0, ua, uc, h1, h2, h3⟩ := this
    exact ⟨f0, ua, uc, h1, h2.below hb, h3⟩
  · exact this

/-- the bytes of the file s -/
def At (F' : Bs → Option Value) (s : Bs) (v : Value) : Prop := ∃ f0, F' s = some (.agg #[.string f0, v])
theorem FT.at {W : World} {F' : Bs → Option Value} {F : Bs → Option Bs} (h : FT W F' F) {s b : Bs} {v : Value} (hb : F s = some b) (hv : At F' s v) : Byt W v b ∧ b.length ≤ 1000000 ∧ ∀ a n c, v = .slice a n c → c ≤ 9223372036854775807 := by
  have := h s
  rw [hb] at this
  obtain ⟨f0, ua, uc, h1, h2, h3, h4⟩ := this
  obtain ⟨f1, h5⟩ := hv
  rw [h1] at h5
  cases h5
  exact ⟨h2, h3, fun a n c e => by cases e; exact h4⟩

/-- what a call comes to that may fail -/
def Fa {α : Type} (o : Option α) (Q : α → Ending → Prop) (e : Ending) : Prop := match o with
  | some a => Q a e
  | none => e = .panicked pch

section
variable {W : World} {k m0 m1 m2 n0 n1 : Nat} {n : Int} {fv : Value} {decl : List Bs} {T : List Value} {F' : Bs → Option Value} {F : Bs → Option Bs}
set_option maxRecDepth 100000 in
set_option maxHeartbeats 4000000 in
theorem file_a (h : Kn W k m0 m1 m2 n fv decl n0 T F' n1) (hF : FT W F' F) {s : Bs} (hs : s.length ≤ 1000000) :
    Calls Tryz.prog 73 #[.pointer (some ⟨k, 0, none⟩), .string (mk s)] W fun e w' => Fa (F s) (fun b e => ∃ v, e = .returned v ∧ Byt w' v b ∧ At F' s v) e ∧ Below W.heap.size W w' := by
  obtain ⟨h1, h2, h3, h4⟩ := h
  have hf := hF s
  have c1 : W.cell? ⟨k, 1, none⟩ = some (.map (some m1)) := by simp [World.cell?, h1, KtO]
  cases hb : F s with
  | none =>
    rw [hb] at hf
    have hl := h3.miss h4 (s := s) (by unfold maxLen; omega) hf
    have hl2 : (Instr.lookup 82 (.map (some m1)) (.string (mk s)) true).run Tryz.prog W = .ok (.tuple #[.agg #[.string ⟨#[]⟩, .slice none 0 0], .bool false]) W := hl
    have hn := need_f (W.alloc (.cells #[.string ⟨#[]⟩, .slice none 0 0] 52))
    have HB := Lib.hid (below_alloc W (.cells #[.string ⟨#[]⟩, .slice none 0 0] 52))
    clear h1 h2 h3 h4 hf hF hb hl
    go_enter Tryz.func73, Tryz.ntmps73
    go_wp2_with fail
    refine hn.mono ?_
    rintro e w1 ⟨rfl, rfl⟩
    exact ⟨rfl, rfl, HB.out⟩
  | some b =>
    rw [hb] at hf
    obtain ⟨f0, ua, uc, hf, hby, hbl, -⟩ := hf
    have HAT : Hid (At F' s (.slice ua b.length uc)) := Lib.hid ⟨f0, hf⟩
    have hl := h3.look h4 (s := s) (by unfold maxLen; omega) hf
    have hn := need_t (W.alloc (.cells #[.string f0, .slice ua b.length uc] 52))
    have HB := Lib.hid (below_alloc W (.cells #[.string f0, .slice ua b.length uc] 52))
    have HY := Lib.hid hby
    clear h1 h2 h3 h4 hf hF hb hby
    go_enter Tryz.func73, Tryz.ntmps73
    go_wp2_with fail
    refine hn.mono ?_
    rintro e w1 ⟨rfl, rfl⟩
    clear hn
    go_wp2_with fail
    go_ret
    exact ⟨⟨_, rfl, HY.out.below HB.out, HAT.out⟩, HB.out⟩

set_option maxRecDepth 100000 in
set_option maxHeartbeats 4000000 in
theorem argument_a (h : Kn W k m0 m1 m2 n fv decl n0 T F' n1) (hF : FT W F' F) {s : Bs} (hs : s.length ≤ 1000000) :
    Calls Tryz.prog 62 #[.pointer (some ⟨k, 0, none⟩), .string (mk s)] W fun e w' => Fa (argO decl F s) (fun b e => ∃ v, e = .returned v ∧ Byt w' v b ∧ At F' s v) e ∧ Below W.heap.size W w' := by
  have hA := below_alloc W (.cells #[] 85)
  have cf := file_a (h.below hA) (hF.below hA) hs
  have HA := Lib.hid hA
  obtain ⟨h1, h2, h3, h4⟩ := h
  have c1 : W.cell? ⟨k, 0, none⟩ = some (.map (some m0)) := by simp [World.cell?, h1, KtO]
  have hl := h2.look (s := s) (by unfold maxLen; omega)
  have hn := need_a (decl.contains s) (W.alloc (.cells #[] 85))
  unfold argO
  clear h1 h2 h3 h4 hF hA
  cases hd : decl.contains s with
  | false =>
    rw [hd] at hl hn
    have HD := Lib.hid hd
    clear hd cf
    go_enter Tryz.func62, Tryz.ntmps62
    go_wp2_with fail
    refine hn.mono ?_
    rintro e w1 ⟨rfl, rfl⟩
    exact ⟨rfl, rfl, HA.out⟩
  | true =>
    rw [hd] at hl hn
    clear hd
    rw [if_pos rfl]
    obtain ⟨o, ho⟩ : ∃ o, F s = o := ⟨_, rfl⟩
    rw [ho] at cf ⊢
    clear ho
    go_enter Tryz.func62, Tryz.ntmps62
    go_wp2_with fail
    refine hn.mono ?_
    rintro e w1 ⟨rfl, rfl⟩
    clear hn
    go_wp2_with fail
    refine cf.mono ?_
    rintro e w2 ⟨hq, hb2⟩
    have HB := Lib.hid (HA.out.trans (hb2.mono HA.out.size))
    cases o with
    | none =>
      obtain rfl : e = .panicked pch := hq
      exact ⟨rfl, rfl, HB.out⟩
    | some b =>
      obtain ⟨v, rfl, hv⟩ := hq
      have HV := Lib.hid hv
      clear cf hb2 hv
      go_wp2_with fail
      go_ret
      exact ⟨⟨_, rfl, HV.out⟩, HB.out⟩
end

theorem own_slice {w : World} {base : Nat} {e : TypeId} {sz : Nat} {v : Value} {n : Nat} {xs : List Value} (h : w.ownsRow base e sz v n xs) : ∃ a c, v = .slice a n c := by
  rcases h.2 with ⟨rfl, h0⟩ | ⟨g, cap, cur, rfl, _⟩
  · exact ⟨none, 0, by rw [h0]⟩
  · exact ⟨_, _, rfl⟩
theorem own_lo {w : World} {base : Nat} {e : TypeId} {sz : Nat} {v : Value} {n : Nat} {xs : List Value} (h : w.ownsRow base e sz v n xs) : ∀ g, v.ownBlock = some g → base ≤ g := fun _ hg => (owns_block h hg).1

set_option maxRecDepth 100000 in
set_option maxHeartbeats 4000000 in
theorem grown_f {W : World} {a ua : Option Addr} {c uc n m : Nat} (hl : ¬ n + m ≤ 65536) (hn : n ≤ 1000000) (hm : m ≤ 1000000) :
    Calls Tryz.prog 61 #[.slice a n c, .slice ua m uc] W fun e w' => e = .panicked pch ∧ W = w' := by
  have hf := need_f W
  have d1 : decide ((n : Int) + (m : Int) ≤ 65536) = false := decide_eq_false (by omega)
  go_enter Tryz.func61, Tryz.ntmps61
  go_wp2_with fail
  refine hf.mono ?_
  rintro e w1 ⟨rfl, rfl⟩
  exact ⟨rfl, rfl, rfl⟩
theorem grown_a {W : World} {base : Nat} {a : Option Addr} {c : Nat} {u : Value} {b m : Bs} (h : W.ownsRow base 5 1 (.slice a b.length c) b.length (bytesV b)) (hbase : base ≤ W.heap.size) (hm : Byt W u m) (hb1 : b.length ≤ 1000000) (hm1 : m.length ≤ 1000000) :
    Calls Tryz.prog 61 #[.slice a b.length c, u] W fun e w' => (match growO b m with
      | some r => GrQ W base (Value.slice a b.length c).ownBlock r e w'
      | none => e = .panicked pch ∧ W = w') := by
  unfold growO
  by_cases hl : b.length + m.length ≤ 65536
  · rw [if_pos hl]
    exact grown_c h hbase hm hl
  · rw [if_neg hl]
    obtain ⟨ua, uc, rfl, -, -, -⟩ := id hm
    exact grown_f hl hb1 hm1
end Go.Proofs.YtgledabcfonbeaaGreatDoor.Df

/-! cat, rev, put and fail, whatever they are given. -/
namespace Go.Proofs.YtgledabcfonbeaaGreatDoor.Df
open Go.RowKit Go.Maps Go.Proofs.YtgledabcfonbeaaGreatDoor

/-- what a verb that reads alone comes to: bytes of its own -/
def VeQ (W : World) (o : Option Bs) (e : Ending) (w' : World) : Prop :=
  Fa o (fun r e => ∃ v, e = .returned v ∧ w'.ownsRow W.heap.size 5 1 v r.length (bytesV r) ∧ r.length ≤ 65536) e ∧ Below W.heap.size W w'

theorem growO_len {a b r : Bs} (h : growO a b = some r) : r.length ≤ 65536 ∧ r = a ++ b := by
  unfold growO at h
  split at h
  · cases h; exact ⟨by rw [List.length_append]; assumption, rfl⟩
  · cases h

section
variable {W : World} {k m0 m1 m2 n0 n1 : Nat} {n : Int} {fv : Value} {decl : List Bs} {T : List Value} {F' : Bs → Option Value} {F : Bs → Option Bs}
set_option maxRecDepth 100000 in
set_option maxHeartbeats 8000000 in
theorem cat_a (h : Kn W k m0 m1 m2 n fv decl n0 T F' n1) (hF : FT W F' F) {av : Value} {A : List Bs} (hav : Strs W av A) (hal : A.length ≤ 1000000) (hax : ∀ a ∈ A, a.length ≤ 1000000) (hfb : ∀ s b, F s = some b → b.length ≤ 1000000) :
    Calls Tryz.prog 46 #[.pointer (some ⟨k, 0, none⟩), av] W (VeQ W (catO decl F A [])) := by
  have HK := Lib.hid h
  have HV := Lib.hid hav
  have HF := Lib.hid hF
  have HX := Lib.hid hax
  have HFB := Lib.hid hfb
  obtain ⟨aa, ac, rfl, -, -⟩ := hav
  clear h hF hax hfb
  go_enter Tryz.func46, Tryz.ntmps46
  go_wp2_with fail
  go_loopw [5, 7, 10] (fun o _ i wr => ∃ (j : Nat) (R : Bs) (oa : Option Addr) (oc : Nat), j ≤ A.length ∧ i = .int .i64 j ∧ o = .slice oa R.length oc ∧ Hid (catO decl F (A.take j) [] = some R) ∧ Hid (R.length ≤ 65536) ∧ Hid (wr.ownsRow W.heap.size 5 1 (.slice oa R.length oc) R.length (bytesV R)) ∧ Hid (Below W.heap.size W wr)) (fun _ _ i _ => A.length - (intOf i).toNat)
  case atStart => exact ⟨0, [], none, 0, Nat.zero_le _, rfl, rfl, Lib.hid rfl, Lib.hid (by simp), Lib.hid (World.ownsRow_nil _ _ _ _), Lib.hid (Below.refl _ _)⟩
  case round =>
    obtain ⟨j, R, oa, oc, hj, rfl, rfl, HC, HRL, hO, hBw⟩ := hrel
    by_cases hlt : j < A.length
    · have hx := List.getElem?_eq_getElem hlt
      have hal1 := HX.out _ (List.getElem_mem hlt)
      obtain ⟨_, _, e, _, hrow⟩ := HV.out.below hBw.out
      cases e
      rcases hrow with h0 | ⟨g, off, rfl, hg, hcell⟩
      · rw [h0] at hlt; simp at hlt
      have c0 := hcell j _ hx
      have hsn : catO decl F (A.take (j + 1)) [] = (argO decl F A[j]).bind (growO R) := foldO_snoc hx HC.out
      have hfl : catO decl F (A.take (j + 1)) [] = none → catO decl F A [] = none := fun h => foldO_fail h
      generalize A[j] = x at *
      have ca := argument_a (HK.out.below hBw.out) (HF.out.below hBw.out) hal1
      have hao : ∀ b, argO decl F x = some b → b.length ≤ 1000000 := fun b hb => by
        unfold argO at hb
        split at hb
        · exact HFB.out _ _ hb
        · cases hb
      have HSN := Lib.hid hsn
      have HFL := Lib.hid hfl
      have HAO := Lib.hid hao
      have hi0 : (0 : Int) ≤ (j : Int) := by omega
      have hi1 : (j : Int) < (A.length : Int) := by omega
      generalize argO decl F x = o at *
      clear hcell hx hsn hfl hao
      go_wp2_with fail
      refine ca.mono ?_
      rintro e w2 ⟨hq, hb2⟩
      have hO2 := owns_below hO.out hb2
      have HB2 := Lib.hid (hBw.out.trans (hb2.mono hBw.out.size))
      cases o with
      | none =>
        obtain rfl : e = .panicked pch := hq
        have HE := HFL.out (HSN.out.trans rfl)
        refine ⟨rfl, ?_, HB2.out⟩
        rw [HE]
        rfl
      | some b =>
      obtain ⟨v, rfl, hv, -⟩ := hq
      have cg := grown_a hO2 HB2.out.size hv (by have := HRL.out; omega) (HAO.out _ rfl)
      have HSN2 : Hid (catO decl F (A.take (j + 1)) [] = growO R b) := Lib.hid (HSN.out.trans rfl)
      have HLO := Lib.hid (own_lo hO2)
      clear ca hb2 hO2 hv HSN HAO
      have HGL : Hid (∀ r, growO R b = some r → r.length ≤ 65536) := Lib.hid fun r h => (growO_len h).1
      generalize growO R b = o2 at *
      go_wp2_with fail
      refine cg.mono ?_
      cases o2 with
      | none =>
        rintro e w3 ⟨rfl, rfl⟩
        have HE := HFL.out HSN2.out
        refine ⟨rfl, ?_, HB2.out⟩
        rw [HE]
        rfl
      | some r =>
      rintro e w3 ⟨a3, c3, rfl, ho3, hg3⟩
      have HO3 := Lib.hid ho3
      have HB3 := Lib.hid (grown_below HB2.out hg3 HLO.out)
      clear cg ho3 hg3
      go_wp2_with fail
      go_roundw
      case rel => exact ⟨j + 1, r, a3, c3, by omega, by go_num, rfl, HSN2, Lib.hid (HGL.out _ rfl), HO3, HB3⟩
      case measure => simp [intOf] <;> omega
    · obtain rfl : j = A.length := by omega
      have HTA : Hid (A.take A.length = A) := Lib.hid List.take_length
      go_wp2_with fail
      go_ret
      have hc := HC.out
      rw [HTA.out] at hc
      refine ⟨?_, hBw.out⟩
      rw [hc]
      exact ⟨_, rfl, hO.out, HRL.out⟩

set_option maxRecDepth 100000 in
set_option maxHeartbeats 4000000 in
theorem fail_a (W : World) (kv av : Value) : Calls Tryz.prog 51 #[kv, av] W (VeQ W none) := by
  go_enter Tryz.func51, Tryz.ntmps51
  go_wp2_with fail
  exact ⟨rfl, rfl, Below.refl _ _⟩
end
end Go.Proofs.YtgledabcfonbeaaGreatDoor.Df
