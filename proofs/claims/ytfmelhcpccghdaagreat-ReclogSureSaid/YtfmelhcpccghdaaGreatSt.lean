/-
  A DISK, AS THE PROOFS SPEAK OF IT: its numbers, its files by their places, what names lead to, what is not sure. No program, no world.
-/
namespace Go.Proofs.YtfmelhcpccghdaaGreat

structure Fl where
  bytes : List UInt8
  sure : Nat
  time : Nat

structure Ch where
  src : List UInt8
  dst : List UInt8
  file : Option Nat

structure Ds where
  quota : Nat
  clock : Nat
  deeds : Nat
  up : Bool
  left : Int
  now : List UInt8 → Option Nat
  sure : List UInt8 → Option Nat
  changes : List Ch
  files : Nat → Fl

def upd {A B : Type} [DecidableEq A] (f : A → B) (a : A) (b : B) : A → B := fun x => if x = a then b else f x
theorem upd_same {A B : Type} [DecidableEq A] (f : A → B) (a : A) (b : B) : upd f a b a = b := if_pos rfl
theorem upd_other {A B : Type} [DecidableEq A] (f : A → B) {a x : A} (b : B) (h : x ≠ a) : upd f a b x = f x := if_neg h

/-- the files that are led to, or may be again -/
def Ref (d : Ds) (i : Nat) : Prop := (∃ l, d.now l = some i) ∨ (∃ l, d.sure l = some i) ∨ (∃ c ∈ d.changes, c.file = some i)

/-- one change made in a directory -/
def turn1 (f : List UInt8 → Option Nat) (c : Ch) : List UInt8 → Option Nat :=
  match c.file with
  | none => upd f c.src none
  | some i => upd (upd f c.src none) c.dst (some i)
def turns (f : List UInt8 → Option Nat) (cs : List Ch) : List UInt8 → Option Nat := cs.foldl turn1 f

theorem turns_snoc (f : List UInt8 → Option Nat) (cs : List Ch) (c : Ch) : turns f (cs ++ [c]) = turn1 (turns f cs) c := by simp [turns]
theorem turns_nil (f : List UInt8 → Option Nat) : turns f [] = f := rfl

theorem turn1_none {c : Ch} (h : c.file = none) (f : List UInt8 → Option Nat) : turn1 f c = upd f c.src none := by unfold turn1; rw [h]
theorem turn1_file {c : Ch} {i : Nat} (h : c.file = some i) (f : List UInt8 → Option Nat) : turn1 f c = upd (upd f c.src none) c.dst (some i) := by unfold turn1; rw [h]
theorem turn1_some {f : List UInt8 → Option Nat} {c : Ch} {l : List UInt8} {i : Nat} (h : turn1 f c l = some i) : f l = some i ∨ c.file = some i := by
  cases hc : c.file with
  | none =>
    rw [turn1_none hc] at h
    by_cases e : l = c.src
    · rw [e, upd_same] at h; cases h
    · rw [upd_other _ _ e] at h; exact .inl h
  | some j =>
    rw [turn1_file hc] at h
    by_cases e : l = c.dst
    · rw [e, upd_same] at h; exact .inr h
    · rw [upd_other _ _ e] at h
      by_cases e : l = c.src
      · rw [e, upd_same] at h; cases h
      · rw [upd_other _ _ e] at h; exact .inl h

theorem turns_some : ∀ {cs : List Ch} {f : List UInt8 → Option Nat} {l : List UInt8} {i : Nat}, turns f cs l = some i → f l = some i ∨ ∃ c ∈ cs, c.file = some i
  | [], f, l, i, h => .inl h
  | c :: cs, f, l, i, h => by
    rcases turns_some (cs := cs) (f := turn1 f c) h with h1 | ⟨c', hc', h1⟩
    · rcases turn1_some h1 with h2 | h2
      · exact .inl h2
      · exact .inr ⟨c, by simp, h2⟩
    · exact .inr ⟨c', by simp [hc'], h1⟩

/-- a deed counts -/
def spent (d : Ds) : Ds := { d with left := if 0 < d.left then d.left - 1 else d.left, deeds := d.deeds + 1 }
/-- a change of the directory -/
def changed (d : Ds) (c : Ch) : Ds := { d with now := turn1 d.now c, changes := d.changes ++ [c] }
def ticked (d : Ds) : Ds := { d with clock := d.clock + 1 }
def setF (d : Ds) (i : Nat) (f : Fl) : Ds := { d with files := upd d.files i f }
/-- a file is laid at a new place -/
def written (d : Ds) (name : List UInt8) (bs : List UInt8) (i : Nat) : Ds :=
  changed (setF (ticked d) i ⟨bs, 0, d.clock⟩) ⟨[], name, some i⟩
def appended (d : Ds) (i : Nat) (bs : List UInt8) : Ds := setF (ticked d) i ⟨(d.files i).bytes ++ bs, (d.files i).sure, d.clock⟩
def cutF (d : Ds) (i n : Nat) : Ds := setF (ticked d) i ⟨(d.files i).bytes.take n, min (d.files i).sure n, d.clock⟩
def synced (d : Ds) (i : Nat) : Ds := setF d i ⟨(d.files i).bytes, (d.files i).bytes.length, (d.files i).time⟩
/-- the first n changes are sure, the others are forgotten -/
def settled (d : Ds) (n : Nat) : Ds := { d with sure := turns d.sure (d.changes.take n), changes := [] }
/-- a file loses what is not sure of it, but for a tail -/
def lost (d : Ds) (i : Nat) (t : Int) : Ds :=
  let f := d.files i
  if t < (f.bytes.length : Int) - f.sure then setF (ticked d) i ⟨f.bytes.take (f.sure + t.toNat), f.sure + t.toNat, d.clock⟩
  else setF d i ⟨f.bytes, f.bytes.length, f.time⟩
def tailOf (ts : List Int) (i : Nat) : Int := if ts = [] then 0 else max 0 (ts.getD (i % ts.length) 0)
/-- .. all files of these names, from the k-th on -/
def lostAll (ts : List Int) : Nat → List (List UInt8) → Ds → Ds
  | _, [], d => d
  | k, n :: ns, d => lostAll ts (k + 1) ns (match d.now n with | some i => lost d i (tailOf ts k) | none => d)
def back (d : Ds) (n : Nat) : Ds := let e := settled d n; { e with now := e.sure, up := true, left := -1 }

theorem ref_now {d : Ds} {l : List UInt8} {i : Nat} (h : d.now l = some i) : Ref d i := .inl ⟨l, h⟩
theorem ref_changed {d : Ds} {c : Ch} {i : Nat} (h : Ref (changed d c) i) : Ref d i ∨ c.file = some i := by
  rcases h with ⟨l, h⟩ | ⟨l, h⟩ | ⟨x, hx, h⟩
  · rcases turn1_some h with h1 | h1
    · exact .inl (ref_now h1)
    · exact .inr h1
  · exact .inl (.inr (.inl ⟨l, h⟩))
  · rcases List.mem_append.1 hx with hx | hx
    · exact .inl (.inr (.inr ⟨x, hx, h⟩))
    · rw [List.mem_singleton] at hx
      subst hx
      exact .inr h
theorem ref_settled {d : Ds} {n i : Nat} (h : Ref (settled d n) i) : Ref d i := by
  rcases h with ⟨l, h⟩ | ⟨l, h⟩ | ⟨x, hx, h⟩
  · exact .inl ⟨l, h⟩
  · rcases turns_some h with h1 | ⟨c, hc, h1⟩
    · exact .inr (.inl ⟨l, h1⟩)
    · exact .inr (.inr ⟨c, List.mem_of_mem_take hc, h1⟩)
  · cases hx
theorem ref_back {d : Ds} {n i : Nat} (h : Ref (back d n) i) : Ref d i := by
  rcases h with ⟨l, h⟩ | ⟨l, h⟩ | ⟨x, hx, h⟩
  · exact ref_settled (n := n) (.inr (.inl ⟨l, h⟩))
  · exact ref_settled (n := n) (.inr (.inl ⟨l, h⟩))
  · cases hx
end Go.Proofs.YtfmelhcpccghdaaGreat
