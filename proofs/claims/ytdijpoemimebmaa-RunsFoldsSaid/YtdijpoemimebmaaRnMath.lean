/-
  RUNS AND THEIR RECORDS, as lists of bytes: what a run is written as, what bytes are read as.
-/
import Derived.Test.YtdijpoemimebmaaPkF
import Derived.Test.YtdijpoemimebmaaCrc
namespace Go.Proofs.Ytdijpoemimebmaa.Rn
open Go.RowKit
open Go.Proofs.Ytdijpoemimebmaa.Cr

structure In where
  name : ByteArray
  time : Int

structure Run where
  out : ByteArray
  cmd : ByteArray
  time : Int
  mark : Int
  ins : List In
  found : List Int

def none : Run := ⟨⟨#[]⟩, ⟨#[]⟩, 0, 0, [], []⟩

/-- a part of a run, in a record's order -/
inductive Part where
  | T (s : ByteArray)
  | M (t : Int)
  | C (n : Nat)

def parts (r : Run) : List Part :=
  [.T r.out, .T r.cmd, .M r.time, .M r.mark, .C r.ins.length] ++ r.ins.flatMap (fun i => [.T i.name, .M i.time]) ++ [.C r.found.length] ++ r.found.map .M

def tx (s : ByteArray) : List Nat := Pk.le s.size 2 ++ Pk.sb s

def pb : Part → List Nat
  | .T s => tx s
  | .M t => Pk.le t.toNat 8
  | .C n => Pk.le n 4

def psz : Part → Nat
  | .T s => 2 + s.size
  | .M _ => 8
  | .C _ => 4

def pneg : Part → Bool
  | .M t => decide (t < 0)
  | _ => false

def size (ps : List Part) : Nat := (ps.map psz).sum
def neg (ps : List Part) : Bool := ps.any pneg
def bytes (ps : List Part) : List Nat := ps.flatMap pb

theorem size_app (a b : List Part) : size (a ++ b) = size a + size b := by simp [size]
theorem neg_app (a b : List Part) : neg (a ++ b) = (neg a || neg b) := by simp [neg]
theorem bytes_app (a b : List Part) : bytes (a ++ b) = bytes a ++ bytes b := by simp [bytes]

theorem pb_length (p : Part) : (pb p).length = psz p := by
  cases p <;> simp [pb, psz, tx, Pk.le_length, Pk.sb_length]

theorem bytes_length (ps : List Part) : (bytes ps).length = size ps := by
  induction ps with
  | nil => rfl
  | cons p ps ih =>
    have : bytes (p :: ps) = pb p ++ bytes ps := by simp [bytes]
    rw [this, List.length_append, pb_length, ih]
    simp [size]

theorem pb_lt (p : Part) : ∀ n ∈ pb p, n < 256 := by
  cases p with
  | T s => exact Pk.app_lt (Pk.le_lt _ _) (Pk.sb_lt _)
  | M t => exact Pk.le_lt _ _
  | C n => exact Pk.le_lt _ _

theorem bytes_lt (ps : List Part) : ∀ n ∈ bytes ps, n < 256 := by
  intro n hn
  obtain ⟨p, _, h⟩ := List.mem_flatMap.1 hn
  exact pb_lt p n h

/-- a run's record -/
def recB (r : Run) : List Nat := Pk.le (Crc.hash (Pk.sb r.cmd)) 8 ++ bytes (parts r)

def negR (r : Run) : Bool := neg (parts r)
def sizeR (r : Run) : Nat := 8 + size (parts r)

theorem recB_length (r : Run) : (recB r).length = sizeR r := by simp [recB, sizeR, Pk.le_length, bytes_length]
theorem recB_lt (r : Run) : ∀ n ∈ recB r, n < 256 := Pk.app_lt (Pk.le_lt _ _) (bytes_lt _)

/-- what Write tells: an error's number, a record's bytes -/
def wrE (r : Run) : Nat := if negR r then 1 else if 4096 < sizeR r then 3 else 0
def wrB (r : Run) : List Nat := if wrE r = 0 then recB r else []

/-! READING -/

/-- what is read so far: what is left, whether there was not enough, whether a time was too late -/
structure St where
  l : List Nat
  bad : Bool
  late : Bool

def lateB (n : Nat) : Bool := decide (4611686018427387904 ≤ n)

/-- behind a time, a text, a count -/
def St.time (s : St) : St := ⟨Pk.rdL 8 s.l, Pk.rdB 8 s.l s.bad, s.late || lateB (Pk.rdN 8 s.l)⟩
def St.text (s : St) : St := ⟨Pk.txL s.l, Pk.txB s.l s.bad, s.late⟩
def St.count (s : St) : St := ⟨Pk.rdL 4 s.l, Pk.rdB 4 s.l s.bad, s.late⟩

/-- the times and texts that are read -/
def St.tm (s : St) : Nat := Pk.rdN 8 s.l
def St.tx (s : St) : ByteArray := Pk.str (Pk.txS s.l)
def St.ct (s : St) : Nat := Pk.rdN 4 s.l

/-- k inputs, behind each other, up to where there is not enough -/
def insK : Nat → St → List (ByteArray × Nat) × St
  | 0, s => ([], s)
  | k + 1, s =>
    let (L, t) := insK k s
    if t.bad then (L, t) else (L ++ [(t.tx, t.text.tm)], t.text.time)

def fdsK : Nat → St → List Nat × St
  | 0, s => ([], s)
  | k + 1, s =>
    let (L, t) := fdsK k s
    if t.bad then (L, t) else (L ++ [t.tm], t.time)

theorem insK_bad {k : Nat} {s : St} (h : (insK k s).2.bad = true) : ∀ m, k ≤ m → insK m s = insK k s := by
  intro m hm
  induction m with
  | zero => obtain rfl : k = 0 := by omega
            rfl
  | succ m ih =>
    by_cases e : k = m + 1
    · rw [e]
    · have := ih (by omega)
      simp only [insK, this, h, if_true]

theorem fdsK_bad {k : Nat} {s : St} (h : (fdsK k s).2.bad = true) : ∀ m, k ≤ m → fdsK m s = fdsK k s := by
  intro m hm
  induction m with
  | zero => obtain rfl : k = 0 := by omega
            rfl
  | succ m ih =>
    by_cases e : k = m + 1
    · rw [e]
    · have := ih (by omega)
      simp only [fdsK, this, h, if_true]

/-- the states of a reading, one behind the other -/
def s0 (b : List Nat) : St := ⟨b, false, false⟩
def s1 (b : List Nat) : St := ⟨Pk.rdL 8 b, Pk.rdB 8 b false, false⟩
def s2 (b : List Nat) : St := (s1 b).text
def s3 (b : List Nat) : St := (s2 b).text
def s4 (b : List Nat) : St := (s3 b).time
def s5 (b : List Nat) : St := (s4 b).time
def s6 (b : List Nat) : St := (s5 b).count
def s7 (b : List Nat) : St := (insK (s5 b).ct (s6 b)).2
def s8 (b : List Nat) : St := (s7 b).count
def s9 (b : List Nat) : St := (fdsK (s7 b).ct (s8 b)).2

def rdIns (b : List Nat) : List (ByteArray × Nat) := (insK (s5 b).ct (s6 b)).1
def rdFds (b : List Nat) : List Nat := (fdsK (s7 b).ct (s8 b)).1

/-- is it a run's record? -/
def fits (b : List Nat) : Bool := !(s9 b).bad && (s9 b).l.isEmpty && !(s9 b).late && (Pk.rdN 8 b == Crc.hash (Pk.txS (s2 b).l))

def rdR (b : List Nat) : Run :=
  ⟨(s1 b).tx, (s2 b).tx, (s3 b).tm, (s4 b).tm, (rdIns b).map fun x => ⟨x.1, x.2⟩, (rdFds b).map fun (n : Nat) => (n : Int)⟩
end Go.Proofs.Ytdijpoemimebmaa.Rn
