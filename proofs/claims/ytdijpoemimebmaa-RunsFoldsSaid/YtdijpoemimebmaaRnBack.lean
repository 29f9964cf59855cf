/-
  WHAT IS WRITTEN IS READ, AND WHAT IS READ WAS WRITTEN: runs' records, as lists of bytes.
-/
import Derived.Test.YtdijpoemimebmaaRnMath
namespace Go.Proofs.Ytdijpoemimebmaa.Rn
open Go.RowKit
open Go.Proofs.Ytdijpoemimebmaa.Cr

theorem num_inj : ∀ {a b : List Nat}, (∀ n ∈ a, n < 256) → (∀ n ∈ b, n < 256) → a.length = b.length → Pk.num a = Pk.num b → a = b
  | [], [], _, _, _, _ => rfl
  | [], _ :: _, _, _, h, _ => by simp at h
  | _ :: _, [], _, _, h, _ => by simp at h
  | x :: a, y :: b, ha, hb, hl, hn => by
    have h1 := ha x (by simp)
    have h2 := hb y (by simp)
    simp only [Pk.num] at hn
    have hx : x = y := by omega
    have hr : Pk.num a = Pk.num b := by omega
    rw [hx, num_inj (fun n hn => ha n (by simp [hn])) (fun n hn => hb n (by simp [hn])) (by simpa using hl) hr]

theorem le_num {t : List Nat} (ht : ∀ n ∈ t, n < 256) : Pk.le (Pk.num t) t.length = t := by
  refine num_inj (Pk.le_lt _ _) ht (Pk.le_length _ _) ?_
  rw [Pk.num_le, Nat.mod_eq_of_lt (Pk.num_lt t ht)]

/-- what was read as a number was its bytes -/
theorem rd_inv {k : Nat} {l : List Nat} {bad : Bool} (hl : ∀ n ∈ l, n < 256) (h : Pk.rdB k l bad = false) : bad = false ∧ l = Pk.le (Pk.rdN k l) k ++ Pk.rdL k l := by
  unfold Pk.rdB at h
  split at h
  · rename_i hk
    refine ⟨h, ?_⟩
    unfold Pk.rdN Pk.rdL
    rw [if_pos hk, if_pos hk]
    have hlen : (l.take k).length = k := by simp; omega
    have := le_num (Pk.take_lt hl k)
    rw [hlen] at this
    rw [this, List.take_append_drop]
  · cases h

theorem tx_inv {l : List Nat} {bad : Bool} (hl : ∀ n ∈ l, n < 256) (h : Pk.txB l bad = false) : bad = false ∧ l = tx (Pk.str (Pk.txS l)) ++ Pk.txL l ∧ (Pk.str (Pk.txS l)).size ≤ 65535 := by
  unfold Pk.txB at h
  have hl2 := Pk.rdL_lt 2 hl
  have hm : Pk.rdN 2 l ≤ (Pk.rdL 2 l).length := by
    unfold Pk.rdB at h
    split at h
    · assumption
    · cases h
  have hb : Pk.rdB 2 l bad = false := by
    unfold Pk.rdB at h ⊢
    rw [if_pos hm] at h
    exact h
  obtain ⟨e1, e2⟩ := rd_inv hl hb
  have hn := Pk.rdN_lt 2 hl
  have hS : Pk.txS l = (Pk.rdL 2 l).take (Pk.rdN 2 l) := if_pos hm
  have hL : Pk.txL l = (Pk.rdL 2 l).drop (Pk.rdN 2 l) := if_pos hm
  have hlt : ∀ n ∈ Pk.txS l, n < 256 := by rw [hS]; exact Pk.take_lt hl2 _
  have hlen : (Pk.txS l).length = Pk.rdN 2 l := by rw [hS, List.length_take]; omega
  refine ⟨e1, ?_, ?_⟩
  · unfold tx
    rw [Pk.str_size, Pk.sb_str hlt, hlen, hS, hL, List.append_assoc, List.take_append_drop]
    exact e2
  · rw [Pk.str_size, hlen]
    omega

def insP (L : List In) : List Part := L.flatMap fun i => [.T i.name, .M i.time]

theorem insP_snoc (L : List In) (x : In) : bytes (insP (L ++ [x])) = bytes (insP L) ++ (tx x.name ++ Pk.le x.time.toNat 8) := by
  simp [insP, bytes, pb]

theorem fdP_snoc (L : List Int) (x : Int) : bytes ((L ++ [x]).map .M) = bytes (L.map .M) ++ Pk.le x.toNat 8 := by
  simp [bytes, pb]

def In.of (x : ByteArray × Nat) : In := ⟨x.1, x.2⟩

theorem rdN_lt8 {l : List Nat} (hl : ∀ n ∈ l, n < 256) : Pk.rdN 8 l < 18446744073709551616 := by have := Pk.rdN_lt 8 hl; simpa using this

def St.Lt (s : St) : Prop := ∀ n ∈ s.l, n < 256
theorem St.Lt.text {s : St} (h : s.Lt) : s.text.Lt := by
  show ∀ n ∈ Pk.rdL _ _, n < 256
  exact Pk.rdL_lt _ (Pk.rdL_lt 2 h)
theorem St.Lt.time {s : St} (h : s.Lt) : s.time.Lt := Pk.rdL_lt 8 h
theorem St.Lt.count {s : St} (h : s.Lt) : s.count.Lt := Pk.rdL_lt 4 h

theorem insK_lt {s : St} (h : s.Lt) : ∀ k, (insK k s).2.Lt := by
  intro k
  induction k with
  | zero => exact h
  | succ k ih =>
    simp only [insK]
    split
    · exact ih
    · exact ih.text.time

theorem fdsK_lt {s : St} (h : s.Lt) : ∀ k, (fdsK k s).2.Lt := by
  intro k
  induction k with
  | zero => exact h
  | succ k ih =>
    simp only [fdsK]
    split
    · exact ih
    · exact ih.time

/-- texts and times that are read are those that were written -/
theorem text_fwd (s : ByteArray) (hs : s.size ≤ 65535) (r : List Nat) (lt : Bool) : (St.mk (tx s ++ r) false lt).tx = s ∧ (St.mk (tx s ++ r) false lt).text = ⟨r, false, lt⟩ := by
  obtain ⟨h1, h2, h3⟩ := Pk.tx_le s r hs
  unfold St.tx St.text tx
  refine ⟨?_, ?_⟩
  · show Pk.str (Pk.txS (Pk.le s.size 2 ++ Pk.sb s ++ r)) = s
    rw [h1, Pk.str_sb]
  · show St.mk (Pk.txL (Pk.le s.size 2 ++ Pk.sb s ++ r)) (Pk.txB (Pk.le s.size 2 ++ Pk.sb s ++ r) false) lt = _
    rw [h2, h3]

theorem time_fwd (n : Nat) (hn : n < 18446744073709551616) (r : List Nat) (lt : Bool) : (St.mk (Pk.le n 8 ++ r) false lt).tm = n ∧ (St.mk (Pk.le n 8 ++ r) false lt).time = ⟨r, false, lt || lateB n⟩ := by
  obtain ⟨h1, h2, h3⟩ := Pk.rd_le 8 n r
  rw [Nat.mod_eq_of_lt (by omega)] at h1
  unfold St.tm St.time
  refine ⟨h1, ?_⟩
  show St.mk (Pk.rdL 8 (Pk.le n 8 ++ r)) (Pk.rdB 8 (Pk.le n 8 ++ r) false) (lt || lateB (Pk.rdN 8 (Pk.le n 8 ++ r))) = _
  rw [h1, h2, h3]

theorem count_fwd (n : Nat) (hn : n < 4294967296) (r : List Nat) (lt : Bool) : (St.mk (Pk.le n 4 ++ r) false lt).ct = n ∧ (St.mk (Pk.le n 4 ++ r) false lt).count = ⟨r, false, lt⟩ := by
  obtain ⟨h1, h2, h3⟩ := Pk.rd_le 4 n r
  rw [Nat.mod_eq_of_lt (by omega)] at h1
  unfold St.ct St.count
  refine ⟨h1, ?_⟩
  show St.mk (Pk.rdL 4 (Pk.le n 4 ++ r)) (Pk.rdB 4 (Pk.le n 4 ++ r) false) lt = _
  rw [h2, h3]

/-- is a run such that a record's numbers tell all? -/
structure Fit (r : Run) : Prop where
  out : r.out.size ≤ 65535
  cmd : r.cmd.size ≤ 65535
  time : r.time < 9223372036854775808
  mark : r.mark < 9223372036854775808
  ins : ∀ i ∈ r.ins, i.name.size ≤ 65535 ∧ i.time < 9223372036854775808
  fds : ∀ t ∈ r.found, t < 9223372036854775808
  insN : r.ins.length < 4294967296
  fdsN : r.found.length < 4294967296

def lateT (t : Int) : Bool := lateB t.toNat
def lateR (r : Run) : Bool := lateT r.time || lateT r.mark || r.ins.any (fun i => lateT i.time) || r.found.any lateT

theorem snoc_ind {α : Type} {P : List α → Prop} (h0 : P []) (hs : ∀ L x, P L → P (L ++ [x])) (L : List α) : P L := by
  have h : ∀ K : List α, P K.reverse := by
    intro K
    induction K with
    | nil => exact h0
    | cons x K ih => rw [List.reverse_cons]; exact hs _ x ih
  have := h L.reverse
  rwa [List.reverse_reverse] at this

theorem ins_fwd (L : List In) : (∀ i ∈ L, i.name.size ≤ 65535 ∧ i.time < 9223372036854775808) → ∀ (r : List Nat) (lt : Bool),
    insK L.length ⟨bytes (insP L) ++ r, false, lt⟩ = (L.map fun i => (i.name, i.time.toNat), ⟨r, false, lt || L.any fun i => lateT i.time⟩) := by
  induction L using snoc_ind with
  | h0 => intro _ r lt; simp [insK, insP, bytes]
  | hs L x ih =>
    intro h r lt
    have hx := h x (by simp)
    rw [List.length_append, List.length_singleton, insP_snoc]
    simp only [insK]
    rw [List.append_assoc (bytes (insP L)), ih (fun i hi => h i (by simp [hi]))]
    obtain ⟨a1, a2⟩ := text_fwd x.name hx.1 (Pk.le x.time.toNat 8 ++ r) (lt || L.any fun i => lateT i.time)
    obtain ⟨b1, b2⟩ := time_fwd x.time.toNat (by omega) r (lt || L.any fun i => lateT i.time)
    rw [← List.append_assoc] at a1 a2
    simp only [Bool.false_eq_true, if_false]
    rw [a1, a2, b1, b2]
    simp [lateT, Bool.or_assoc]

theorem fds_fwd (L : List Int) : (∀ t ∈ L, t < 9223372036854775808) → ∀ (r : List Nat) (lt : Bool),
    fdsK L.length ⟨bytes (L.map .M) ++ r, false, lt⟩ = (L.map Int.toNat, ⟨r, false, lt || L.any lateT⟩) := by
  induction L using snoc_ind with
  | h0 => intro _ r lt; simp [fdsK, bytes]
  | hs L x ih =>
    intro h r lt
    have hx := h x (by simp)
    rw [List.length_append, List.length_singleton, fdP_snoc]
    simp only [fdsK]
    rw [List.append_assoc (bytes _), ih (fun i hi => h i (by simp [hi]))]
    obtain ⟨b1, b2⟩ := time_fwd x.toNat (by omega) r (lt || L.any lateT)
    simp only [Bool.false_eq_true, if_false]
    rw [b1, b2]
    simp [lateT, Bool.or_assoc]

theorem bytes_parts (r : Run) : bytes (parts r) = tx r.out ++ (tx r.cmd ++ (Pk.le r.time.toNat 8 ++ (Pk.le r.mark.toNat 8 ++ (Pk.le r.ins.length 4 ++ (bytes (insP r.ins) ++ (Pk.le r.found.length 4 ++ bytes (r.found.map .M))))))) := by
  simp [parts, bytes, pb, insP]

/-- a record, and whatever stands behind it, is read as it was written -/
theorem read_fwd (h : Nat) (hh : h < 18446744073709551616) (r : Run) (hr : Fit r) (e : List Nat) (b : List Nat) (hb : b = Pk.le h 8 ++ bytes (parts r) ++ e) :
    Pk.rdN 8 b = h ∧ (s1 b).tx = r.out ∧ (s2 b).tx = r.cmd ∧ (s3 b).tm = r.time.toNat ∧ (s4 b).tm = r.mark.toNat ∧ rdIns b = (r.ins.map fun i => (i.name, i.time.toNat)) ∧ rdFds b = r.found.map Int.toNat ∧
      s9 b = ⟨e, false, lateR r⟩ := by
  obtain ⟨h1, h2, h3⟩ := Pk.rd_le 8 h (bytes (parts r) ++ e)
  rw [Nat.mod_eq_of_lt (by omega)] at h1
  rw [List.append_assoc] at hb
  rw [← hb] at h1 h2 h3
  have g1 : s1 b = ⟨bytes (parts r) ++ e, false, false⟩ := by unfold s1; rw [h2, h3]
  rw [bytes_parts] at g1
  simp only [List.append_assoc] at g1
  obtain ⟨a1, a2⟩ := text_fwd r.out hr.out (tx r.cmd ++ (Pk.le r.time.toNat 8 ++ (Pk.le r.mark.toNat 8 ++ (Pk.le r.ins.length 4 ++ (bytes (insP r.ins) ++ (Pk.le r.found.length 4 ++ (bytes (r.found.map .M) ++ e))))))) false
  have g2 := (congrArg St.text g1).trans a2
  obtain ⟨b1, b2⟩ := text_fwd r.cmd hr.cmd (Pk.le r.time.toNat 8 ++ (Pk.le r.mark.toNat 8 ++ (Pk.le r.ins.length 4 ++ (bytes (insP r.ins) ++ (Pk.le r.found.length 4 ++ (bytes (r.found.map .M) ++ e)))))) false
  have g3 := (congrArg St.text g2).trans b2
  have ht := hr.time
  have hm := hr.mark
  obtain ⟨c1, c2⟩ := time_fwd r.time.toNat (by omega) (Pk.le r.mark.toNat 8 ++ (Pk.le r.ins.length 4 ++ (bytes (insP r.ins) ++ (Pk.le r.found.length 4 ++ (bytes (r.found.map .M) ++ e))))) false
  have g4 := (congrArg St.time g3).trans c2
  obtain ⟨d1, d2⟩ := time_fwd r.mark.toNat (by omega) (Pk.le r.ins.length 4 ++ (bytes (insP r.ins) ++ (Pk.le r.found.length 4 ++ (bytes (r.found.map .M) ++ e)))) (false || lateB r.time.toNat)
  have g5 := (congrArg St.time g4).trans d2
  obtain ⟨e1, e2⟩ := count_fwd r.ins.length hr.insN (bytes (insP r.ins) ++ (Pk.le r.found.length 4 ++ (bytes (r.found.map .M) ++ e))) (false || lateB r.time.toNat || lateB r.mark.toNat)
  have g6 := (congrArg St.count g5).trans e2
  have k5 := (congrArg St.ct g5).trans e1
  have f1 := ins_fwd r.ins hr.ins (Pk.le r.found.length 4 ++ (bytes (r.found.map .M) ++ e)) (false || lateB r.time.toNat || lateB r.mark.toNat)
  have hi := f1
  rw [← g6, ← k5] at hi
  have hins : insK (s5 b).ct (s6 b) = (r.ins.map fun i => (i.name, i.time.toNat), ⟨Pk.le r.found.length 4 ++ (bytes (r.found.map .M) ++ e), false, false || lateB r.time.toNat || lateB r.mark.toNat || r.ins.any fun i => lateT i.time⟩) := hi
  have g7 : s7 b = ⟨Pk.le r.found.length 4 ++ (bytes (r.found.map .M) ++ e), false, false || lateB r.time.toNat || lateB r.mark.toNat || r.ins.any fun i => lateT i.time⟩ := congrArg Prod.snd hins
  obtain ⟨i1, i2⟩ := count_fwd r.found.length hr.fdsN (bytes (r.found.map .M) ++ e) (false || lateB r.time.toNat || lateB r.mark.toNat || r.ins.any fun i => lateT i.time)
  have g8 : s8 b = ⟨bytes (r.found.map .M) ++ e, false, false || lateB r.time.toNat || lateB r.mark.toNat || r.ins.any fun i => lateT i.time⟩ := (congrArg St.count g7).trans i2
  have k7 := (congrArg St.ct g7).trans i1
  have f2 := fds_fwd r.found hr.fds e (false || lateB r.time.toNat || lateB r.mark.toNat || r.ins.any fun i => lateT i.time)
  have hf := f2
  rw [← g8, ← k7] at hf
  have hfds := hf
  refine ⟨h1, (congrArg St.tx g1).trans a1, (congrArg St.tx g2).trans b1, (congrArg St.tm g3).trans c1, (congrArg St.tm g4).trans d1, congrArg Prod.fst hins, congrArg Prod.fst hfds, ?_⟩
  refine (congrArg Prod.snd hfds).trans ?_
  simp [lateR, lateT]

/-! what is read was written -/
theorem time_inv {s : St} (hs : s.Lt) (h : s.time.bad = false) : s.bad = false ∧ s.l = Pk.le s.tm 8 ++ s.time.l ∧ s.tm < 18446744073709551616 ∧ (s.time.late = false → s.late = false ∧ lateB s.tm = false) := by
  obtain ⟨h1, h2⟩ := rd_inv hs h
  refine ⟨h1, h2, rdN_lt8 hs, fun hl => ?_⟩
  exact Bool.or_eq_false_iff.1 hl

theorem text_inv {s : St} (hs : s.Lt) (h : s.text.bad = false) : s.bad = false ∧ s.l = tx s.tx ++ s.text.l ∧ s.tx.size ≤ 65535 := tx_inv hs h

theorem count_inv {s : St} (hs : s.Lt) (h : s.count.bad = false) : s.bad = false ∧ s.l = Pk.le s.ct 4 ++ s.count.l ∧ s.ct < 4294967296 := by
  obtain ⟨h1, h2⟩ := rd_inv hs h
  have := Pk.rdN_lt 4 hs
  exact ⟨h1, h2, Nat.lt_of_lt_of_le this (by decide)⟩

theorem ins_bwd {s : St} (hs : s.Lt) : ∀ k, (insK k s).2.bad = false → s.bad = false ∧ (insK k s).1.length = k ∧ s.l = bytes (insP ((insK k s).1.map In.of)) ++ (insK k s).2.l ∧
    (∀ x ∈ (insK k s).1, x.1.size ≤ 65535) ∧ ((insK k s).2.late = false → s.late = false ∧ ∀ x ∈ (insK k s).1, lateB x.2 = false) := by
  intro k
  induction k with
  | zero => intro h; exact ⟨h, rfl, by simp [insK, insP, bytes], by simp [insK], fun h => ⟨h, by simp [insK]⟩⟩
  | succ k ih =>
    intro h
    have ht := insK_lt hs k
    simp only [insK] at h ⊢
    cases hb : (insK k s).2.bad with
    | true => rw [hb] at h; simp only [if_true] at h; rw [hb] at h; cases h
    | false =>
      rw [hb] at h
      simp only [Bool.false_eq_true, if_false] at h ⊢
      obtain ⟨i1, i2, i3, i4, i5⟩ := ih hb
      obtain ⟨a1, a2, a3, a4⟩ := time_inv ht.text h
      obtain ⟨b1, b2, b3⟩ := text_inv ht a1
      refine ⟨i1, by simp [i2], ?_, ?_, ?_⟩
      · rw [List.map_append, List.map_singleton, insP_snoc]
        show _ = _ ++ (tx (insK k s).2.tx ++ Pk.le (((insK k s).2.text.tm : Nat) : Int).toNat 8) ++ _
        rw [Int.toNat_natCast, List.append_assoc, List.append_assoc, ← a2, ← b2]
        exact i3
      · intro x hx
        rcases List.mem_append.1 hx with h | h
        · exact i4 x h
        · obtain rfl := List.mem_singleton.1 h; exact b3
      · intro hl
        obtain ⟨c1, c2⟩ := a4 hl
        obtain ⟨d1, d2⟩ := i5 c1
        refine ⟨d1, fun x hx => ?_⟩
        rcases List.mem_append.1 hx with h | h
        · exact d2 x h
        · obtain rfl := List.mem_singleton.1 h; exact c2

theorem fds_bwd {s : St} (hs : s.Lt) : ∀ k, (fdsK k s).2.bad = false → s.bad = false ∧ (fdsK k s).1.length = k ∧ s.l = bytes (((fdsK k s).1.map fun (n : Nat) => (n : Int)).map .M) ++ (fdsK k s).2.l ∧
    ((fdsK k s).2.late = false → s.late = false ∧ ∀ x ∈ (fdsK k s).1, lateB x = false) := by
  intro k
  induction k with
  | zero => intro h; exact ⟨h, rfl, by simp [fdsK, bytes], fun h => ⟨h, by simp [fdsK]⟩⟩
  | succ k ih =>
    intro h
    have ht := fdsK_lt hs k
    simp only [fdsK] at h ⊢
    cases hb : (fdsK k s).2.bad with
    | true => rw [hb] at h; simp only [if_true] at h; rw [hb] at h; cases h
    | false =>
      rw [hb] at h
      simp only [Bool.false_eq_true, if_false] at h ⊢
      obtain ⟨i1, i2, i3, i5⟩ := ih hb
      obtain ⟨a1, a2, a3, a4⟩ := time_inv ht h
      refine ⟨i1, by simp [i2], ?_, ?_⟩
      · rw [List.map_append, List.map_singleton, fdP_snoc, Int.toNat_natCast, List.append_assoc, ← a2]
        exact i3
      · intro hl
        obtain ⟨c1, c2⟩ := a4 hl
        obtain ⟨d1, d2⟩ := i5 c1
        refine ⟨d1, fun x hx => ?_⟩
        rcases List.mem_append.1 hx with h | h
        · exact d2 x h
        · obtain rfl := List.mem_singleton.1 h; exact c2

theorem lateB_lt {n : Nat} (h : lateB n = false) : n < 4611686018427387904 := by
  unfold lateB at h
  simpa using h

/-- a run whose times are such that they can be read -/
structure Sound (r : Run) : Prop where
  time : 0 ≤ r.time ∧ r.time < 4611686018427387904
  mark : 0 ≤ r.mark ∧ r.mark < 4611686018427387904
  ins : ∀ i ∈ r.ins, 0 ≤ i.time ∧ i.time < 4611686018427387904
  fds : ∀ t ∈ r.found, 0 ≤ t ∧ t < 4611686018427387904

theorem late_int {n : Nat} (h : lateB n = false) : (0 : Int) ≤ (n : Int) ∧ (n : Int) < 4611686018427387904 ∧ (n : Int) < 9223372036854775808 := by
  have := lateB_lt h
  omega

theorem chain {b a1 a2 a3 a4 a5 a6 a7 a8 h o c t m n B k F : List Nat} (z : b = h ++ a1) (y : a1 = o ++ a2) (x : a2 = c ++ a3) (e1 : a3 = t ++ a4) (e2 : a4 = m ++ a5) (e3 : a5 = n ++ a6) (e4 : a6 = B ++ a7) (e5 : a7 = k ++ a8) (e6 : a8 = F) :
    b = h ++ (o ++ (c ++ (t ++ (m ++ (n ++ (B ++ (k ++ F))))))) := by
  rw [z, y, x, e1, e2, e3, e4, e5, e6]

theorem txS_lt {l : List Nat} (hl : ∀ n ∈ l, n < 256) : ∀ n ∈ Pk.txS l, n < 256 := Pk.nx_lt _ (Pk.rdL_lt 2 hl)

theorem hash_cmd {s : St} {n : Nat} (hs : s.Lt) (h : n = Crc.hash (Pk.txS s.l)) : Crc.hash (Pk.sb s.tx) = n := by
  rw [h]
  unfold St.tx
  rw [Pk.sb_str (txS_lt hs)]

theorem pairE {α β : Type} (p : α × β) : p = (p.1, p.2) := rfl

theorem read_core {b : List Nat} {a1 a2 a3 a4 a5 a6 a7 a8 a9 : St} {I : List (ByteArray × Nat)} {F : List Nat} (hl : ∀ n ∈ b, n < 256)
    (E1 : a1 = ⟨Pk.rdL 8 b, Pk.rdB 8 b false, false⟩) (E2 : a2 = a1.text) (E3 : a3 = a2.text) (E4 : a4 = a3.time) (E5 : a5 = a4.time) (E6 : a6 = a5.count) (E7 : insK a5.ct a6 = (I, a7)) (E8 : a8 = a7.count) (E9 : fdsK a7.ct a8 = (F, a9))
    (h9 : a9.bad = false) (hemp : a9.l = []) (hlate : a9.late = false) (hhash : Pk.rdN 8 b = Crc.hash (Pk.txS a2.l)) (r : Run) (hr : r = ⟨a1.tx, a2.tx, a3.tm, a4.tm, I.map In.of, F.map fun (n : Nat) => (n : Int)⟩) :
    b = recB r ∧ Fit r ∧ Sound r := by
  have L1 : a1.Lt := by rw [E1]; exact Pk.rdL_lt 8 hl
  have L2 : a2.Lt := by rw [E2]; exact L1.text
  have L3 : a3.Lt := by rw [E3]; exact L2.text
  have L4 : a4.Lt := by rw [E4]; exact L3.time
  have L5 : a5.Lt := by rw [E5]; exact L4.time
  have L6 : a6.Lt := by rw [E6]; exact L5.count
  have L7 : a7.Lt := by have := insK_lt L6 a5.ct; rw [E7] at this; exact this
  have L8 : a8.Lt := by rw [E8]; exact L7.count
  have X9 := fds_bwd L8 a7.ct
  rw [E9] at X9
  obtain ⟨f1, f2, f3, f4⟩ := X9 h9
  obtain ⟨f5, f6⟩ := f4 hlate
  rw [E8] at f1 f5
  obtain ⟨c1, c2, c3⟩ := count_inv L7 f1
  have X7 := ins_bwd L6 a5.ct
  rw [E7] at X7
  obtain ⟨i1, i2, i3, i4, i5⟩ := X7 c1
  obtain ⟨i6, i7⟩ := i5 f5
  rw [E6] at i1 i6
  obtain ⟨k1, k2, k3⟩ := count_inv L5 i1
  have k0 : a5.late = false := i6
  rw [E5] at k1 k0
  obtain ⟨m1, m2, m3, m4⟩ := time_inv L4 k1
  obtain ⟨m5, m6⟩ := m4 k0
  rw [E4] at m1 m5
  obtain ⟨t1, t2, t3, t4⟩ := time_inv L3 m1
  obtain ⟨t5, t6⟩ := t4 m5
  rw [E3] at t1
  obtain ⟨x1, x2, x3⟩ := text_inv L2 t1
  rw [E2] at x1
  obtain ⟨y1, y2, y3⟩ := text_inv L1 x1
  rw [E1] at y1
  obtain ⟨z1, z2⟩ := rd_inv (bad := false) hl y1
  have z3 : b = Pk.le (Pk.rdN 8 b) 8 ++ a1.l := by rw [E1]; exact z2
  rw [← E2] at y2
  rw [← E3] at x2
  rw [← E4] at t2
  rw [← E5] at m2
  rw [← E6] at k2
  rw [← E8] at c2
  have f3 : a8.l = bytes ((F.map fun (n : Nat) => (n : Int)).map .M) := by rw [f3, hemp, List.append_nil]
  have hc : Crc.hash (Pk.sb a2.tx) = Pk.rdN 8 b := hash_cmd L2 hhash
  clear E1 E2 E3 E4 E5 E6 E7 E8 E9 X7 X9 L1 L2 L3 L4 L5 L6 L7 L8 f1 f4 c1 i1 i5 k1 k0 m1 m4 t1 t4 x1 y1 z1 z2 h9 hhash
  obtain ⟨l1, l2, l3⟩ := late_int t6
  obtain ⟨l4, l5, l6⟩ := late_int m6
  subst hr
  have e1 : (I.map In.of).length = a5.ct := by rw [List.length_map]; exact i2
  have e2 : (F.map fun (n : Nat) => (n : Int)).length = a7.ct := by rw [List.length_map]; exact f2
  refine ⟨?_, ⟨y3, x3, l3, l6, ?_, ?_, by show (I.map In.of).length < _; rw [e1]; exact k3, by show (F.map fun (n : Nat) => (n : Int)).length < _; rw [e2]; exact c3⟩, ⟨⟨l1, l2⟩, ⟨l4, l5⟩, ?_, ?_⟩⟩
  · rw [recB, bytes_parts, e1, e2, hc]
    simp only [Int.toNat_natCast]
    exact chain z3 y2 x2 t2 m2 k2 i3 c2 f3
  · intro i hi
    obtain ⟨x, hx, rfl⟩ := List.mem_map.1 hi
    exact ⟨i4 x hx, (late_int (i7 x hx)).2.2⟩
  · intro t ht
    obtain ⟨x, hx, rfl⟩ := List.mem_map.1 ht
    exact (late_int (f6 x hx)).2.2
  · intro i hi
    obtain ⟨x, hx, rfl⟩ := List.mem_map.1 hi
    exact ⟨(late_int (i7 x hx)).1, (late_int (i7 x hx)).2.1⟩
  · intro t ht
    obtain ⟨x, hx, rfl⟩ := List.mem_map.1 ht
    exact ⟨(late_int (f6 x hx)).1, (late_int (f6 x hx)).2.1⟩

theorem read_bwd {b : List Nat} (hl : ∀ n ∈ b, n < 256) (h : fits b = true) : b = recB (rdR b) ∧ Fit (rdR b) ∧ Sound (rdR b) := by
  unfold fits at h
  simp only [Bool.and_eq_true, Bool.not_eq_true', List.isEmpty_iff, beq_iff_eq] at h
  obtain ⟨⟨⟨h9, hemp⟩, hlate⟩, hhash⟩ := h
  exact read_core (a1 := s1 b) (a2 := s2 b) (a3 := s3 b) (a4 := s4 b) (a5 := s5 b) (a6 := s6 b) (a7 := s7 b) (a8 := s8 b) (a9 := s9 b) (I := rdIns b) (F := rdFds b) hl (by unfold s1; rfl) (by unfold s2; rfl) (by unfold s3; rfl) (by unfold s4; rfl) (by unfold s5; rfl) (by unfold s6; rfl) (by unfold rdIns s7; exact pairE _) (by unfold s8; rfl) (by unfold rdFds s9; exact pairE _) h9 hemp hlate hhash (rdR b) (by unfold rdR; rfl)
end Go.Proofs.Ytdijpoemimebmaa.Rn
