/-
  WHAT IS WRITTEN IS READ, AND THE OTHER WAY ROUND: as the law asks it, of plain runs and bytes.
-/
import Derived.Test.YtdijpoemimebmaaRnTurn
import Derived.Test.YtdijpoemimebmaaRnSame
import Derived.Test.YtdijpoemimebmaaRnArg
namespace Go.Proofs.Ytdijpoemimebmaa.Rn
open Go.RowKit
open Go.Proofs.Ytdijpoemimebmaa.Cr

theorem lateT_int (t : Int) : lateT t = decide (4611686018427387904 ≤ t) := by
  unfold lateT lateB
  by_cases h : (4611686018427387904 : Int) ≤ t
  · rw [decide_eq_true h, decide_eq_true (by omega)]
  · rw [decide_eq_false h, decide_eq_false (by omega)]

def anyI (L : List In) : Bool := L.any fun i => lateT i.time
def anyF (L : List Int) : Bool := L.any lateT

theorem anyI_next {L : List In} {j : Nat} {x : In} (hx : L[j]? = some x) : anyI (L.take (j + 1)) = (anyI (L.take j) || lateT x.time) := by
  rw [List.take_add_one, hx]
  simp [anyI]
theorem anyF_next {L : List Int} {j : Nat} {x : Int} (hx : L[j]? = some x) : anyF (L.take (j + 1)) = (anyF (L.take j) || lateT x) := by
  rw [List.take_add_one, hx]
  simp [anyF]

theorem light_parts {r : Run} (h : lightB r = true) : r.out.size ≤ 5000 ∧ r.cmd.size ≤ 5000 ∧ r.ins.length ≤ 500 ∧ r.found.length ≤ 600 ∧ ∀ i ∈ r.ins, i.name.size ≤ 5000 := by
  unfold lightB small brief at h
  simp only [Bool.and_eq_true, decide_eq_true_eq, List.all_eq_true] at h
  obtain ⟨⟨⟨⟨h1, h2⟩, h3⟩, h4⟩, h5⟩ := h
  exact ⟨h1, h2, h3, h4, h5⟩

theorem fit_of {r : Run} (h : lightB r = true) (h64 : R64 r) : Fit r := by
  obtain ⟨h1, h2, h3, h4, h5⟩ := light_parts h
  refine ⟨by omega, by omega, ?_, ?_, fun i hi => ⟨?_, ?_⟩, fun t ht => ?_, by omega, by omega⟩
  · have := h64.time.2; omega
  · have := h64.mark.2; omega
  · have := h5 i hi; omega
  · have := (h64.ins i hi).2; omega
  · have := (h64.fds t ht).2; omega

theorem parts_M {r : Run} {t : Int} (h : Part.M t ∈ parts r) : t = r.time ∨ t = r.mark ∨ (∃ i ∈ r.ins, t = i.time) ∨ t ∈ r.found := by
  simp [parts] at h
  rcases h with h | h | h | h
  · exact .inl h
  · exact .inr (.inl h)
  · obtain ⟨i, hi, e⟩ := h
    exact .inr (.inr (.inl ⟨i, hi, e⟩))
  · exact .inr (.inr (.inr h))

theorem parts_lt {r : Run} (hf : Fit r) : ∀ t, Part.M t ∈ parts r → t < 9223372036854775808 := fun t ht => by
  rcases parts_M ht with rfl | rfl | ⟨i, hi, rfl⟩ | h
  · exact hf.time
  · exact hf.mark
  · exact (hf.ins i hi).2
  · exact hf.fds t h

theorem size_ins (L : List In) {K : Nat} (h : ∀ i ∈ L, i.name.size ≤ K) : size (insP L) ≤ L.length * (10 + K) := by
  induction L with
  | nil => simp [insP, size]
  | cons x L ih =>
    have h1 := h x (by simp)
    have h2 := ih fun i hi => h i (by simp [hi])
    have e : insP (x :: L) = [.T x.name, .M x.time] ++ insP L := by simp [insP]
    rw [e, size_app, List.length_cons, Nat.add_mul]
    have : size [Part.T x.name, .M x.time] = 2 + x.name.size + 8 := by simp [size, psz]
    omega

theorem size_fds (L : List Int) : size (L.map .M) = L.length * 8 := by
  induction L with
  | nil => rfl
  | cons x L ih =>
    have e : (x :: L).map Part.M = [.M x] ++ L.map .M := rfl
    rw [e, size_app, ih, List.length_cons]
    have : size [Part.M x] = 8 := rfl
    omega

theorem parts_size (r : Run) : size (parts r) = (2 + r.out.size) + (2 + r.cmd.size) + 20 + size (insP r.ins) + 4 + size (r.found.map .M) := by
  have e : parts r = [.T r.out, .T r.cmd, .M r.time, .M r.mark, .C r.ins.length] ++ insP r.ins ++ [.C r.found.length] ++ r.found.map .M := rfl
  rw [e, size_app, size_app, size_app]
  simp [size, psz]
  omega

theorem light_size {r : Run} (h : lightB r = true) : size (parts r) ≤ 100000000 := by
  obtain ⟨h1, h2, h3, h4, h5⟩ := light_parts h
  have hi := size_ins r.ins h5
  have hf := size_fds r.found
  rw [parts_size]
  have : r.ins.length * (10 + 5000) ≤ 500 * 5010 := Nat.mul_le_mul h3 (by omega)
  omega

theorem neg_time {r : Run} (h : negR r = false) : (0 ≤ r.time) ∧ (0 ≤ r.mark) ∧ (∀ i ∈ r.ins, 0 ≤ i.time) ∧ ∀ t ∈ r.found, 0 ≤ t := by
  have hm : ∀ t, Part.M t ∈ parts r → 0 ≤ t := fun t ht => by
    unfold negR neg at h
    rw [List.any_eq_false] at h
    have := h _ ht
    simpa [pneg] using this
  refine ⟨hm _ (by simp [parts]), hm _ (by simp [parts]), fun i hi => hm _ ?_, fun t ht => hm _ ?_⟩
  · simp [parts]; exact .inr (.inr (.inl ⟨i, hi, rfl⟩))
  · simp [parts]; exact .inr (.inr (.inr ht))

theorem sound_neg {r : Run} (h : Sound r) : negR r = false := by
  unfold negR neg
  rw [List.any_eq_false]
  intro p hp
  match p with
  | .T s => simp [pneg]
  | .C n => simp [pneg]
  | .M t =>
    have : 0 ≤ t := by
      rcases parts_M hp with rfl | rfl | ⟨i, hi, rfl⟩ | h'
      · exact h.time.1
      · exact h.mark.1
      · exact (h.ins i hi).1
      · exact (h.fds t h').1
    simpa [pneg] using this

/-- what is written is read -/
theorem back_fwd {r : Run} (hf : Fit r) (he : wrE r = 0) : fits (recB r) = (!lateR r) ∧ rdR (recB r) = r := by
  have hn : negR r = false := by
    unfold wrE at he
    cases h : negR r with
    | false => rfl
    | true => rw [h] at he; simp at he
  obtain ⟨n1, n2, n3, n4⟩ := neg_time hn
  obtain ⟨h1, h2, h3, h4, h5, h6, h7, h8⟩ := read_fwd (Crc.hash (Pk.sb r.cmd)) (Crc.hash_lt _) r hf [] (recB r) (by simp [recB])
  constructor
  · rw [fits_of (recB_lt r) h8, h1, h3]
    simp
  · have hins : (rdR (recB r)).ins = r.ins := by
      rw [rdR_ins, h6, List.map_map]
      conv => rhs; rw [← List.map_id r.ins]
      refine List.map_congr_left fun i hi => ?_
      have := n3 i hi
      show In.mk i.name (i.time.toNat : Int) = i
      rw [Int.toNat_of_nonneg this]
    have hfds : (rdR (recB r)).found = r.found := by
      rw [rdR_found, h7, List.map_map]
      conv => rhs; rw [← List.map_id r.found]
      refine List.map_congr_left fun t ht => ?_
      have := n4 t ht
      show ((t.toNat : Nat) : Int) = t
      omega
    refine run_eq ?_ ?_ ?_ ?_ hins hfds
    · rw [rdR_out, h2]
    · rw [rdR_cmd, h3]
    · rw [rdR_time, h4]; omega
    · rw [rdR_mark, h5]; omega

/-- what is read is written -/
theorem back_bwd {b : List Nat} (hl : ∀ n ∈ b, n < 256) (h : fits b = true) : Fit (rdR b) ∧ wrE (rdR b) = (if 4096 < b.length then 3 else 0) ∧ recB (rdR b) = b ∧ size (parts (rdR b)) ≤ b.length := by
  obtain ⟨e1, hf, hs⟩ := read_bwd hl h
  have hlen : b.length = sizeR (rdR b) := by
    have := recB_length (rdR b)
    rw [← e1] at this
    exact this
  refine ⟨hf, ?_, e1.symm, by rw [hlen]; unfold sizeR; omega⟩
  unfold wrE
  rw [sound_neg hs, hlen]
  simp

theorem ins_size (L : List In) : L.length ≤ size (insP L) := by
  induction L with
  | nil => simp
  | cons x L ih =>
    have e : insP (x :: L) = [.T x.name, .M x.time] ++ insP L := by simp [insP]
    rw [e, size_app, List.length_cons]
    have : size [Part.T x.name, .M x.time] = 2 + x.name.size + 8 := by simp [size, psz]
    omega

theorem few_parts (r : Run) : r.ins.length ≤ size (parts r) ∧ r.found.length ≤ size (parts r) := by
  have h1 := ins_size r.ins
  have h2 := size_fds r.found
  have h3 := parts_size r
  omega

theorem below_drew {B : Nat} {w W : World} (h : Below B w W) : Below B w W.drew := ⟨h.os, h.tape, h.output, h.size, h.block⟩
theorem below_of_drew {w W : World} (h : Below w.drew.heap.size w.drew W) : Below w.heap.size w W := ⟨h.os, h.tape, h.output, h.size, h.block⟩
end Go.Proofs.Ytdijpoemimebmaa.Rn
