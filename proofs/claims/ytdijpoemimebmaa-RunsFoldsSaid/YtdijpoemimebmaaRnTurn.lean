/-
  A RECORD WHOSE FIRST BYTES ARE TURNED IS NONE, nor is it one byte shorter, nor one longer.
-/
import Derived.Test.YtdijpoemimebmaaRnRead5
namespace Go.Proofs.Ytdijpoemimebmaa.Rn
open Go.RowKit
open Go.Proofs.Ytdijpoemimebmaa.Cr

/-- bytes with another hash ahead are no record -/
theorem no_fit {h : Nat} (hh : h < 18446744073709551616) {r : Run} (hr : Fit r) (hne : h ≠ Crc.hash (Pk.sb r.cmd)) {e b : List Nat} (hb : b = Pk.le h 8 ++ bytes (parts r) ++ e) (hl : ∀ n ∈ b, n < 256) : fits b = false := by
  obtain ⟨h1, _, h3, _⟩ := read_fwd h hh r hr e b hb
  rw [fits_of hl rfl, h1, h3]
  simp [hne]

/-- nor are they where the last one is cut off -/
theorem no_fit_cut {h : Nat} (hh : h < 18446744073709551616) {r : Run} (hr : Fit r) (hne : h ≠ Crc.hash (Pk.sb r.cmd)) {b c : List Nat} {x : Nat} (hb : b = Pk.le h 8 ++ bytes (parts r)) (hbc : b = c ++ [x]) (hl : ∀ n ∈ b, n < 256) : fits c = false := by
  cases hf : fits c with
  | false => rfl
  | true =>
    exfalso
    have hlc : ∀ n ∈ c, n < 256 := fun n hn => hl n (by rw [hbc]; simp [hn])
    obtain ⟨e1, e2, _⟩ := read_bwd hlc hf
    obtain ⟨g1, _, g3, _⟩ := read_fwd h hh r hr [] b (by rw [hb]; simp)
    have hb2 : b = Pk.le (Crc.hash (Pk.sb (rdR c).cmd)) 8 ++ bytes (parts (rdR c)) ++ [x] := by rw [hbc]; exact congrArg (· ++ [x]) e1
    obtain ⟨k1, _, k3, _⟩ := read_fwd _ (Crc.hash_lt _) (rdR c) e2 [x] b hb2
    rw [g1] at k1
    rw [g3] at k3
    rw [← k3] at k1
    exact hne k1

/-- eight bytes are those of their number -/
theorem eight {t : List Nat} (ht : ∀ n ∈ t, n < 256) (h8 : t.length = 8) : t = Pk.le (Pk.num t) 8 ∧ Pk.num t < 18446744073709551616 := by
  have h := le_num ht
  rw [h8] at h
  have h2 := Pk.num_lt t ht
  rw [h8] at h2
  exact ⟨h.symm, Nat.lt_of_lt_of_le h2 (by decide)⟩

/-- a byte of the hash is turned -/
theorem turn_hash {r : Run} {k y : Nat} (hk : k < 8) (hy : y < 256) (hne : y ≠ (recB r).getD k 0) : ∃ h, h < 18446744073709551616 ∧ h ≠ Crc.hash (Pk.sb r.cmd) ∧ (recB r).set k y = Pk.le h 8 ++ bytes (parts r) := by
  have hlen : (Pk.le (Crc.hash (Pk.sb r.cmd)) 8).length = 8 := Pk.le_length _ _
  have hs : (recB r).set k y = (Pk.le (Crc.hash (Pk.sb r.cmd)) 8).set k y ++ bytes (parts r) := by
    unfold recB
    rw [List.set_append_left _ _ (by omega)]
  have hlt : ∀ n ∈ (Pk.le (Crc.hash (Pk.sb r.cmd)) 8).set k y, n < 256 := fun n hn => by
    rcases List.mem_or_eq_of_mem_set hn with h | rfl
    · exact Pk.le_lt _ _ n h
    · exact hy
  obtain ⟨e1, e2⟩ := eight hlt (by rw [List.length_set, hlen])
  refine ⟨_, e2, fun e => hne ?_, by rw [hs, ← e1]⟩
  rw [e] at e1
  have : ((Pk.le (Crc.hash (Pk.sb r.cmd)) 8).set k y).getD k 0 = (Pk.le (Crc.hash (Pk.sb r.cmd)) 8).getD k 0 := by rw [e1]
  have hg : (recB r).getD k 0 = (Pk.le (Crc.hash (Pk.sb r.cmd)) 8).getD k 0 := by
    unfold recB
    simp [List.getD, List.getElem?_append_left (show k < (Pk.le (Crc.hash (Pk.sb r.cmd)) 8).length by omega)]
  rw [hg, ← this]
  simp [List.getD, show k < (Pk.le (Crc.hash (Pk.sb r.cmd)) 8).length by omega]
end Go.Proofs.Ytdijpoemimebmaa.Rn
