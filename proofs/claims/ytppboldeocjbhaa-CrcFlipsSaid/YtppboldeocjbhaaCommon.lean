/-
  WHAT A SLICE OF BYTES THAT CAME IN READS AS: a list of numbers below 256.
-/
import Derived.Test.YtppboldeocjbhaaFold
import Derived.OpenShut
namespace Go.Proofs.Ytppboldeocjbhaa
open Go.RowKit

def IsRow (k : IntKind) (w : World) (a : Option Addr) (len cap : Nat) (zs : List Int) : Prop :=
  (a = none ∧ len = 0 ∧ cap = 0 ∧ zs = []) ∨
  ∃ x, a = some x ∧ len ≤ cap ∧ cap ≤ maxLen ∧ zs.length = cap ∧ (∀ i, i < zs.length → w.cell? (x.add i) = some (.int k (zs.getD i 0))) ∧ ∀ n ∈ zs, (Lit.int k n).wf = true

theorem lt_of_cell {w : World} {p : Addr} {v : Value} (h : w.cell? p = some v) : p.block < w.heap.size := by
  rcases Nat.lt_or_ge p.block w.heap.size with h' | h'
  · exact h'
  · simp [World.cell?, Array.getElem?_eq_none h'] at h

theorem u8_bounds {n : Int} (h : (Lit.int .u8 n).wf = true) : 0 ≤ n ∧ n ≤ 255 := by
  simpa [Lit.wf, IntKind.min, IntKind.max, IntKind.signed, IntKind.bits] using h

theorem u16_bounds {n : Int} (h : (Lit.int .u16 n).wf = true) : 0 ≤ n ∧ n ≤ 65535 := by
  simpa [Lit.wf, IntKind.min, IntKind.max, IntKind.signed, IntKind.bits] using h

theorem u32_bounds {n : Int} (h : (Lit.int .u32 n).wf = true) : 0 ≤ n ∧ n ≤ 4294967295 := by
  simpa [Lit.wf, IntKind.min, IntKind.max, IntKind.signed, IntKind.bits] using h

theorem nil_of {k : IntKind} {w : World} {a : Option Addr} {len cap : Nat} {zs : List Int} (h : IsRow k w a len cap zs) : a = none → cap = 0 := by
  rcases h with ⟨_, _, h, _⟩ | ⟨x, rfl, _⟩
  · exact fun _ => h
  · exact fun e => by cases e

theorem cap_of {k : IntKind} {w : World} {a : Option Addr} {len cap : Nat} {zs : List Int} (h : IsRow k w a len cap zs) : len ≤ cap := by
  rcases h with ⟨_, h, h', _⟩ | ⟨x, _, h, _⟩
  · omega
  · exact h

theorem bytes_of {w : World} {a : Option Addr} {len cap : Nat} {zs : List Int} (h : IsRow .u8 w a len cap zs) :
    ∃ l : List Nat, len = l.length ∧ (∀ n ∈ l, n < 256) ∧ Row w a l := by
  rcases h with ⟨_, h1, _, _⟩ | ⟨x, rfl, h1, _, h3, h4, h5⟩
  · exact ⟨[], h1, by simp, .inl rfl⟩
  · have hl : len = ((zs.take len).map Int.toNat).length := by simp; omega
    refine ⟨(zs.take len).map Int.toNat, hl, ?_, ?_⟩
    · intro n hn
      obtain ⟨z, hz, rfl⟩ := List.mem_map.1 hn
      have := u8_bounds (h5 z (List.mem_of_mem_take hz))
      omega
    · by_cases hp : 0 < zs.length
      · obtain ⟨b, off, rfl, hc⟩ := ints_at h4 hp
        refine .inr ⟨b, off, rfl, lt_of_cell (hc 0 hp), fun i hi => ?_⟩
        have hi2 : i < len := by rw [hl]; exact hi
        rw [hc i (by omega)]
        have hz : i < zs.length := by omega
        have hb := u8_bounds (h5 zs[i] (by simp))
        have e : zs.getD i 0 = zs[i] := by simp [List.getD, hz]
        have e2 : ((zs.take len).map Int.toNat).getD i 0 = zs[i].toNat := by simp [List.getD, hi2, hz]
        rw [e, e2]
        congr 2
        omega
      · refine .inl ?_
        have : zs = [] := List.eq_nil_of_length_eq_zero (by omega)
        simp [this]
end Go.Proofs.Ytppboldeocjbhaa
