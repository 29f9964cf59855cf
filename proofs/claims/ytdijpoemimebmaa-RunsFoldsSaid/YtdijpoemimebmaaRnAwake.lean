/-
  WHAT THE CHAPTER's EXAMPLE SAYS OF runs, WALKED.
-/
import Derived.Test.YtdijpoemimebmaaRnWrite3
namespace Go.Proofs.Ytdijpoemimebmaa.Rn
open Go.RowKit
open Go.Proofs.Ytdijpoemimebmaa.Cr

def rx : Run := ⟨⟨#[111]⟩, ⟨#[99]⟩, 5, 0, [], []⟩

theorem rx_e : wrE rx = 0 := by decide +kernel
theorem rx_b : wrB rx = recB rx := if_pos rx_e
theorem rx_len : (recB rx).length = 38 := by decide +kernel
theorem rx_mid : ((recB rx).drop 8).take 7 = [1, 0, 111, 1, 0, 99, 5] := by decide +kernel

/-- a part of a row -/
theorem row_part {W : World} {b off : Nat} {l : List Nat} (h : ∀ i, i < l.length → W.cell? ⟨b, off + i, Option.none⟩ = some (.int .u8 ((l.getD i 0 : Nat) : Int))) (hb : b < W.heap.size) (k m : Nat) : Pk.Row W (some ⟨b, off + k, Option.none⟩) ((l.drop k).take m) := by
  refine .inr ⟨b, off + k, rfl, hb, fun i hi => ?_⟩
  rw [List.length_take, List.length_drop] at hi
  rw [Nat.add_assoc, h (k + i) (by omega)]
  congr 3
  simp [List.getD, List.getElem?_drop, show i < m by omega]

theorem own_cells {W : World} {base : Nat} {a : Option Addr} {n c : Nat} {xs : List Nat} (h : W.ownsRow base 5 1 (.slice a n c) n (Pk.bytesV xs)) (hp : xs ≠ []) : ∃ g, a = some ⟨g, 0, Option.none⟩ ∧ base ≤ g ∧ g < W.heap.size ∧ n = xs.length ∧ n ≤ c ∧ (∃ C, W.heap[g]? = some (.cells C 5 (0, 0)) ∧ C.size = c) ∧ ∀ i, i < xs.length → W.cell? ⟨g, 0 + i, Option.none⟩ = some (.int .u8 ((xs.getD i 0 : Nat) : Int)) := by
  obtain ⟨hn, hr, _⟩ := Pk.owned_row h
  rcases h.2 with ⟨e, _⟩ | ⟨g, cap, cur, e, hb, hg, hle, _, hsz, _⟩
  · cases e
    exact absurd (List.eq_nil_of_length_eq_zero hn.out.symm) hp
  · cases e
    rcases hr with h | ⟨b, off, e2, hbl, hc⟩
    · exact absurd h hp
    · cases e2
      exact ⟨g, rfl, hb, lt_some hg, hn.out, hle, ⟨cur, hg, by omega⟩, hc⟩

set_option maxHeartbeats 1000000 in
theorem awake_c (w : World) : Calls Try.prog 14 #[] w fun e w' => e = .returned (.bool true) ∧ Below w.heap.size w w' := by
  have hi : InRow w (.slice Option.none 0 0) rx.ins := ⟨Option.none, 0, rfl, fun _ => rfl, Nat.le_refl _, .inl rfl⟩
  have hf : FdRow w (.slice Option.none 0 0) rx.found := ⟨Option.none, 0, rfl, fun _ => rfl, Nat.le_refl _, .inl rfl⟩
  have hw : Calls Try.prog 11 #[.agg #[.string ⟨#[111]⟩, .string ⟨#[99]⟩, .int .i64 5, .int .i64 0, .slice Option.none 0 0, .slice Option.none 0 0]] w (WrQ w rx) :=
    write_c (r := rx) hi hf (by decide) (by decide) (by decide) (by
      intro t ht
      have : t = 5 ∨ t = 0 := by simpa [parts, rx] using ht
      omega)
  clear hi hf
  go_enter Try.func14, Try.ntmps14
  go_wp2_with fail
  refine hw.mono ?_
  rintro e w1 ⟨a, n, c, rfl, hown, hb⟩
  rw [rx_b] at hown
  rw [rx_e]
  obtain ⟨g, rfl, _, hg, hn, hnc, _, hcell⟩ := own_cells hown (by intro h; have := rx_len; rw [h] at this; simp at this)
  rw [rx_len] at hn
  subst hn
  have hcv := Pk.conv_row (n := 7) (by rw [rx_mid]; rfl) (row_part hcell hg 8 7) (by rw [rx_mid]; decide) (c - 8)
  rw [rx_mid] at hcv
  have hz : ((Pk.str [1, 0, 111, 1, 0, 99, 5]).toList == [1, 0, 111, 1, 0, 99, 5]) = true := by decide +kernel
  rw [show 0 + 8 = 8 from rfl] at hcv
  have h8 : (8 : Nat) < c := by omega
  have h15 : (15 : Int) ≤ (c : Int) := by omega
  clear hown hcell hw
  go_wp2_with fail
  go_ret
  exact ⟨rfl, hb⟩
end Go.Proofs.Ytdijpoemimebmaa.Rn
