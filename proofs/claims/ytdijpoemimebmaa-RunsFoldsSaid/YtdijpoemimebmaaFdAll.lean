/-
  ROWS OF RUNS: are all of them light, and not too many?
-/
import Derived.Test.YtdijpoemimebmaaRnArg
import Derived.Test.YtdijpoemimebmaaFdMap
namespace Go.Proofs.Ytdijpoemimebmaa.Rn
open Go.RowKit
open Go.Proofs.Ytdijpoemimebmaa.Cr

/-- a run's six cells at an address, and what its lists hold -/
structure At (w : World) (b o : Nat) (x : Run) (vi vf : Value) : Prop where
  c0 : w.cell? ⟨b, o, Option.none⟩ = some (.string x.out)
  c1 : w.cell? ⟨b, o + 1, Option.none⟩ = some (.string x.cmd)
  c2 : w.cell? ⟨b, o + 2, Option.none⟩ = some (.int .i64 x.time)
  c3 : w.cell? ⟨b, o + 3, Option.none⟩ = some (.int .i64 x.mark)
  c4 : w.cell? ⟨b, o + 4, Option.none⟩ = some vi
  c5 : w.cell? ⟨b, o + 5, Option.none⟩ = some vf
  ins : InRow w vi x.ins
  fds : FdRow w vf x.found

theorem RunRow.below {w w' : World} {v : Value} {L : List Run} (h : RunRow w v L) (hb : Below w.heap.size w w') : RunRow w' v L := by
  obtain ⟨a, c, e, h1, h2, h3⟩ := h
  refine ⟨a, c, e, h1, h2, ?_⟩
  rcases h3 with h | ⟨b, off, e, hlt, hc⟩
  · exact .inl h
  · refine .inr ⟨b, off, e, Nat.lt_of_lt_of_le hlt hb.size, fun i x hi => ?_⟩
    obtain ⟨vi, vf, x0, x1, x2, x3, x4, x5, x6, x7⟩ := hc i x hi
    have k := hb.block b hlt
    exact ⟨vi, vf, (cell_of_block k).trans x0, (cell_of_block k).trans x1, (cell_of_block k).trans x2, (cell_of_block k).trans x3, (cell_of_block k).trans x4, (cell_of_block k).trans x5, x6.below hb, x7.below hb⟩

theorem At.below {w w' : World} {b o : Nat} {x : Run} {vi vf : Value} (h : At w b o x vi vf) (hlt : b < w.heap.size) (hb : Below w.heap.size w w') : At w' b o x vi vf := by
  have k := hb.block b hlt
  exact ⟨(cell_of_block k).trans h.c0, (cell_of_block k).trans h.c1, (cell_of_block k).trans h.c2, (cell_of_block k).trans h.c3, (cell_of_block k).trans h.c4, (cell_of_block k).trans h.c5, h.ins.below hb, h.fds.below hb⟩

theorem RunRow.at {w : World} {v : Value} {L : List Run} (h : RunRow w v L) : ∃ a c, v = .slice a L.length c ∧ (a = Option.none → c = 0) ∧ L.length ≤ c ∧ (L = [] ∨ ∃ b off, a = some ⟨b, off, Option.none⟩ ∧ b < w.heap.size ∧ ∀ i x, L[i]? = some x → ∃ ai ni ci af nf cf, At w b (off + i * 6) x (.slice ai ni ci) (.slice af nf cf)) := by
  obtain ⟨a, c, e, h1, h2, h3⟩ := h
  refine ⟨a, c, e, h1, h2, h3.imp id fun ⟨b, off, e, hlt, hc⟩ => ⟨b, off, e, hlt, fun i x hi => ?_⟩⟩
  obtain ⟨vi, vf, x0, x1, x2, x3, x4, x5, x6, x7⟩ := hc i x hi
  have y6 := x6
  have y7 := x7
  obtain ⟨ai, ci, rfl, _⟩ := y6
  obtain ⟨af, cf, rfl, _⟩ := y7
  exact ⟨_, _, _, _, _, _, x0, x1, x2, x3, x4, x5, x6, x7⟩

def allB (L : List Run) : Bool := decide (L.length ≤ 60) && L.all lightB

theorem all_next {L : List Run} {j : Nat} {x : Run} (hx : L[j]? = some x) : (L.take (j + 1)).all lightB = ((L.take j).all lightB && lightB x) := by
  rw [List.take_add_one, hx]
  simp

theorem all_no {L : List Run} {j : Nat} {x : Run} (hx : L[j]? = some x) (h : lightB x = false) : allB L = false := by
  have : L.all lightB = false := by
    rw [List.all_eq_false]
    exact ⟨x, List.mem_of_getElem? hx, by simp [h]⟩
  unfold allB
  rw [this, Bool.and_false]

theorem all_of {L : List Run} (h : allB L = true) : L.length ≤ 60 ∧ ∀ x ∈ L, lightB x = true := by
  unfold allB at h
  simp only [Bool.and_eq_true, decide_eq_true_eq, List.all_eq_true] at h
  exact h

set_option maxRecDepth 100000 in
set_option maxHeartbeats 4000000 in
theorem all_c {w : World} {v : Value} {L : List Run} (h : RunRow w v L) (hL : L.length ≤ 9223372036854775807) : Calls Try.prog 19 #[v] w fun e w' => e = .returned (.bool (allB L)) ∧ Below w.heap.size w w' := by
  obtain ⟨a, c, rfl, hnil, hle, hrow⟩ := h.at
  have HROW := Lib.hid hrow
  have HB := Lib.hid (Below.refl w.heap.size w)
  obtain ⟨R, hR⟩ : ∃ R, allB L = R := ⟨_, rfl⟩
  have HR := Lib.hid hR
  rw [hR]
  clear hR hrow h hnil
  by_cases h60 : 60 < L.length
  · have e1 : R = false := by rw [← HR.out]; unfold allB; rw [decide_eq_false (by omega)]; rfl
    subst e1
    have h60i : (60 : Int) < (L.length : Int) := by omega
    go_enter Try.func19, Try.ntmps19
    go_wp2_with fail
    go_ret
    exact ⟨rfl, HB.out⟩
  have h60i : ¬ (60 : Int) < (L.length : Int) := by omega
  go_enter Try.func19, Try.ntmps19
  go_wp2_with fail
  go_loopw [3] (fun i wr => ∃ j : Nat, j ≤ L.length ∧ i = .int .i64 j ∧ Hid ((L.take j).all lightB = true) ∧ Hid (Below w.heap.size w wr)) (fun i _ => L.length - (intOf i).toNat)
  case atStart => exact ⟨0, Nat.zero_le _, rfl, Lib.hid rfl, HB⟩
  case round =>
    obtain ⟨j, hj, rfl, hA, hBw⟩ := hrel
    by_cases hlt : j < L.length
    · have hx := List.getElem?_eq_getElem hlt
      rcases HROW.out with h | ⟨b, off, rfl, hb, hcell⟩
      · rw [h] at hlt; simp at hlt
      obtain ⟨ai, ni, ci, af, nf, cf, hAt0⟩ := hcell j _ hx
      have hAt := hAt0.below hb hBw.out
      have hno := fun h => all_no (L := L) hx h
      have hnx := all_next hx
      generalize L[j] = x at *
      have hcl := light_c hAt.ins hAt.fds
      obtain ⟨c0, c1, c2, c3, c4, c5, -, -⟩ := hAt
      have HNO := Lib.hid hno
      have HNX := Lib.hid hnx
      have hi0 : (0 : Int) ≤ (j : Int) := by omega
      have hi1 : (j : Int) < (L.length : Int) := by omega
      unfold runC at hcl
      clear hno hnx hcell hx hAt0
      cases hl : lightB x with
      | true =>
        rw [hl] at hcl
        have HL := Lib.hid hl
        clear hl
        go_wp2_with fail
        refine hcl.mono ?_
        rintro e w1 ⟨rfl, hb1⟩
        have HB1 := Lib.hid (hBw.out.trans (hb1.mono hBw.out.size))
        clear hcl hb1
        go_wp2_with fail
        go_roundw
        case rel => exact ⟨j + 1, by omega, by go_num, Lib.hid (by rw [HNX.out, hA.out, HL.out]; rfl), HB1⟩
        case measure => simp [intOf]; omega
      | false =>
        rw [hl] at hcl
        have HL := Lib.hid (HNO.out hl)
        clear hl
        go_wp2_with fail
        refine hcl.mono ?_
        rintro e w1 ⟨rfl, hb1⟩
        have HB1 := Lib.hid (hBw.out.trans (hb1.mono hBw.out.size))
        clear hcl hb1
        go_wp2_with fail
        go_ret
        exact ⟨ret_bool (by rw [← HR.out, HL.out]), HB1.out⟩
    · obtain rfl : j = L.length := by omega
      have eR : R = true := by
        rw [← HR.out]
        unfold allB
        have := hA.out
        rw [List.take_length] at this
        rw [this, decide_eq_true (by omega)]
        rfl
      have ER := Lib.hid eR
      clear eR
      go_wp2_with fail
      go_ret
      exact ⟨ret_bool ER.out.symm, hBw.out⟩
end Go.Proofs.Ytdijpoemimebmaa.Rn
