/-
  THE LAWS' OWN MEASURE: are a run's parts few, and short?
-/
import Derived.Test.YtdijpoemimebmaaRnWrite
namespace Go.Proofs.Ytdijpoemimebmaa.Rn
open Go.RowKit
open Go.Proofs.Ytdijpoemimebmaa.Cr

def small (r : Run) : Bool := decide (r.out.size ≤ 5000) && decide (r.cmd.size ≤ 5000) && decide (r.ins.length ≤ 500) && decide (r.found.length ≤ 600)
def brief (L : List In) : Bool := L.all fun i => decide (i.name.size ≤ 5000)
def lightB (r : Run) : Bool := small r && brief r.ins

/-- a run's box, of whatever type -/
theorem box_any {w0 W : World} {p : Nat} {r : Run} {vi vf : Value} {t : TypeId} (h : W.heap[p]? = some (.cells (runC r vi vf) t (0, 0))) (hi : InRow w0 vi r.ins) (hf : FdRow w0 vf r.found) (hb : Below w0.heap.size w0 W) : Box W p r vi vf := by
  refine ⟨?_, ?_, ?_, ?_, ?_, ?_, hi.below hb, hf.below hb⟩ <;> simp [World.cell?, h, runC]

theorem brief_take {L : List In} {j : Nat} {x : In} (hx : L[j]? = some x) : brief (L.take (j + 1)) = (brief (L.take j) && decide (x.name.size ≤ 5000)) := by
  rw [List.take_add_one, hx]
  simp [brief]

theorem brief_no {L : List In} {j : Nat} {x : In} (hx : L[j]? = some x) (h : ¬ x.name.size ≤ 5000) : brief L = false := by
  unfold brief
  rw [List.all_eq_false]
  exact ⟨x, List.mem_of_getElem? hx, by simpa using h⟩

theorem ret_bool {a b : Bool} (h : a = b) : Ending.returned (.bool a) = .returned (.bool b) := by rw [h]

set_option maxHeartbeats 4000000 in
theorem light_c {w : World} {r : Run} {vi vf : Value} (hi : InRow w vi r.ins) (hf : FdRow w vf r.found) :
    Calls Try.prog 10 #[.agg (runC r vi vf)] w fun e w' => e = .returned (.bool (lightB r)) ∧ Below w.heap.size w w' := by
  obtain ⟨W0, hW0⟩ : ∃ W, w.alloc (.cells (runC r vi vf) 25) = W := ⟨_, rfl⟩
  have hB : Below w.heap.size w W0 := by rw [← hW0]; exact Pk.below_alloc _ _
  have hp : W0.heap[w.heap.size]? = some (.cells (runC r vi vf) 25 (0, 0)) := by rw [← hW0]; exact heap_alloc_new _ _
  obtain ⟨c0, c1, c2, c3, c4, c5, hI, hF⟩ := box_any hp hi hf hB
  have HB := Lib.hid hB
  have eL : lightB r = (small r && brief r.ins) := rfl
  have EL := Lib.hid eL
  have eS : small r = (decide (r.out.size ≤ 5000) && decide (r.cmd.size ≤ 5000) && decide (r.ins.length ≤ 500) && decide (r.found.length ≤ 600)) := rfl
  have ES := Lib.hid eS
  obtain ⟨ai, ci, rfl, _, hci, hrow⟩ := hI
  obtain ⟨af, cf, rfl, _, _, _⟩ := hF
  have HROW := Lib.hid hrow
  clear hi hf hp hB eL eS hrow
  unfold runC at hW0 ⊢
  by_cases h1 : r.out.size ≤ 5000
  · by_cases h2 : r.cmd.size ≤ 5000
    · by_cases h3 : r.ins.length ≤ 500
      · by_cases h4 : r.found.length ≤ 600
        · have hs : lightB r = brief r.ins := by rw [EL.out, ES.out]; simp [h1, h2, h3, h4]
          have HS := Lib.hid hs
          clear EL ES hs
          go_enter Try.func10, Try.ntmps10
          go_wp2_with fail
          go_loop [3] (fun i => ∃ j : Nat, j ≤ r.ins.length ∧ i = .int .i64 j ∧ Hid (brief (r.ins.take j) = true)) (fun i => r.ins.length - (intOf i).toNat)
          case atStart => exact ⟨0, Nat.zero_le _, rfl, Lib.hid rfl⟩
          case round =>
            obtain ⟨j, hj, rfl, hbr⟩ := hrel
            by_cases hlt : j < r.ins.length
            · have hx := List.getElem?_eq_getElem hlt
              rcases HROW.out with h | ⟨b, off, rfl, hb, hcell⟩
              · rw [h] at hlt; simp at hlt
              obtain ⟨x0, x1⟩ := hcell j _ hx
              have hbt := brief_take hx
              have hbn := fun h => brief_no hx h
              generalize r.ins[j] = x at *
              have HBT := Lib.hid hbt
              have HBN := Lib.hid hbn
              clear hbt hbn hcell hx
              by_cases h5 : x.name.size ≤ 5000
              · have h5' : ¬ (5000 : Int) < (x.name.size : Int) := by omega
                go_wp2_with fail
                go_round
                case rel => exact ⟨j + 1, by omega, by go_num, Lib.hid (by rw [HBT.out, hbr.out]; simpa using h5)⟩
                case measure => simp [intOf]; omega
              · have h5' : (5000 : Int) < (x.name.size : Int) := by omega
                go_wp2_with fail
                go_ret
                exact ⟨ret_bool (by rw [HS.out, HBN.out h5]), HB.out⟩
            · obtain rfl : j = r.ins.length := by omega
              rw [List.take_length] at hbr
              go_wp2_with fail
              go_ret
              exact ⟨ret_bool (by rw [HS.out, hbr.out]), HB.out⟩
        · have hs : lightB r = false := by rw [EL.out, ES.out]; simp [h4]
          have HS := Lib.hid hs
          clear hs EL ES
          have h4' : (600 : Int) < (r.found.length : Int) := by omega
          go_enter Try.func10, Try.ntmps10
          go_wp2_with fail
          go_ret
          exact ⟨ret_bool HS.out.symm, HB.out⟩
      · have hs : lightB r = false := by rw [EL.out, ES.out]; simp [h3]
        have HS := Lib.hid hs
        clear hs EL ES
        have h4' : (500 : Int) < (r.ins.length : Int) := by omega
        go_enter Try.func10, Try.ntmps10
        go_wp2_with fail
        go_ret
        exact ⟨ret_bool HS.out.symm, HB.out⟩
    · have hs : lightB r = false := by rw [EL.out, ES.out]; simp [h2]
      have HS := Lib.hid hs
      clear hs EL ES
      go_enter Try.func10, Try.ntmps10
      go_wp2_with fail
      go_ret
      exact ⟨ret_bool HS.out.symm, HB.out⟩
  · have hs : lightB r = false := by rw [EL.out, ES.out]; simp [h1]
    have HS := Lib.hid hs
    clear hs EL ES
    go_enter Try.func10, Try.ntmps10
    go_wp2_with fail
    go_ret
    exact ⟨ret_bool HS.out.symm, HB.out⟩
end Go.Proofs.Ytdijpoemimebmaa.Rn
