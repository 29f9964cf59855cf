/-
  THE LAWS' OWN MEASURE: is what is found short?
-/
import Derived.Test.YtofdnbddpageoaaNmGive
namespace Go.Proofs.Ytofdnbddpageoaa.Nm
open Go.RowKit Go.Maps

def shortL (L : List ByteArray) : Bool := L.all fun s => decide (s.size ≤ 5000)
def briefB (d : Dp) : Bool := decide (d.out.size ≤ 5000) && decide (d.deps.length ≤ 50) && shortL d.deps
def allB (L : List Dp) : Bool := decide (L.length ≤ 30) && L.all briefB

theorem short_take {L : List ByteArray} {j : Nat} {x : ByteArray} (hx : L[j]? = some x) : shortL (L.take (j + 1)) = (shortL (L.take j) && decide (x.size ≤ 5000)) := by
  rw [List.take_add_one, hx]
  simp [shortL]
theorem short_no {L : List ByteArray} {j : Nat} {x : ByteArray} (hx : L[j]? = some x) (h : ¬ x.size ≤ 5000) : shortL L = false := by
  unfold shortL
  rw [List.all_eq_false]
  exact ⟨x, List.mem_of_getElem? hx, by simpa using h⟩
theorem all_take {L : List Dp} {j : Nat} {x : Dp} (hx : L[j]? = some x) : (L.take (j + 1)).all briefB = ((L.take j).all briefB && briefB x) := by
  rw [List.take_add_one, hx]
  simp
theorem all_no {L : List Dp} {j : Nat} {x : Dp} (hx : L[j]? = some x) (h : briefB x = false) : L.all briefB = false := by
  rw [List.all_eq_false]
  exact ⟨x, List.mem_of_getElem? hx, by simpa using h⟩

set_option maxRecDepth 100000 in
set_option maxHeartbeats 4000000 in
theorem brief_c {w : World} {d : Dp} {dv : Value} (hd : StrRow w dv d.deps) :
    Calls Try.prog 19 #[.agg #[.string d.out, .int .i64 d.time, dv]] w fun e w' => e = .returned (.bool (briefB d)) ∧ Below w.heap.size w w' := by
  obtain ⟨W0, hW0⟩ : ∃ W, w.alloc (.cells #[.string d.out, .int .i64 d.time, dv] 42) = W := ⟨_, rfl⟩
  have hB : Below w.heap.size w W0 := by rw [← hW0]; exact Pk.below_alloc _ _
  have hp : W0.heap[w.heap.size]? = some (.cells #[.string d.out, .int .i64 d.time, dv] 42 (0, 0)) := by rw [← hW0]; exact heap_alloc_new _ _
  obtain ⟨⟨c0, c1, c2⟩, -⟩ := thr_cells hp
  have HB := Lib.hid hB
  have EL := Lib.hid (show briefB d = (decide (d.out.size ≤ 5000) && decide (d.deps.length ≤ 50) && shortL d.deps) from rfl)
  have hd0 := hd.below hB
  obtain ⟨ai, ci, rfl, hci, hrow⟩ := hd0
  have HROW := Lib.hid hrow
  clear hd hp hB hrow
  by_cases h1 : d.out.size ≤ 5000
  · by_cases h3 : d.deps.length ≤ 50
    · have HS := Lib.hid (show briefB d = shortL d.deps by rw [EL.out]; simp [h1, h3])
      clear EL
      have h1' : decide ((5000 : Int) < (d.out.size : Int)) = false := decide_eq_false (by omega)
      have h3' : decide ((50 : Int) < (d.deps.length : Int)) = false := decide_eq_false (by omega)
      go_enter Try.func19, Try.ntmps19
      go_wp2_with fail
      go_loop [3] (fun i => ∃ j : Nat, j ≤ d.deps.length ∧ i = .int .i64 j ∧ Hid (shortL (d.deps.take j) = true)) (fun i => d.deps.length - (intOf i).toNat)
      case atStart => exact ⟨0, Nat.zero_le _, rfl, Lib.hid rfl⟩
      case round =>
        obtain ⟨j, hj, rfl, hbr⟩ := hrel
        by_cases hlt : j < d.deps.length
        · have hx := List.getElem?_eq_getElem hlt
          rcases HROW.out with h | ⟨b, off, rfl, hb, hcell⟩
          · rw [h] at hlt; simp at hlt
          have x0 := hcell j _ hx
          have hbt := short_take hx
          have hbn := fun h => short_no hx h
          generalize d.deps[j] = x at *
          have HBT := Lib.hid hbt
          have HBN := Lib.hid hbn
          clear hbt hbn hcell hx
          by_cases h5 : x.size ≤ 5000
          · have h5' : ¬ (5000 : Int) < (x.size : Int) := by omega
            go_wp2_with fail
            go_round
            case rel => exact ⟨j + 1, by omega, by go_num, Lib.hid (by rw [HBT.out, hbr.out]; simpa using h5)⟩
            case measure => simp [intOf]; omega
          · have h5' : (5000 : Int) < (x.size : Int) := by omega
            go_wp2_with fail
            go_ret
            exact ⟨ret_bool (by rw [HS.out, HBN.out h5]), HB.out⟩
        · obtain rfl : j = d.deps.length := by omega
          rw [List.take_length] at hbr
          go_wp2_with fail
          go_ret
          exact ⟨ret_bool (by rw [HS.out, hbr.out]), HB.out⟩
    · have HS := Lib.hid (show briefB d = false by rw [EL.out]; simp [h3])
      clear EL
      have h1' : decide ((5000 : Int) < (d.out.size : Int)) = false := decide_eq_false (by omega)
      have h3' : decide ((50 : Int) < (d.deps.length : Int)) = true := decide_eq_true (by omega)
      go_enter Try.func19, Try.ntmps19
      go_wp2_with fail
      go_ret
      exact ⟨ret_bool HS.out.symm, HB.out⟩
  · have HS := Lib.hid (show briefB d = false by rw [EL.out]; simp [h1])
    clear EL
    have h1' : decide ((5000 : Int) < (d.out.size : Int)) = true := decide_eq_true (by omega)
    go_enter Try.func19, Try.ntmps19
    go_wp2_with fail
    go_ret
    exact ⟨ret_bool HS.out.symm, HB.out⟩

set_option maxRecDepth 100000 in
set_option maxHeartbeats 4000000 in
theorem all_c {w : World} {v : Value} {L : List Dp} (h : DepRow w v L) (hL : L.length ≤ 9223372036854775807) :
    Calls Try.prog 26 #[v] w fun e w' => e = .returned (.bool (allB L)) ∧ Below w.heap.size w w' := by
  have EA := Lib.hid (show allB L = (decide (L.length ≤ 30) && L.all briefB) from rfl)
  obtain ⟨a, c, rfl, hc, hrow⟩ := h
  have HROW := Lib.hid (show DepRow w (.slice a L.length c) L from ⟨a, c, rfl, hc, hrow⟩)
  clear hrow
  by_cases h1 : L.length ≤ 30
  · have HA := Lib.hid (show allB L = L.all briefB by rw [EA.out]; simp [h1])
    clear EA
    have h1' : decide ((30 : Int) < (L.length : Int)) = false := decide_eq_false (by omega)
    go_enter Try.func26, Try.ntmps26
    go_wp2_with fail
    go_loopw [3] (fun i wr => ∃ j : Nat, j ≤ L.length ∧ i = .int .i64 j ∧ Hid ((L.take j).all briefB = true) ∧ Hid (Below w.heap.size w wr)) (fun i _ => L.length - (intOf i).toNat)
    case atStart => exact ⟨0, Nat.zero_le _, rfl, Lib.hid rfl, Lib.hid (Below.refl _ _)⟩
    case round =>
      obtain ⟨j, hj, rfl, hbr, hB⟩ := hrel
      by_cases hlt : j < L.length
      · have hx := List.getElem?_eq_getElem hlt
        obtain ⟨_, _, e, _, hrow⟩ := HROW.out.below hB.out
        cases e
        rcases hrow with h | ⟨b, off, rfl, hb, hcell⟩
        · rw [h] at hlt; simp at hlt
        obtain ⟨vd, x0, x1, x2, hs, -⟩ := hcell j _ hx
        have hbt := all_take hx
        have hbn := fun h => all_no hx h
        generalize L[j] = x at *
        have HBT := Lib.hid hbt
        have HBN := Lib.hid hbn
        have cb := brief_c hs
        obtain ⟨sa, sc, rfl, -, -⟩ := hs
        have hi0 : (0 : Int) ≤ (j : Int) := by omega
        have hi1 : (j : Int) < (L.length : Int) := by omega
        clear hbt hbn hcell hx
        cases hz : briefB x with
        | true =>
          rw [hz] at cb
          have HZ := Lib.hid hz
          clear hz
          go_wp2_with fail
          refine cb.mono ?_
          rintro e w1 ⟨rfl, hb1⟩
          have HB1 := Lib.hid (hB.out.trans (hb1.mono hB.out.size))
          clear cb hb1
          go_wp2_with fail
          go_roundw
          case rel => exact ⟨j + 1, by omega, by go_num, Lib.hid (by rw [HBT.out, hbr.out, HZ.out]; rfl), HB1⟩
          case measure => simp [intOf]; omega
        | false =>
          rw [hz] at cb
          have HZ := Lib.hid hz
          clear hz
          go_wp2_with fail
          refine cb.mono ?_
          rintro e w1 ⟨rfl, hb1⟩
          have HB1 := Lib.hid (hB.out.trans (hb1.mono hB.out.size))
          clear cb hb1
          go_wp2_with fail
          go_ret
          exact ⟨ret_bool (by rw [HA.out, HBN.out HZ.out]), HB1.out⟩
      · obtain rfl : j = L.length := by omega
        rw [List.take_length] at hbr
        go_wp2_with fail
        go_ret
        exact ⟨ret_bool (by rw [HA.out, hbr.out]), hB.out⟩
  · have HA := Lib.hid (show allB L = false by rw [EA.out]; simp [h1])
    clear EA
    have h1' : decide ((30 : Int) < (L.length : Int)) = true := decide_eq_true (by omega)
    go_enter Try.func26, Try.ntmps26
    go_wp2_with fail
    go_ret
    exact ⟨ret_bool HA.out.symm, Below.refl _ _⟩
end Go.Proofs.Ytofdnbddpageoaa.Nm
