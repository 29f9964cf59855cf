/-
  Plan, WALKED.
-/
import Derived.Test.YtofdnbddpageoaaNmTelling
namespace Go.Proofs.Ytofdnbddpageoaa.Nm
open Go.RowKit Go.Maps

def longS (s : ByteArray) : Bool := decide (4000 < s.size)

theorem long_c (w : World) (s : ByteArray) : Calls Try.prog 38 #[.string s] w fun e w' => e = .returned (.bool (longS s)) ∧ w = w' := by
  obtain ⟨z, hz⟩ : ∃ z, longS s = z := ⟨_, rfl⟩
  have e : decide ((4000 : Int) < (s.size : Int)) = z := by rw [← hz]; unfold longS; simp; omega
  rw [hz]
  clear hz
  go_enter Try.func38, Try.ntmps38
  go_wp2_with fail
  go_ret
  exact ⟨rfl, rfl⟩

set_option maxHeartbeats 4000000 in
theorem indexF_c {w : World} {dv : Value} {l : List ByteArray} (h : StrRow w dv l) (hl : l.length ≤ 1000000) :
    Calls Try.prog 56 #[dv, .func (.func 38) #[] #[]] w fun e w' => (∃ z : Int, e = .returned (.int .i64 z) ∧ decide (0 ≤ z) = l.any longS) ∧ w = w' := by
  obtain ⟨a, c, rfl, hc, hrow⟩ := h
  have HROW := Lib.hid hrow
  clear hrow
  go_enter Try.func56, Try.ntmps56
  go_wp2_with fail
  go_loopw [5, 8] (fun _ i wr => ∃ j : Nat, j ≤ l.length ∧ i = .int .i64 j ∧ Hid ((l.take j).any longS = false) ∧ w = wr) (fun _ i _ => l.length - (intOf i).toNat)
  case atStart => exact ⟨0, Nat.zero_le _, rfl, Lib.hid (by simp), rfl⟩
  case round =>
    obtain ⟨j, hj, rfl, hA, rfl⟩ := hrel
    by_cases hlt : j < l.length
    · have hx := List.getElem?_eq_getElem hlt
      have htk : (l.take (j + 1)).any longS = ((l.take j).any longS || longS l[j]) := by
        rw [List.take_add_one, hx, List.any_append]
        generalize l[j] = y
        simp
      have hmem : l[j] ∈ l := List.getElem_mem hlt
      rcases HROW.out with h0 | ⟨b, off, rfl, hb, hcell⟩
      · rw [h0] at hlt; simp at hlt
      have hc0 := hcell j _ hx
      generalize l[j] = s at *
      have cl := long_c w s
      have HTK := Lib.hid htk
      have HMEM := Lib.hid hmem
      have hi0 : (0 : Int) ≤ (j : Int) := by omega
      have hi1 : (j : Int) < (l.length : Int) := by omega
      clear hcell hx htk hmem
      cases hz : longS s with
      | true =>
        rw [hz] at cl
        have HZ := Lib.hid hz
        clear hz
        go_wp2_with fail
        refine cl.mono ?_
        rintro e w1 ⟨rfl, rfl⟩
        clear cl
        go_wp2_with fail
        go_ret
        refine ⟨⟨(j : Int), rfl, ?_⟩, rfl⟩
        rw [decide_eq_true (by omega)]
        symm
        rw [List.any_eq_true]
        exact ⟨s, HMEM.out, HZ.out⟩
      | false =>
        rw [hz] at cl
        have HZ := Lib.hid hz
        clear hz
        go_wp2_with fail
        refine cl.mono ?_
        rintro e w1 ⟨rfl, rfl⟩
        clear cl
        go_wp2_with fail
        go_roundw
        case rel => exact ⟨j + 1, by omega, by go_num, Lib.hid (by rw [HTK.out, hA.out, HZ.out]; rfl), by simp⟩
        case measure => simp [intOf]; omega
    · obtain rfl : j = l.length := by omega
      rw [List.take_length] at hA
      go_wp2_with fail
      go_ret
      exact ⟨⟨-1, rfl, by rw [hA.out]; rfl⟩, rfl⟩

theorem containsF_c {w : World} {dv : Value} {l : List ByteArray} (h : StrRow w dv l) (hl : l.length ≤ 1000000) :
    Calls Try.prog 39 #[dv, .func (.func 38) #[] #[]] w fun e w' => e = .returned (.bool (l.any longS)) ∧ w = w' := by
  have hi := indexF_c h hl
  obtain ⟨z0, hz0⟩ : ∃ z, l.any longS = z := ⟨_, rfl⟩
  rw [hz0] at hi ⊢
  obtain ⟨a, c, rfl, -, -⟩ := h
  clear hz0
  go_enter Try.func39, Try.ntmps39
  go_wp2_with fail
  refine hi.mono ?_
  rintro e w1 ⟨⟨z, rfl, hz⟩, rfl⟩
  clear hi
  go_wp2_with fail
  go_ret
  exact ⟨rfl, rfl⟩

/-- why nothing is planned; 0: it is -/
def planE (out : ByteArray) (time : Int) (deps : List ByteArray) : Nat :=
  if time < 0 ∨ 4611686018427387904 ≤ time then 1 else if longS out = true ∨ 1000 < deps.length ∨ deps.any longS = true then 3 else 0

/-- what Plan comes to -/
def PlQ (w : World) (N : List ByteArray) (out : ByteArray) (time : Int) (deps : List ByteArray) (e : Ending) (w' : World) : Prop :=
  ∃ v, e = .returned (.tuple #[v, .int .i64 ((planE out time deps : Nat) : Int)]) ∧ Rows w.heap.size Option.none w' v (if planE out time deps = 0 then plan N out time.toNat deps else []) ∧ Below w.heap.size w w'

set_option maxRecDepth 100000 in
set_option maxHeartbeats 8000000 in
theorem plan_c {S : Nat → Prop} {w : World} {p : Nat} {B : Bo} {v1 v2 v3 dv : Value} {Q : List (Option Nat)} {out : ByteArray} {time : Int} {deps : List ByteArray} (h : Bk S w p B v1 v2 v3 Q) (hSw : ∀ k, S k → k < w.heap.size) (hd : StrRow w dv deps) (hdl : deps.length ≤ 1000000) (hN : B.N.length < 40000) :
    Calls Try.prog 20 #[.pointer (some ⟨p, 0, Option.none⟩), .agg #[.string out, .int .i64 time, dv]] w (PlQ w B.N out time deps) := by
  obtain ⟨W0, hW0⟩ : ∃ W, w.alloc (.cells #[.string out, .int .i64 time, dv] 39) = W := ⟨_, rfl⟩
  have hB0 : Below w.heap.size w W0 := by rw [← hW0]; exact Pk.below_alloc _ _
  have hbx : W0.heap[w.heap.size]? = some (.cells #[.string out, .int .i64 time, dv] 39 (0, 0)) := by rw [← hW0]; exact heap_alloc_new _ _
  have b0 : W0.cell? ⟨w.heap.size, 0, Option.none⟩ = some (.string out) := by simp [World.cell?, hbx]
  have b1 : W0.cell? ⟨w.heap.size, 1, Option.none⟩ = some (.int .i64 time) := by simp [World.cell?, hbx]
  have b2 : W0.cell? ⟨w.heap.size, 2, Option.none⟩ = some dv := by simp [World.cell?, hbx]
  have hd0 := hd.below hB0
  have cl := long_c W0 out
  have cf := containsF_c hd0 hdl
  have HB0 := Lib.hid hB0
  have H := Lib.hid (h.below hB0)
  have HD := Lib.hid hd0
  have HSW := Lib.hid (show ∀ k, S k → k < W0.heap.size from fun k hk => Nat.lt_of_lt_of_le (hSw k hk) hB0.size)
  obtain ⟨da, dc, rfl, -, -⟩ := hd
  clear h hSw hB0 hbx hd0
  by_cases h1 : time < 0
  · have HE : Hid (planE out time deps = 1) := Lib.hid (if_pos (.inl h1))
    go_enter Try.func20, Try.ntmps20
    go_wp2_with fail
    go_ret2
    exact ⟨_, by rw [HE.out]; rfl, by rw [HE.out]; exact rows_nil _ _ _, HB0.out⟩
  by_cases h2 : 4611686018427387904 ≤ time
  · have HE : Hid (planE out time deps = 1) := Lib.hid (if_pos (.inr h2))
    go_enter Try.func20, Try.ntmps20
    go_wp2_with fail
    go_ret2
    exact ⟨_, by rw [HE.out]; rfl, by rw [HE.out]; exact rows_nil _ _ _, HB0.out⟩
  obtain ⟨tn, htn⟩ : ∃ tn : Nat, time = (tn : Int) := ⟨time.toNat, by omega⟩
  subst htn
  have htb : tn < 4611686018427387904 := by omega
  have hE : planE out (tn : Int) deps = if longS out = true ∨ 1000 < deps.length ∨ deps.any longS = true then 3 else 0 := if_neg (by omega)
  cases h3 : longS out with
  | true =>
    have HE : Hid (planE out (tn : Int) deps = 3) := Lib.hid (by rw [hE, if_pos (.inl h3)])
    rw [h3] at cl
    clear hE h3 htb
    go_enter Try.func20, Try.ntmps20
    go_wp2_with fail
    refine cl.mono ?_
    rintro e w1 ⟨rfl, rfl⟩
    clear cl cf
    go_wp2_with fail
    go_ret2
    exact ⟨_, by rw [HE.out]; rfl, by rw [HE.out]; exact rows_nil _ _ _, HB0.out⟩
  | false =>
    rw [h3] at cl
    by_cases h4 : 1000 < deps.length
    · have HE : Hid (planE out (tn : Int) deps = 3) := Lib.hid (by rw [hE, if_pos (.inr (.inl h4))])
      have h4' : (1000 : Int) < (deps.length : Int) := by omega
      clear hE h3 htb h4
      go_enter Try.func20, Try.ntmps20
      go_wp2_with fail
      refine cl.mono ?_
      rintro e w1 ⟨rfl, rfl⟩
      clear cl cf
      go_wp2_with fail
      go_ret2
      exact ⟨_, by rw [HE.out]; rfl, by rw [HE.out]; exact rows_nil _ _ _, HB0.out⟩
    · have h4' : decide ((1000 : Int) < (deps.length : Int)) = false := decide_eq_false (by omega)
      cases h5 : deps.any longS with
      | true =>
        have HE : Hid (planE out (tn : Int) deps = 3) := Lib.hid (by rw [hE, if_pos (.inr (.inr h5))])
        rw [h5] at cf
        clear hE h3 htb h4 h5
        go_enter Try.func20, Try.ntmps20
        go_wp2_with fail
        refine cl.mono ?_
        rintro e w1 ⟨rfl, rfl⟩
        clear cl
        go_wp2_with fail
        refine cf.mono ?_
        rintro e w1 ⟨rfl, rfl⟩
        clear cf
        go_wp2_with fail
        go_ret2
        exact ⟨_, by rw [HE.out]; rfl, by rw [HE.out]; exact rows_nil _ _ _, HB0.out⟩
      | false =>
        have HE : Hid (planE out (tn : Int) deps = 0) := Lib.hid (by rw [hE, if_neg (by rw [h3, h5]; simp; omega)])
        rw [h5] at cf
        have hsz : ∀ s ∈ out :: deps, s.size ≤ 65535 := fun s hs => by
          have hno : longS s = false := by
            rcases List.mem_cons.1 hs with rfl | hs
            · exact h3
            · exact Bool.eq_false_iff.2 (fun hz => by
                have := List.any_eq_true.2 ⟨s, hs, hz⟩
                rw [h5] at this
                cases this)
          unfold longS at hno
          have := of_decide_eq_false hno
          omega
        have ct := telling_c H.out HSW.out HD.out hsz htb (by omega)
        clear hE h3 htb h4 h5 hsz
        go_enter Try.func20, Try.ntmps20
        go_wp2_with fail
        refine cl.mono ?_
        rintro e w1 ⟨rfl, rfl⟩
        clear cl
        go_wp2_with fail
        refine cf.mono ?_
        rintro e w1 ⟨rfl, rfl⟩
        clear cf
        go_wp2_with fail
        refine ct.mono ?_
        rintro e w2 ⟨vr, rfl, hrows, hb2⟩
        have HRW := Lib.hid (hrows.mono HB0.out.size)
        have HB2 := Lib.hid (HB0.out.trans (hb2.mono HB0.out.size))
        clear ct hrows hb2
        go_wp2_with fail
        go_ret2
        exact ⟨_, by rw [HE.out]; rfl, by rw [HE.out]; exact HRW.out, HB2.out⟩
end Go.Proofs.Ytofdnbddpageoaa.Nm
