/-
  A ROW OF ROWS OF BYTES: a law's argument.
-/
import Derived.Test.YtofdnbddpageoaaNmArg
import Derived.Test.YtofdnbddpageoaaNmRec
import Derived.Test.YtofdnbddpageoaaNmBrief
namespace Go.Proofs.Ytofdnbddpageoaa.Nm
open Go.RowKit Go.Maps Go.ChangeShapes Go.WideShapes Go.Deep

/-- rows of bytes; a nil one has no room -/
def RecNo (w : World) (v : Value) (rs : List (List Nat)) : Prop :=
  ∃ a c, v = .slice a rs.length c ∧ rs.length ≤ c ∧ (rs = [] ∨ ∃ b off, a = some ⟨b, off, Option.none⟩ ∧ b < w.heap.size ∧ ∀ i r, rs[i]? = some r → ∃ u k, w.cell? ⟨b, off + i, Option.none⟩ = some (.slice u r.length k) ∧ r.length ≤ k ∧ Pk.Row w u r ∧ (u = Option.none → k = 0))
theorem RecNo.row {w : World} {v : Value} {rs : List (List Nat)} (h : RecNo w v rs) : RecRow w v rs := by
  obtain ⟨a, c, e, h1, h2⟩ := h
  exact ⟨a, c, e, h1, h2.imp id fun ⟨b, off, e, hl, hc⟩ => ⟨b, off, e, hl, fun i r hi => by
    obtain ⟨u, k, c0, h3, h4, -⟩ := hc i r hi
    exact ⟨u, k, c0, h3, h4⟩⟩⟩
theorem RecNo.below {w w' : World} {v : Value} {rs : List (List Nat)} (h : RecNo w v rs) (hb : Below w.heap.size w w') : RecNo w' v rs := by
  obtain ⟨a, c, e, h1, h2⟩ := h
  refine ⟨a, c, e, h1, h2.imp id fun ⟨b, off, e, hl, hc⟩ => ⟨b, off, e, Nat.lt_of_lt_of_le hl hb.size, fun i r hi => ?_⟩⟩
  obtain ⟨u, k, c0, h3, h4, h5⟩ := hc i r hi
  exact ⟨u, k, (cell_of_block (hb.block b hl)).trans c0, h3, h4.below hb, h5⟩

set_option maxRecDepth 100000
section
variable {H : Type} {enc : TypeId × Value → H} {w : World} {base : Nat} {spare : Nat → Bool} {held : Bool}

/-- a row of bytes, read off its one cell -/
theorem bytes_one {v : Value} {m : Nat} {x : DataW H × List MemPlace} (hm : DataW.trod enc Try.prog w base spare held m 32 [v] = some x) :
    ∃ a n c l, v = .slice a n c ∧ Hid (n = l.length) ∧ Pk.Row w a l ∧ (∀ x ∈ l, x < 256) ∧ n ≤ c ∧ (a = Option.none → c = 0) := by
  rcases open_slice Try.underlying32 hm with ⟨e, _⟩ | ⟨a, len, cap, mm, n, D, Pl, e, _, hlc, hcm, hmm, _, hel⟩
  · simp only [List.cons.injEq, and_true] at e
    exact ⟨Option.none, 0, 0, [], e, Lib.hid rfl, .inl rfl, by simp, Nat.le_refl _, fun _ => rfl⟩
  · simp only [List.cons.injEq, and_true] at e
    rw [e]
    have hlen : len ≤ mm := by rw [hmm]; split <;> omega
    rw [cells5] at hel
    have hex : ∀ i : Nat, ∃ s : Nat, i < len → s < 256 ∧ w.cell? (a.add (i * 1 + 0)) = some (.int .u8 (s : Int)) := by
      intro i
      by_cases hi : i < len
      · obtain ⟨cs', hc, ht⟩ := hel i (by omega)
        obtain ⟨_, hcl, hat⟩ := World.cells?_some hc
        match cs', hcl with
        | [v0], _ =>
          obtain ⟨z, e1, _, w1⟩ := DataW.trod_int Try.underlying5 ht
          simp only [List.cons.injEq, and_true] at e1
          subst e1
          obtain ⟨k, rfl, hk⟩ := u8_of w1
          refine ⟨k, fun _ => ⟨hk, ?_⟩⟩
          have := hat 0 (by simp); rw [Go.Deep.add_add] at this; exact this
      · exact ⟨0, fun h => absurd h hi⟩
    obtain ⟨f, hf⟩ := Classical.axiomOfChoice hex
    refine ⟨some a, len, cap, (List.range len).map f, rfl, Lib.hid (by simp), ?_, fun x hx => ?_, hlc, by simp⟩
    · by_cases h0 : len = 0
      · left; subst h0; rfl
      · right
        obtain ⟨b, off, spot⟩ := a
        have hc0 := (hf 0 (by omega)).2
        have hspot : spot = Option.none := by simpa [Addr.add] using World.cell?_spot hc0
        subst hspot
        refine ⟨b, off, rfl, lt_cell hc0, fun i hi => ?_⟩
        have hjl : i < len := by simpa using hi
        obtain ⟨x0, x1⟩ := hf i hjl
        rw [Go.WideShapes.add_plain, Nat.mul_one, Nat.add_zero] at x1
        rw [x1]
        simp [List.getD, hjl]
    · obtain ⟨j, hj, rfl⟩ := List.mem_map.1 hx
      exact (hf j (List.mem_range.1 hj)).1

/-- all that a row of bytes bears -/
def ByteOk (w : World) (v : Value) (l : List Nat) : Prop := ∃ a c, v = .slice a l.length c ∧ l.length ≤ c ∧ Pk.Row w a l ∧ (∀ x ∈ l, x < 256) ∧ (a = Option.none → c = 0)

theorem rows_row {v : Value} {m : Nat} {x : DataW H × List MemPlace} (hm : DataW.trod enc Try.prog w base spare held m 22 [v] = some x) : ∃ rs, RecNo w v rs ∧ rs.length ≤ 9223372036854775807 ∧ ∀ r ∈ rs, ∀ x ∈ r, x < 256 := by
  rcases open_slice Try.underlying22 hm with ⟨e, _⟩ | ⟨a, len, cap, mm, n, D, Pl, e, _, hlc, hcm, hmm, _, hel⟩
  · simp only [List.cons.injEq, and_true] at e
    exact ⟨[], ⟨Option.none, 0, e, Nat.le_refl _, .inl rfl⟩, by simp, by simp⟩
  · simp only [List.cons.injEq, and_true] at e
    rw [e]
    have hlen : len ≤ mm := by rw [hmm]; split <;> omega
    rw [cellsBs] at hel
    have hex : ∀ i : Nat, ∃ s : List Nat, i < len → ∃ v, w.cell? (a.add (i * 1 + 0)) = some v ∧ ByteOk w v s := by
      intro i
      by_cases hi : i < len
      · obtain ⟨cs', hc, ht⟩ := hel i (by omega)
        obtain ⟨_, hcl, hat⟩ := World.cells?_some hc
        match cs', hcl with
        | [v0], _ =>
          obtain ⟨a1, n1, c1, l1, e1, hn1, hr1, hb1, hc1, hz1⟩ := bytes_one ht
          have hn1 := hn1.out
          subst hn1
          refine ⟨l1, fun _ => ⟨v0, ?_, a1, c1, e1, hc1, hr1, hb1, hz1⟩⟩
          have := hat 0 (by simp); rw [Go.Deep.add_add] at this; exact this
      · exact ⟨[], fun h => absurd h hi⟩
    obtain ⟨f, hf⟩ := Classical.axiomOfChoice hex
    refine ⟨(List.range len).map f, ⟨some a, cap, by simp, by simpa using hlc, ?_⟩, by have : cap ≤ 9223372036854775807 := hcm; simp; omega, fun r hr => ?_⟩
    · by_cases h0 : len = 0
      · left; subst h0; rfl
      · right
        obtain ⟨b, off, spot⟩ := a
        obtain ⟨v0, hc0, -⟩ := hf 0 (by omega)
        have hspot : spot = Option.none := by simpa [Addr.add] using World.cell?_spot hc0
        subst hspot
        refine ⟨b, off, rfl, lt_cell hc0, fun i x hi => ?_⟩
        rw [List.getElem?_map] at hi
        obtain ⟨j, hj, rfl⟩ := Option.map_eq_some_iff.1 hi
        have hjl : i < len := by
          have := (List.getElem?_eq_some_iff.1 hj).1
          simpa using this
        have hji : j = i := by
          rw [List.getElem?_range hjl] at hj
          exact (Option.some.inj hj).symm
        subst hji
        obtain ⟨v1, x1, a1, c1, rfl, hc1, hr1, -, hz1⟩ := hf j hjl
        rw [Go.WideShapes.add_plain, Nat.mul_one, Nat.add_zero] at x1
        exact ⟨a1, c1, x1, hc1, hr1, hz1⟩
    · obtain ⟨j, hj, rfl⟩ := List.mem_map.1 hr
      obtain ⟨v1, -, a1, c1, -, -, -, hb1, -⟩ := hf j (List.mem_range.1 hj)
      exact hb1

theorem open_rows {v : Value} {d : DataW H} {p : List MemPlace} {r : Reach} {b0 : Nat} (hv : Value.okWide Try.prog w r b0 22 v) (h : DataW.Trod enc Try.prog w base spare held 22 v d p) : ∃ rs, RecNo w v rs ∧ rs.length ≤ 9223372036854775807 ∧ ∀ r ∈ rs, ∀ x ∈ r, x < 256 := by
  obtain ⟨a0, len0, cap0, rfl⟩ := okWide_slice Try.underlying22 hv
  obtain ⟨m, hm⟩ := h
  exact rows_row (v := .slice a0 len0 cap0) hm
end
end Go.Proofs.Ytofdnbddpageoaa.Nm

/-! LIGHT: the laws' test of records, walked. -/
namespace Go.Proofs.Ytofdnbddpageoaa.Nm
open Go.RowKit Go.Maps

def lightB (rs : List (List Nat)) : Bool := decide (rs.length ≤ 60) && rs.all fun r => decide (r.length ≤ 1000)

set_option maxRecDepth 100000 in
set_option maxHeartbeats 4000000 in
theorem light_c {w : World} {v : Value} {rs : List (List Nat)} (h : RecRow w v rs) :
    Calls Try.prog 9 #[v] w fun e w' => e = .returned (.bool (lightB rs)) ∧ w = w' := by
  obtain ⟨a, c, rfl, hc, hrow⟩ := h
  have HROW := Lib.hid hrow
  have EL := Lib.hid (show lightB rs = (decide (rs.length ≤ 60) && rs.all fun r => decide (r.length ≤ 1000)) from rfl)
  clear hrow
  by_cases h3 : rs.length ≤ 60
  · have h3' : decide ((60 : Int) < (rs.length : Int)) = false := decide_eq_false (by omega)
    have HS := Lib.hid (show lightB rs = rs.all fun r => decide (r.length ≤ 1000) by rw [EL.out]; simp [h3])
    clear EL
    go_enter Try.func9, Try.ntmps9
    go_wp2_with fail
    go_loop [3] (fun i => ∃ j : Nat, j ≤ rs.length ∧ i = .int .i64 j ∧ Hid (((rs.take j).all fun r => decide (r.length ≤ 1000)) = true)) (fun i => rs.length - (intOf i).toNat)
    case atStart => exact ⟨0, Nat.zero_le _, rfl, Lib.hid rfl⟩
    case round =>
      obtain ⟨j, hj, rfl, hbr⟩ := hrel
      by_cases hlt : j < rs.length
      · have hx := List.getElem?_eq_getElem hlt
        rcases HROW.out with h | ⟨b, off, rfl, hb, hcell⟩
        · rw [h] at hlt; simp at hlt
        obtain ⟨u, k, x0, hk, -⟩ := hcell j _ hx
        have HX := Lib.hid hx
        generalize rs[j] = x at *
        clear hcell hx
        by_cases h5 : x.length ≤ 1000
        · have h5' : ¬ (1000 : Int) < (x.length : Int) := by omega
          have HT : Hid (((rs.take (j + 1)).all fun r => decide (r.length ≤ 1000)) = true) := Lib.hid (by
            rw [List.take_add_one, HX.out, List.all_append, hbr.out]
            simpa using h5)
          go_wp2_with fail
          go_round
          case rel => exact ⟨j + 1, by omega, by go_num, HT⟩
          case measure => simp [intOf]; omega
        · have h5' : (1000 : Int) < (x.length : Int) := by omega
          have HN : Hid (lightB rs = false) := Lib.hid (by
            rw [HS.out, List.all_eq_false]
            exact ⟨x, List.mem_of_getElem? HX.out, by simpa using h5⟩)
          go_wp2_with fail
          go_ret
          exact ⟨ret_bool HN.out.symm, rfl⟩
      · obtain rfl : j = rs.length := by omega
        rw [List.take_length] at hbr
        go_wp2_with fail
        go_ret
        exact ⟨ret_bool (by rw [HS.out, hbr.out]), rfl⟩
  · have h3' : decide ((60 : Int) < (rs.length : Int)) = true := decide_eq_true (by omega)
    have HS := Lib.hid (show lightB rs = false by rw [EL.out]; simp [h3])
    clear EL
    go_enter Try.func9, Try.ntmps9
    go_wp2_with fail
    go_ret
    exact ⟨ret_bool HS.out.symm, rfl⟩
end Go.Proofs.Ytofdnbddpageoaa.Nm

/-! LOAD, where a record does not fit. -/
namespace Go.Proofs.Ytofdnbddpageoaa.Nm
open Go.RowKit Go.Maps

set_option maxRecDepth 100000 in
set_option maxHeartbeats 4000000 in
theorem loadNo_c {w : World} {v : Value} {rs : List (List Nat)} (h : RecRow w v rs) (hsm : ∀ r ∈ rs, r.length ≤ 1000000 ∧ ∀ x ∈ r, x < 256) (hn : rs.length ≤ 900000) (hB : takeAll ⟨[], []⟩ rs = Option.none) :
    Calls Try.prog 14 #[v] w fun e w' => e = .returned (.tuple #[.pointer Option.none, .int .i64 4]) ∧ Below w.heap.size w w' := by
  obtain ⟨a, c, rfl, hc, hrow⟩ := h
  have HROW := Lib.hid (show RecRow w (.slice a rs.length c) rs from ⟨a, c, rfl, hc, hrow⟩)
  have HSM := Lib.hid hsm
  have HB := Lib.hid hB
  clear hrow hsm hB
  go_enter Try.func14, Try.ntmps14
  go_wp2_with fail
  refine (newO_c w).mono ?_
  rintro e w1 ⟨q, rfl, hq, hb1⟩
  have HQ := Lib.hid hq
  have HB1 := Lib.hid hb1
  clear hq hb1
  go_wp2_with fail
  go_loopw [11] (fun i wr => ∃ j : Nat, j ≤ rs.length ∧ i = .int .i64 j ∧ ∃ Bk, Hid (takeAll ⟨[], []⟩ (rs.take j) = some Bk) ∧ Hid (Own w.heap.size 0 0 wr q Bk) ∧ Hid (Below w.heap.size w wr)) (fun i _ => rs.length - (intOf i).toNat)
  case atStart => exact ⟨0, Nat.zero_le _, rfl, _, Lib.hid rfl, HQ, HB1⟩
  case round =>
    obtain ⟨j, hj, rfl, Bk, hT, hO, hBe⟩ := hrel
    by_cases hlt : j < rs.length
    · have hx := List.getElem?_eq_getElem hlt
      have hsml := HSM.out _ (List.getElem_mem hlt)
      obtain ⟨_, _, e, _, hrow⟩ := HROW.out.below hBe.out
      cases e
      rcases hrow with h | ⟨b, off, rfl, hb, hcell⟩
      · rw [h] at hlt; simp at hlt
      obtain ⟨u, k, x0, hk, hr⟩ := hcell j _ hx
      have hNk : Bk.N.length < 1000000 := by have := takeAll_len hT.out; rw [List.length_take] at this; simp at this; omega
      generalize rs[j] = r at *
      have ct := take_own hO.out hBe.out.size (Nat.zero_le _) hr (Lib.hid rfl) hk hsml.1 hsml.2 hNk
      have HTK : Hid (takeAll ⟨[], []⟩ (rs.take (j + 1)) = takeB Bk r) := Lib.hid (by rw [List.take_add_one, hx, Option.toList_some, takeAll_app, hT.out]; show (takeB Bk r).bind (fun B => takeAll B []) = _; cases takeB Bk r <;> rfl)
      have hi0 : (0 : Int) ≤ (j : Int) := by omega
      have hi1 : (j : Int) < (rs.length : Int) := by omega
      clear hx hsml hr hcell
      go_wp2_with fail
      refine ct.mono ?_
      rintro e w5 ⟨he, hO5, hB5, -⟩
      cases hTB : takeB Bk r with
      | none =>
        rw [hTB] at he
        have he : e = .returned (.int .i64 4) := he
        subst he
        have HB5 := Lib.hid (hBe.out.trans hB5)
        clear ct hO5 hB5 hTB HTK
        go_wp2_with fail
        go_ret2
        exact ⟨rfl, HB5.out⟩
      | some Bn =>
        rw [hTB] at he hO5 HTK
        have he : e = .returned (.int .i64 0) := he
        subst he
        have HO5 : Hid (Own w.heap.size 0 0 w5 q Bn) := Lib.hid hO5
        have HB5 := Lib.hid (hBe.out.trans hB5)
        clear ct hO5 hB5 hTB
        go_wp2_with fail
        go_roundw
        case rel => exact ⟨j + 1, by omega, by go_num, Bn, HTK, HO5, HB5⟩
        case measure => simp [intOf]; omega
    · obtain rfl : j = rs.length := by omega
      rw [List.take_length] at hT
      have := HB.out
      rw [hT.out] at this
      cases this
end Go.Proofs.Ytofdnbddpageoaa.Nm
