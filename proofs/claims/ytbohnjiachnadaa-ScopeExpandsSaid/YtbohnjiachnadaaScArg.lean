/-
  THE LAWS' ARGUMENT: a row of names, texts, and at which level each is set.
-/
import Derived.Test.YtbohnjiachnadaaScopeHidesW
import Derived.Deep.Slices
import Derived.Deep.Fields
import Derived.ChangeSame
namespace Go.Proofs.Ytbohnjiachnadaa.Sc
open Go.RowKit Go.Maps Go.ChangeShapes Go.WideShapes Go.Deep

structure S3 where
  lv : Nat
  name : Bs
  text : Bs

def SetRow (w : World) (v : Value) (L : List S3) : Prop :=
  ∃ a c, v = .slice a L.length c ∧ L.length ≤ c ∧ L.length ≤ maxLen ∧ (L = [] ∨ ∃ b off, a = some ⟨b, off, none⟩ ∧ b < w.heap.size ∧
    ∀ i x, L[i]? = some x → x.lv < 256 ∧ w.cell? ⟨b, off + i * 3, none⟩ = some (.int .u8 (x.lv : Int)) ∧ w.cell? ⟨b, off + i * 3 + 1, none⟩ = some (.string (mk x.name)) ∧ w.cell? ⟨b, off + i * 3 + 2, none⟩ = some (.string (mk x.text)))

theorem SetRow.keep {w w' : World} {v : Value} {L : List S3} (h : SetRow w v L) (hb : Below w.heap.size w w') : SetRow w' v L := by
  obtain ⟨a, c, e, h1, h2, h3⟩ := h
  refine ⟨a, c, e, h1, h2, ?_⟩
  rcases h3 with h | ⟨b, off, e, hlt, hc⟩
  · exact .inl h
  · refine .inr ⟨b, off, e, Nat.lt_of_lt_of_le hlt hb.size, fun i x hi => ?_⟩
    obtain ⟨x0, x1, x2, x3⟩ := hc i x hi
    exact ⟨x0, (cell_of_block (hb.block b hlt)).trans x1, (cell_of_block (hb.block b hlt)).trans x2, (cell_of_block (hb.block b hlt)).trans x3⟩

theorem lv_of {z : Int} (h : (Lit.int .u8 z).wf = true) : ∃ n : Nat, z = (n : Int) ∧ n < 256 := by
  have hb : 0 ≤ z ∧ z ≤ 255 := by simpa [Lit.wf, IntKind.min, IntKind.max, IntKind.signed, IntKind.bits] using h
  exact ⟨z.toNat, by omega, by omega⟩

theorem lt_cell {w : World} {p : Addr} {v : Value} (h : w.cell? p = some v) : p.block < w.heap.size := by
  rcases Nat.lt_or_ge p.block w.heap.size with h' | h'
  · exact h'
  · simp [World.cell?, Array.getElem?_eq_none h'] at h

theorem cellsSet : Try.prog.cellsOf 44 = 3 := by kernel_rfl

section
variable {H : Type} {enc : TypeId × Value → H} {w : World} {base : Nat} {spare : Nat → Bool} {held : Bool}

/-- one element's three cells -/
theorem one_set {b off : Nat} {fuel : Nat} {cs : List Value} {x : DataW H × List MemPlace} (hl : cs.length = 3) (ht : DataW.trod enc Try.prog w base spare held fuel 44 cs = some x) :
    ∃ s : S3, s.lv < 256 ∧ cs = [.int .u8 (s.lv : Int), .string (mk s.name), .string (mk s.text)] := by
  match cs, hl with
  | [v0, v1, v2], _ =>
    obtain ⟨xs, n, _, _, _, hxl, hf⟩ := DataW.trod_struct Try.underlying44 ht
    have hxl3 : xs.length = 3 := hxl
    have f0 := hf 0 _ rfl
    have f1 := hf 1 _ rfl
    have f2 := hf 2 _ rfl
    rw [List.getElem?_eq_getElem (by omega)] at f0 f1 f2
    have k0 : DataW.trod enc Try.prog w base spare held n 5 [v0] = some _ := f0
    have k1 : DataW.trod enc Try.prog w base spare held n 9 [v1] = some _ := f1
    have k2 : DataW.trod enc Try.prog w base spare held n 9 [v2] = some _ := f2
    obtain ⟨z, e0, _, w0⟩ := DataW.trod_int Try.underlying5 k0
    obtain ⟨s1, e1, _, _⟩ := DataW.trod_string Try.underlying9 k1
    obtain ⟨s2, e2, _, _⟩ := DataW.trod_string Try.underlying9 k2
    simp only [List.cons.injEq, and_true] at e0 e1 e2
    subst e0 e1 e2
    obtain ⟨lv, rfl, hlv⟩ := lv_of w0
    exact ⟨⟨lv, s1.data.toList, s2.data.toList⟩, hlv, by rw [mk_of, mk_of]⟩

theorem set_row {v : Value} {d : DataW H} {p : List MemPlace} {r : Reach} {b0 : Nat} (hv : Value.okWide Try.prog w r b0 27 v) (h : DataW.Trod enc Try.prog w base spare held 27 v d p) : ∃ L, SetRow w v L := by
  obtain ⟨a0, len0, cap0, rfl⟩ := okWide_slice Try.underlying27 hv
  obtain ⟨m, hm⟩ := h
  have hm : DataW.trod enc Try.prog w base spare held m 27 [.slice a0 len0 cap0] = some (d, p) := hm
  rcases open_slice Try.underlying27 hm with ⟨e, _⟩ | ⟨a, len, cap, mm, n, D, Pl, e, _, hlc, hcm, hmm, _, hel⟩
  · simp only [List.cons.injEq, and_true] at e
    exact ⟨[], none, 0, e, Nat.le_refl _, by simp, .inl rfl⟩
  · simp only [List.cons.injEq, and_true] at e
    rw [e]
    have hlen : len ≤ mm := by rw [hmm]; split <;> omega
    rw [cellsSet] at hel
    have hex : ∀ i : Nat, ∃ s : S3, i < len → s.lv < 256 ∧ w.cell? (a.add (i * 3 + 0)) = some (.int .u8 (s.lv : Int)) ∧ w.cell? (a.add (i * 3 + 1)) = some (.string (mk s.name)) ∧ w.cell? (a.add (i * 3 + 2)) = some (.string (mk s.text)) := by
      intro i
      by_cases hi : i < len
      · obtain ⟨cs', hc, ht⟩ := hel i (by omega)
        obtain ⟨_, hcl, hat⟩ := World.cells?_some hc
        obtain ⟨s, hs, rfl⟩ := one_set (b := 0) (off := 0) hcl ht
        refine ⟨s, fun _ => ⟨hs, ?_, ?_, ?_⟩⟩
        · have := hat 0 (by omega); rw [Go.Deep.add_add] at this; exact this
        · have := hat 1 (by omega); rw [Go.Deep.add_add] at this; exact this
        · have := hat 2 (by omega); rw [Go.Deep.add_add] at this; exact this
      · exact ⟨⟨0, [], []⟩, fun h => absurd h hi⟩
    obtain ⟨f, hf⟩ := Classical.axiomOfChoice hex
    refine ⟨(List.range len).map f, some a, cap, by simp, by simpa using hlc, by simp; omega, ?_⟩
    by_cases h0 : len = 0
    · left; subst h0; rfl
    · right
      obtain ⟨b, off, spot⟩ := a
      have hc0 := (hf 0 (by omega)).2.1
      have hspot : spot = none := by simpa [Addr.add] using World.cell?_spot hc0
      subst hspot
      refine ⟨b, off, rfl, lt_cell hc0, fun i x hi => ?_⟩
      rw [List.getElem?_map] at hi
      obtain ⟨j, hj, rfl⟩ := Option.map_eq_some_iff.1 hi
      have hjl : i < len := by
        have := (List.getElem?_eq_some_iff.1 hj).1
        simpa using this
      have hji : j = i := by
        rw [List.getElem?_range hjl] at hj
        exact (Option.some.inj hj).symm
      subst hji
      obtain ⟨x0, x1, x2, x3⟩ := hf j hjl
      refine ⟨x0, ?_, ?_, ?_⟩
      · rw [Go.WideShapes.add_plain] at x1; exact x1
      · rw [Go.WideShapes.add_plain] at x2; exact x2
      · rw [Go.WideShapes.add_plain] at x3; exact x3
end

/-- are sets few, and short? -/
def lightB (L : List S3) : Bool := decide (L.length ≤ 30) && L.all fun x => decide (x.name.length ≤ 300) && decide (x.text.length ≤ 5000)

set_option maxRecDepth 100000 in
set_option maxHeartbeats 4000000 in
theorem light_c {w : World} {v : Value} {L : List S3} (h : SetRow w v L) : Calls Try.prog 16 #[v] w fun e w' => e = .returned (.bool (lightB L)) ∧ w = w' := by
  obtain ⟨a, c, rfl, hc, hm, hrow⟩ := h
  obtain ⟨R, hR⟩ : ∃ R, lightB L = R := ⟨_, rfl⟩
  have HR := Lib.hid hR
  rw [hR]
  clear hR
  have hmm : L.length ≤ 9223372036854775807 := by unfold maxLen at hm; exact hm
  clear hm
  obtain ⟨n, hn⟩ : ∃ n, L.length = n := ⟨_, rfl⟩
  rw [hn] at hc hmm ⊢
  have HN := Lib.hid hn
  have HROW := Lib.hid hrow
  clear hn hrow
  by_cases h30 : 30 < n
  · have e1 : R = false := by
      rw [← HR.out]; unfold lightB; rw [HN.out, decide_eq_false (by omega)]; rfl
    subst e1
    have h30i : (30 : Int) < (n : Int) := by omega
    go_enter Try.func16, Try.ntmps16
    go_wp2
    go_ret
    exact ⟨rfl, rfl⟩
  have h30i : ¬ (30 : Int) < (n : Int) := by omega
  go_enter Try.func16, Try.ntmps16
  go_wp2
  go_loopw [3] (fun i W' => ∃ j : Nat, i = .int .i64 j ∧ j ≤ n ∧ Hid ((L.take j).all (fun x => decide (x.name.length ≤ 300) && decide (x.text.length ≤ 5000)) = true) ∧ w = W') (fun i _ => n - (intOf i).toNat)
  case atStart => exact ⟨0, rfl, Nat.zero_le _, Lib.hid rfl, rfl⟩
  case round =>
    obtain ⟨j, rfl, hj, HA, rfl⟩ := hrel
    by_cases hlt : j < n
    · obtain ⟨x, hx⟩ : ∃ x, L[j]? = some x := ⟨_, List.getElem?_eq_getElem (by rw [HN.out]; exact hlt)⟩
      have hne : L ≠ [] := by rintro rfl; cases hx
      obtain ⟨b, off, rfl, _, hcell⟩ := HROW.out.resolve_left hne
      obtain ⟨_, x1, x2, x3⟩ := hcell j x hx
      have hz1 := mk_size x.name
      have hz2 := mk_size x.text
      have hbad : ∀ (hb : (decide (x.name.length ≤ 300) && decide (x.text.length ≤ 5000)) = false), R = false := fun hb => by
        rw [← HR.out]
        unfold lightB
        have : (L.all fun x => decide (x.name.length ≤ 300) && decide (x.text.length ≤ 5000)) = false := by
          cases ha : (L.all fun x => decide (x.name.length ≤ 300) && decide (x.text.length ≤ 5000)) with
          | false => rfl
          | true =>
            rw [List.all_eq_true] at ha
            have := ha x (List.mem_of_getElem? hx)
            rw [hb] at this
            cases this
        rw [this, Bool.and_false]
      have hgood : ∀ (hb : (decide (x.name.length ≤ 300) && decide (x.text.length ≤ 5000)) = true), (L.take (j + 1)).all (fun x => decide (x.name.length ≤ 300) && decide (x.text.length ≤ 5000)) = true := fun hb => by
        rw [List.take_add_one, hx, List.all_append, HA.out]
        simp at hb ⊢
        exact hb
      clear hne hcell hx
      by_cases h1 : x.name.length ≤ 300
      · by_cases h2 : x.text.length ≤ 5000
        · have HG := Lib.hid (hgood (by rw [decide_eq_true h1, decide_eq_true h2]; rfl))
          have h1i : ¬ (300 : Int) < ((mk x.name).size : Int) := by rw [hz1]; omega
          have h2i : ¬ (5000 : Int) < ((mk x.text).size : Int) := by rw [hz2]; omega
          clear hgood hbad h1 h2
          go_wp2
          go_roundw
          case rel => exact ⟨j + 1, by go_num, by omega, HG, trivial⟩
          case measure => simp [intOf]; omega
        · have e1 := hbad (by rw [decide_eq_false h2, Bool.and_false])
          subst e1
          have h1i : ¬ (300 : Int) < ((mk x.name).size : Int) := by rw [hz1]; omega
          have h2i : (5000 : Int) < ((mk x.text).size : Int) := by rw [hz2]; omega
          clear hgood hbad h1 h2
          go_wp2
          go_ret
          exact ⟨rfl, rfl⟩
      · have e1 := hbad (by rw [decide_eq_false h1]; rfl)
        subst e1
        have h1i : (300 : Int) < ((mk x.name).size : Int) := by rw [hz1]; omega
        clear hgood hbad h1
        go_wp2
        go_ret
        exact ⟨rfl, rfl⟩
    · have e1 : R = true := by
        rw [← HR.out]
        unfold lightB
        have := HA.out
        rw [List.take_of_length_le (by rw [HN.out]; omega)] at this
        rw [this, HN.out, decide_eq_true (by omega)]
        rfl
      subst e1
      have hji : ¬ (j : Int) < (n : Int) := by omega
      go_wp2
      go_ret
      exact ⟨rfl, rfl⟩

theorem lightB_true {L : List S3} (h : lightB L = true) : L.length ≤ 30 ∧ ∀ x ∈ L, x.name.length ≤ 300 ∧ x.text.length ≤ 5000 := by
  unfold lightB at h
  rw [Bool.and_eq_true, List.all_eq_true] at h
  refine ⟨of_decide_eq_true h.1, fun x hx => ?_⟩
  have := h.2 x hx
  rw [Bool.and_eq_true] at this
  exact ⟨of_decide_eq_true this.1, of_decide_eq_true this.2⟩
end Go.Proofs.Ytbohnjiachnadaa.Sc
