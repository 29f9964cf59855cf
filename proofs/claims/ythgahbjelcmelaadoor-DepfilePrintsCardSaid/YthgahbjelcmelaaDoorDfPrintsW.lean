/-
  THE LAW DepfilePrints: what it is given, opened; walked.
-/
import Derived.Test.YthgahbjelcmelaaDoorDfPrintW
import Derived.Deep.Slices
import Derived.Deep.Fields
import Derived.ChangeSame
namespace Go.Proofs.YthgahbjelcmelaaDoor.Df
open Go.RowKit Go.Proofs.YthgahbjelcmelaaDoor

/-- a slice that is nil has no room -/
def NilOk (v : Value) : Prop := ∀ n c, v = .slice none n c → c = 0

theorem run_copyS {W : World} {u : Option Addr} {k : Nat} {K : List Bs} (hs : Strs W (.slice u K.length k) K) (hno : u = none → k = 0) (hl : K.length ≤ 1000000) :
    ∃ a' c' W', (Builtin.append_ #[22, 22] 22 #[.slice (some ⟨W.heap.size, 0, none⟩) 0 0, .slice u K.length k]).run Tryd.prog (W.alloc (.cells #[] 9)) = .ok (.slice a' K.length c') W' ∧ Strs W' (.slice a' K.length c') K ∧ Below W.heap.size W W' := by
  obtain ⟨i0, hi, hz0, hz1, hz2⟩ := info_parts info9
  have hown := World.ownsRow_made (e := 9) (size := 1) W #[] 0 (Nat.le_refl _) (by unfold maxLen; omega) rfl
  have hA := below_alloc W (.cells #[] 9)
  obtain ⟨u', k', e, hk, hrow⟩ := hs
  injection e with e1 _ e3
  subst e1
  subst e3
  cases u with
  | none =>
    obtain rfl : k = 0 := hno rfl
    have h0 : K.length = 0 := by omega
    obtain rfl : K = [] := List.eq_nil_of_length_eq_zero h0
    exact ⟨some ⟨W.heap.size, 0, none⟩, 0, W.alloc (.cells #[] 9), run_append_owned_none (P := Tryd.prog) _ W.heap.size 22 22 9 i0 1 Tryd.underlying22 hi _ _ _ hown, ⟨_, _, rfl, Nat.le_refl _, .inl rfl⟩, hA⟩
  | some ad =>
    have hcells : ∀ j x, (strV K)[j]? = some x → (W.alloc (.cells #[] 9)).cell? (ad.add j) = some x := fun j x hj => by
      rcases hrow with h | ⟨b, off, e, hb, hc⟩
      · rw [h] at hj; simp [strV] at hj
      · cases e
        rw [Go.WideShapes.add_plain]
        have hj2 : K[j]?.map (fun p => Value.string (mk p)) = some x := by rw [← hj]; simp [strV]
        obtain ⟨p, hp, rfl⟩ := Option.map_eq_some_iff.1 hj2
        exact (cell_of_block (hA.block b hb)).trans (hc j p hp)
    obtain ⟨v', W', hr, h2, h3, _, _⟩ := run_append_own_at (P := Tryd.prog) (W.alloc (.cells #[] 9)) W.heap.size 22 22 9 i0 (.string ⟨#[]⟩) 1 16 Tryd.underlying22 hi hz0 hz1 hz2 rfl (by decide) _ 0 [] hown ad K.length k (strV K) (by rw [strV_length]; omega) hcells (fun u hu => by
      unfold strV at hu
      obtain ⟨p, _, rfl⟩ := List.mem_map.1 hu
      rfl) (by unfold maxLen; omega) (by omega) hA.size
    rw [Nat.zero_add, List.nil_append] at h2
    obtain ⟨a', c', rfl⟩ := owns_len h2
    exact ⟨a', c', W', hr, owns_strs h2, hA.trans ⟨h3.os, h3.tape, h3.output, h3.size, fun j hj => h3.block j (by have := hA.size; omega) fun e => by
      have e := Option.some.inj e
      simp at e
      omega⟩⟩

theorem take_len {K : List Bs} {j : Nat} {x : Bs} (h : K[j]? = some x) (h0 : ∀ y ∈ K.take j, y.length ≤ 200) (hx : x.length ≤ 200) : ∀ y ∈ K.take (j + 1), y.length ≤ 200 := fun y hy => by
  rw [List.take_add_one, h] at hy
  rcases List.mem_append.1 hy with hy | hy
  · exact h0 y hy
  · have : y = x := by simpa using hy
    rw [this]; exact hx
theorem take_right {K : List Bs} {j : Nat} {x : Bs} (h : K[j]? = some x) : (K.take (j + 1)).all rightL = ((K.take j).all rightL && rightL x) := by
  rw [List.take_add_one, h, List.all_append]
  simp
theorem bad_right (out : Bs) (K : List Bs) : (badL out || K.any badL) = !(rightL out && K.all rightL) := by
  unfold badL
  rw [Bool.not_and, List.not_all_eq_any_not]

set_option maxRecDepth 100000 in
set_option maxHeartbeats 8000000 in
theorem prints_c {w : World} {dv : Value} {K : List Bs} (out : Bs) (h : Strs w dv K) (hno : NilOk dv) (hg : Gl w) : Calls Tryd.prog 4 #[.string (mk out), dv] w fun e w' => e = .returned (.bool true) ∧ Below w.heap.size w w' := by
  have hsz := mk_size out
  obtain ⟨a, c, rfl, hc, hrow⟩ := h
  have HS : Hid (Strs w (.slice a K.length c) K) := Lib.hid ⟨a, c, rfl, hc, hrow⟩
  have HNO := Lib.hid (fun e : a = none => hno K.length c (by rw [e]))
  clear hrow hno
  by_cases hbig : 200 < out.length
  · have t0 : decide ((200 : Int) < ((mk out).size : Int)) = true := decide_eq_true (by rw [hsz]; omega)
    clear hsz
    generalize mk out = S at *
    go_enter Tryd.func4, Tryd.ntmps4
    go_wp2_with fail
    go_ret
    exact ⟨rfl, Below.refl _ _⟩
  have t0 : decide ((200 : Int) < ((mk out).size : Int)) = false := decide_eq_false (by rw [hsz]; omega)
  by_cases hmany : 50 < K.length
  · have t1 : decide ((50 : Int) < (K.length : Int)) = true := decide_eq_true (by omega)
    clear hsz
    generalize mk out = S at *
    go_enter Tryd.func4, Tryd.ntmps4
    go_wp2_with fail
    go_ret
    exact ⟨rfl, Below.refl _ _⟩
  have t1 : decide ((50 : Int) < (K.length : Int)) = false := decide_eq_false (by omega)
  have HGL : Hid (∀ W, Below w.heap.size w W → Gl W) := Lib.hid fun W hW => hg.below hW hg.lt
  have cr := refRight_c out (by omega) w
  have HO : Hid (out.length ≤ 200) := Lib.hid (by omega)
  have hmn : K.length ≤ 50 := by omega
  clear hg hsz hbig hmany
  go_enter Tryd.func4, Tryd.ntmps4
  go_wp2_with fail
  refine cr.mono ?_
  rintro e w1 ⟨rfl, hb1⟩
  have HB1 := Lib.hid hb1
  clear cr hb1 t0 t1
  go_wp2_with fail
  go_loopw [5, 6] (fun ok i wr => ∃ j : Nat, j ≤ K.length ∧ i = .int .i64 j ∧ ok = .bool (rightL out && (K.take j).all rightL) ∧ Hid (∀ y ∈ K.take j, y.length ≤ 200) ∧ Hid (Below w.heap.size w wr)) (fun _ i _ => K.length - (intOf i).toNat)
  case atStart => exact ⟨0, Nat.zero_le _, rfl, by rw [List.take_zero]; simp, Lib.hid (by simp), HB1⟩
  case round =>
    obtain ⟨j, hj, rfl, rfl, hL, hB⟩ := hrel
    by_cases hlt : j < K.length
    · have hx := List.getElem?_eq_getElem hlt
      obtain ⟨_, _, e, _, hrow⟩ := HS.out
      cases e
      rcases hrow with h0 | ⟨g, off, rfl, hg, hcell⟩
      · rw [h0] at hlt; simp at hlt
      have hc0 : wr.cell? ⟨g, off + j, none⟩ = some (.string (mk K[j])) := (cell_of_block (hB.out.block g hg)).trans (hcell j _ hx)
      have htr := take_right hx
      have htl := fun h => take_len hx hL.out h
      generalize K[j] = x at *
      have HTR := Lib.hid htr
      have HTL := Lib.hid htl
      have hxs := mk_size x
      have hi0 : (0 : Int) ≤ (j : Int) := by omega
      have hi1 : (j : Int) < (K.length : Int) := by omega
      clear hcell hx htr htl
      by_cases hxl : 200 < x.length
      · have t0 : decide ((200 : Int) < ((mk x).size : Int)) = true := decide_eq_true (by rw [hxs]; omega)
        clear hxs
        go_wp2_with fail
        go_ret
        exact ⟨rfl, hB.out⟩
      have t0 : decide ((200 : Int) < ((mk x).size : Int)) = false := decide_eq_false (by rw [hxs]; omega)
      have HL2 := Lib.hid (HTL.out (by omega))
      have cr := refRight_c x (by omega) wr
      clear hxs hxl HTL
      obtain ⟨z, hz⟩ : ∃ z, (rightL out && (K.take j).all rightL) = z := ⟨_, rfl⟩
      have HOK : Hid ((rightL out && (K.take (j + 1)).all rightL) = (z && rightL x)) := Lib.hid (by rw [HTR.out, ← Bool.and_assoc, hz])
      rw [hz]
      clear hz HTR
      cases z with
      | true =>
        go_wp2_with fail
        refine cr.mono ?_
        rintro e w2 ⟨rfl, hb2⟩
        have HB2 := Lib.hid (hB.out.trans (hb2.mono hB.out.size))
        clear cr hb2
        go_wp2_with fail
        go_roundw
        case rel => exact ⟨j + 1, by omega, by go_num, by rw [HOK.out]; simp, HL2, HB2⟩
        case measure => simp [intOf] <;> omega
      | false =>
        go_wp2_with fail
        go_roundw
        case rel => exact ⟨j + 1, by omega, by go_num, by rw [HOK.out]; simp, HL2, hB⟩
        case measure => simp [intOf] <;> omega
    · obtain rfl : j = K.length := by omega
      rw [List.take_length] at hL ⊢
      have hbr := bad_right out K
      obtain ⟨a3, c3, w3, hrun, hs3, hb3⟩ := run_copyS (HS.out.below hB.out) HNO.out (by omega)
      have cp := print_c out hs3 hmn HO.out hL.out
      have HB3 := Lib.hid (hB.out.trans (hb3.mono hB.out.size))
      have HRUN := Lib.hid hrun
      unfold PrQ at cp
      rw [hbr] at cp
      clear hbr hs3 hb3 hrun
      obtain ⟨z, hz⟩ : ∃ z, (rightL out && K.all rightL) = z := ⟨_, rfl⟩
      rw [hz] at cp ⊢
      clear hz
      cases z with
      | false =>
        have cp2 : Calls Tryd.prog 11 #[.string (mk out), .slice a3 K.length c3] w3 fun e w' => e = .returned (.tuple #[.string ⟨#[]⟩, .int .i64 5]) ∧ Below w3.heap.size w3 w' := cp
        clear cp
        go_wp2_with (at_builtin; refine wpList_run rfl (.tmp 41) (.tmp 42) rfl rfl rfl HRUN.out ?_)
        refine cp2.mono ?_
        rintro e w4 ⟨rfl, hb4⟩
        have HB4 := Lib.hid (HB3.out.trans (hb4.mono HB3.out.size))
        have ca := awake_c w4 (HGL.out w4 HB4.out)
        clear cp2 hb4
        go_wp2_with fail
        refine ca.mono ?_
        rintro e w5 ⟨rfl, hb5⟩
        have HB5 := Lib.hid (HB4.out.trans (hb5.mono HB4.out.size))
        clear ca hb5
        go_wp2_with fail
        go_ret
        exact ⟨rfl, HB5.out⟩
      | true =>
        have cp2 : Calls Tryd.prog 11 #[.string (mk out), .slice a3 K.length c3] w3 fun e w' => e = .returned (.tuple #[.string (mk (txt out K ++ [10])), .int .i64 0]) ∧ Below w3.heap.size w3 w' := cp
        have hcmp := cmpS (txt out K ++ [10]) (txt out K ++ [10])
        rw [decide_eq_true rfl] at hcmp
        have HRP := Lib.hid (fun W (hW : Strs W (.slice a K.length c) K) => refPrint_c out hW hmn HO.out hL.out)
        generalize txt out K ++ [10] = T at *
        clear cp
        go_wp2_with (at_builtin; refine wpList_run rfl (.tmp 41) (.tmp 42) rfl rfl rfl HRUN.out ?_)
        refine cp2.mono ?_
        rintro e w4 ⟨rfl, hb4⟩
        have HB4 := Lib.hid (HB3.out.trans (hb4.mono HB3.out.size))
        have crp := HRP.out w4 (HS.out.below HB4.out)
        clear cp2 hb4
        go_wp2_with fail
        refine crp.mono ?_
        rintro e w5 ⟨rfl, rfl⟩
        have ca := awake_c w4 (HGL.out w4 HB4.out)
        clear crp
        go_wp2_with fail
        refine ca.mono ?_
        rintro e w5 ⟨rfl, hb5⟩
        have HB5 := Lib.hid (HB4.out.trans (hb5.mono HB4.out.size))
        clear ca hb5
        go_wp2_with fail
        go_ret
        exact ⟨rfl, HB5.out⟩
end Go.Proofs.YthgahbjelcmelaaDoor.Df
