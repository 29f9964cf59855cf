/-
  The law ScopeParts, walked.
-/
import Derived.Test.YtbohnjiachnadaaScopeBackW
namespace Go.Proofs.Ytbohnjiachnadaa.Sc
open Go.RowKit Go.Maps

set_option maxRecDepth 100000 in
set_option maxHeartbeats 8000000 in
theorem scopeParts_w {w : World} {v : Value} {L : List S3} (h : SetRow w v L) (A0 B0 : ByteArray) (hA : A0.size ≤ 9223372036854775807) (hB : B0.size ≤ 9223372036854775807) :
    Calls Try.prog 8 #[v, .string A0, .string B0] w fun e w' => e = .returned (.bool true) ∧ Below w.heap.size w w' := by
  obtain ⟨a, rfl⟩ : ∃ s, A0 = mk s := ⟨A0.data.toList, (mk_of A0).symm⟩
  obtain ⟨b, rfl⟩ : ∃ s, B0 = mk s := ⟨B0.data.toList, (mk_of B0).symm⟩
  have hza := mk_size a
  have hzb := mk_size b
  have hlt := light_c h
  cases hlb : lightB L with
  | false =>
    rw [hlb] at hlt
    clear hlb
    go_enter Try.func8, Try.ntmps8
    go_wp2_with fail
    refine hlt.mono ?_
    rintro e w1 ⟨rfl, rfl⟩
    go_wp2_with fail
    go_ret
    exact ⟨rfl, Below.refl _ _⟩
  | true =>
    rw [hlb] at hlt
    by_cases hl : 100 < a.length
    · have hl' : 100 < ((mk a).size : Int) := by omega
      clear hlb
      go_enter Try.func8, Try.ntmps8
      go_wp2_with fail
      refine hlt.mono ?_
      rintro e w1 ⟨rfl, rfl⟩
      go_wp2_with fail
      go_ret
      exact ⟨rfl, Below.refl _ _⟩
    have hl' : ¬ 100 < ((mk a).size : Int) := by omega
    by_cases hl2 : 100 < b.length
    · have hl2' : 100 < ((mk b).size : Int) := by omega
      clear hlb
      go_enter Try.func8, Try.ntmps8
      go_wp2_with fail
      refine hlt.mono ?_
      rintro e w1 ⟨rfl, rfl⟩
      go_wp2_with fail
      go_ret
      exact ⟨rfl, Below.refl _ _⟩
    have hl2' : ¬ 100 < ((mk b).size : Int) := by omega
    have hbu := built_c h hlb
    have hl30 := (lightB_true hlb).1
    have haw := awake_c
    obtain ⟨ad, c, rfl, hc, _, hrow⟩ := h
    obtain ⟨n, hn⟩ : ∃ n, L.length = n := ⟨_, rfl⟩
    rw [hn] at hc hl30 hlt hbu ⊢
    have HN := Lib.hid hn
    have HROW := Lib.hid hrow
    clear hlb hrow hn
    go_enter Try.func8, Try.ntmps8
    go_wp2_with fail
    refine hlt.mono ?_
    rintro e w1 ⟨rfl, rfl⟩
    clear hlt
    go_wp2_with fail
    go_loopw [7] (fun i W' => ∃ j : Nat, i = .int .i64 j ∧ j ≤ n ∧ Hid (∀ x ∈ L.take j, x.text.length ≤ 100) ∧ w = W') (fun i _ => n - (intOf i).toNat)
    case atStart => exact ⟨0, rfl, Nat.zero_le _, Lib.hid (by simp), rfl⟩
    case round =>
      obtain ⟨j, rfl, hj, HT, rfl⟩ := hrel
      by_cases hjn : j < n
      · obtain ⟨x, hx⟩ : ∃ x, L[j]? = some x := ⟨_, List.getElem?_eq_getElem (by rw [HN.out]; exact hjn)⟩
        have hne : L ≠ [] := by rintro rfl; cases hx
        obtain ⟨bb, off, rfl, hblt, hcell⟩ := HROW.out.resolve_left hne
        obtain ⟨_, _, _, x2⟩ := hcell j x hx
        have hzt := mk_size x.text
        by_cases h100 : 100 < x.text.length
        · have h100i : 100 < ((mk x.text).size : Int) := by omega
          clear hx hne hcell
          go_wp2_with fail
          go_ret
          exact ⟨rfl, Below.refl _ _⟩
        · have h100i : ¬ 100 < ((mk x.text).size : Int) := by omega
          have HT2 := Lib.hid (show ∀ y ∈ L.take (j + 1), y.text.length ≤ 100 from fun y hy => by
            rw [take_snoc3 hx] at hy
            rcases List.mem_append.1 hy with h | h
            · exact HT.out y h
            · rw [List.mem_singleton.1 h]; omega)
          clear hx hne hcell
          go_wp2_with fail
          go_roundw
          case rel => exact ⟨j + 1, by go_num, by omega, HT2, trivial⟩
          case measure => simp [intOf]; omega
      · have hji : ¬ (j : Int) < (n : Int) := by omega
        have hsm : ∀ x ∈ L, x.text.length ≤ 100 := by
          have := HT.out
          rw [List.take_of_length_le (by rw [HN.out]; omega)] at this
          exact this
        have hg100 := lvls_le hsm
        have HG := Lib.hid (show ∀ l, (getL (lvls L) l).length ≤ 900000 from fun l => Nat.le_trans (hg100 l) (by omega))
        have hxa : ∀ x, exp (getL (lvls L)) a = some x → x.length ≤ 5000 := fun x hx => by
          have := exp_len _ (by omega) hg100 a.length a x (Nat.le_refl _) hx
          have h2 : 100 * a.length ≤ 100 * 100 := Nat.mul_le_mul_left _ (by omega)
          omega
        have hxb : ∀ x, exp (getL (lvls L)) b = some x → x.length ≤ 5000 := fun x hx => by
          have := exp_len _ (by omega) hg100 b.length b x (Nat.le_refl _) hx
          have h2 : 100 * b.length ≤ 100 * 100 := Nat.mul_le_mul_left _ (by omega)
          omega
        have HAB := Lib.hid (show ∀ x, exp (getL (lvls L)) a = some x → exp (getL (lvls L)) (a ++ 32 :: b) = (exp (getL (lvls L)) b).map (x ++ 32 :: ·) from fun x hx => exp_parts _ a.length a b x (Nat.le_refl _) hx)
        have hcat1 : mk a ++ (⟨#[32]⟩ : ByteArray) = mk (a ++ [32]) := mk_append a [32]
        have hcat2 : mk (a ++ [32]) ++ mk b = mk (a ++ 32 :: b) := by rw [mk_append, List.append_assoc]; rfl
        have hzc : (mk (a ++ [32])).size = a.length + 1 := by rw [mk_size, List.length_append]; rfl
        obtain ⟨ea, hea⟩ : ∃ ea, exp (getL (lvls L)) a = ea := ⟨_, rfl⟩
        obtain ⟨eb, heb⟩ : ∃ eb, exp (getL (lvls L)) b = eb := ⟨_, rfl⟩
        have HEA := Lib.hid hea
        have HEB := Lib.hid heb
        have HXA := Lib.hid hxa
        have HXB := Lib.hid hxb
        clear hsm hg100 hxa hxb hea heb
        go_wp2_with fail
        refine hbu.mono ?_
        rintro e w2 ⟨ba, bw, p, mv, un, tn, rfl, B⟩
        have HB2 := Lib.hid B
        clear B hbu
        have hx1 := expand_c HB2.out.chain HG.out a (by omega)
        rw [ptr_some] at hx1
        obtain ⟨⟨ra, ka⟩, hra⟩ : ∃ r, expand (getL (lvls L)) a = r := ⟨_, rfl⟩
        obtain ⟨⟨rb, kb⟩, hrb⟩ : ∃ r, expand (getL (lvls L)) b = r := ⟨_, rfl⟩
        rw [hra] at hx1
        have HRA := Lib.hid hra
        have HRB := Lib.hid hrb
        clear hra hrb
        go_wp2_with fail
        refine hx1.mono ?_
        rintro e w3 ⟨rfl, hb3⟩
        have HB3 := Lib.hid (HB2.out.keep hb3)
        have hx2 := expand_c HB3.out.chain HG.out b (by omega)
        rw [HRB.out, ptr_some] at hx2
        clear hb3 hx1
        go_wp2_with fail
        refine hx2.mono ?_
        rintro e w4 ⟨rfl, hb4⟩
        have HB4 := Lib.hid (HB3.out.keep hb4)
        clear hb4 hx2
        cases ea with
        | none =>
          have e1 := expand_none HEA.out
          rw [HRA.out] at e1
          cases e1
          have e0 : (mk []).toList.isEmpty = true := by rw [mk_toList]; rfl
          go_wp2_with fail
          refine (haw _).mono ?_
          rintro e w5 ⟨rfl, hb5⟩
          go_wp2_with fail
          go_ret
          exact ⟨rfl, HB4.out.bel.trans (hb5.mono HB4.out.bel.size)⟩
        | some xa =>
          have la := HXA.out xa HEA.out
          have e1 := expand_some HEA.out (by omega)
          rw [HRA.out] at e1
          cases e1
          have hx3 := expand_c HB4.out.chain HG.out (a ++ 32 :: b) (by simp; omega)
          rw [ptr_some] at hx3
          cases eb with
          | none =>
            have e2 := expand_none HEB.out
            rw [HRB.out] at e2
            cases e2
            rw [expand_none (by rw [HAB.out _ HEA.out, HEB.out]; rfl)] at hx3
            have e0 : (mk []).toList.isEmpty = true := by rw [mk_toList]; rfl
            go_wp2_with fail
            with_reducible refine hx3.mono ?_
            rintro e w5 ⟨rfl, hb5⟩
            have B5 := Lib.hid (HB4.out.bel.trans (hb5.mono HB4.out.bel.size))
            clear hb5 hx3
            go_wp2_with fail
            refine (haw _).mono ?_
            rintro e w6 ⟨rfl, hb6⟩
            go_wp2_with fail
            go_ret
            exact ⟨rfl, B5.out.trans (hb6.mono B5.out.size)⟩
          | some xb =>
            have lb := HXB.out xb HEB.out
            have e2 := expand_some HEB.out (by omega)
            rw [HRB.out] at e2
            cases e2
            rw [expand_some (by rw [HAB.out _ HEA.out, HEB.out]; rfl) (by simp; omega)] at hx3
            have hcat3 : mk ra ++ (⟨#[32]⟩ : ByteArray) = mk (ra ++ [32]) := mk_append ra [32]
            have hcat4 : mk (ra ++ [32]) ++ mk rb = mk (ra ++ 32   :: rb) := by rw [mk_append, List.append_assoc]; rfl
            have hzx := mk_size ra
            have hzy := mk_size rb
            have hzd : (mk (ra ++ [32])).size = ra.length + 1 := by rw [mk_size, List.length_append]; rfl
            have lra : ra.length ≤ 5000 := la
            have lrb : rb.length ≤ 5000 := lb
            have ezz : ((mk (ra ++ 32   :: rb)).toList == (mk (ra ++ 32   :: rb)).toList) = true := by simp
            go_wp2_with fail
            with_reducible refine hx3.mono ?_
            rintro e w5 ⟨rfl, hb5⟩
            have B5 := Lib.hid (HB4.out.bel.trans (hb5.mono HB4.out.bel.size))
            clear hb5 hx3
            go_wp2_with fail
            refine (haw _).mono ?_
            rintro e w6 ⟨rfl, hb6⟩
            go_wp2_with fail
            go_ret
            exact ⟨rfl, B5.out.trans (hb6.mono B5.out.size)⟩
end Go.Proofs.Ytbohnjiachnadaa.Sc
