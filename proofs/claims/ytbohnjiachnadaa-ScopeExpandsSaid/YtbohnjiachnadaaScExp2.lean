/-
  WHAT A DOLLAR IS EXPANDED TO; A TEXT, EXPANDED WHOLE.
-/
import Derived.Test.YtbohnjiachnadaaScExp
namespace Go.Proofs.Ytbohnjiachnadaa.Sc
open Go.RowKit Go.Maps

theorem below_drewN {B : Nat} {a w : World} (h : Below B a w) (n : Nat) : Below B a (w.drewN n) := ⟨h.os, h.tape, h.output, h.size, h.block⟩

theorem ofB_not (r : Bs) {b : UInt8} (x y : Bs) (h : r = x ++ b :: y) : b ∈ r := by rw [h]; simp

set_option maxRecDepth 100000 in
set_option maxHeartbeats 4000000 in
theorem meaning_c {w : World} {o : Option Nat} {fs : List (Bs → Option Bs)} (h : Chain w o fs) (r : Bs) (hr : r.length ≤ 900000) :
    Calls Try.prog 36 #[ptr o, .string (mk r)] w fun e w' => e = .returned (.tuple #[.string (mk (mean (getL fs) r).1), .int .i64 (mean (getL fs) r).2]) ∧ Below w.heap.size w w' := by
  have HH := Lib.hid h
  obtain ⟨M, hM⟩ : ∃ M, mean (getL fs) r = M := ⟨_, rfl⟩
  have HM := Lib.hid hM
  rw [hM]
  clear hM h
  cases r with
  | nil =>
    have e1 : M = ([], 0) := HM.out.symm
    subst e1
    have e0 : (mk []).toList.isEmpty = true := by rw [mk_toList]; rfl
    go_enter Try.func36, Try.ntmps36
    go_wp2
    go_ret2
    exact ⟨rfl, Below.refl _ _⟩
  | cons c t =>
    have e0 : (mk (c :: t)).toList.isEmpty = false := by rw [mk_toList]; rfl
    have hz := mk_size (c :: t)
    rw [List.length_cons] at hz hr
    have hpos : 0 < (mk (c :: t)).size := by omega
    have hc0 : (mk (c :: t))[0] = c := by
      have := get_mk (c :: t) hpos
      exact (Option.some.inj this).symm
    have hpi : (0 : Int) < ((mk (c :: t)).size : Int) := by omega
    have ho := isOf_c [36, 32, 58, 124] c w
    rw [ofB_esc] at ho
    have hcN : ((mk (c :: t))[0].toNat : Int) = (c.toNat : Int) := by rw [hc0]
    have h1 : (mk (c :: t)).extract 0 1 = mk [c] := by rw [mk_extract]; simp
    have h2 : (mk (c :: t)).extract 1 (t.length + 1) = mk t := by
      rw [mk_extract]
      congr 1
      simp
    have hsz1 : (1 : Int) ≤ ((mk (c :: t)).size : Int) := by omega
    by_cases he : escB c = true
    · have e1 : M = ([c], 1) := by rw [← HM.out]; unfold mean; simp only; rw [if_pos he]
      subst e1
      rw [he] at ho
      clear hc0 he hz
      go_enter Try.func36, Try.ntmps36
      go_wp2_with (refine ho.mono ?_; rintro e w1 ⟨rfl, rfl⟩)
      go_ret2
      exact ⟨rfl, Below.refl _ _⟩
    · have he' : escB c = false := by simpa using he
      rw [he'] at ho
      by_cases h123 : c = 123
      · have e123 : ((c.toNat : Int) == 123) = true := by rw [h123]; rfl
        have hcut := cut_c t 125 w (by omega)
        have HM2 := Lib.hid (show M = if (125 ∈ t) ∧ nameB (cutAt 125 t) = true then (getL fs (cutAt 125 t), 2 + (cutAt 125 t).length) else ([], 0) by
          rw [← HM.out]; unfold mean; simp only; rw [if_neg he, if_pos h123])
        clear hc0 he he' h123
        go_enter Try.func36, Try.ntmps36
        go_wp2_with fail
        refine ho.mono ?_
        rintro e w1 ⟨rfl, rfl⟩
        go_wp2_with fail
        refine hcut.mono ?_
        rintro e w1 ⟨⟨nn, rfl⟩, ⟨hno, rfl⟩ | ⟨x, y, hxy, hx, hcx, rfl⟩⟩
        · have e1 : M = ([], 0) := by rw [HM2.out, if_neg (fun h => hno h.1)]
          subst e1
          clear hno
          go_wp2_with fail
          go_ret2
          exact ⟨rfl, (below_drewN (Below.refl _ _) nn)⟩
        · have hmem := ofB_not t x y hxy
          have HMM := Lib.hid hmem
          have hxl : x.length ≤ 900000 := by have := congrArg List.length hxy; simp at this; omega
          have hnm := name_c x (by omega) (w.drewN nn)
          have HCX := Lib.hid hcx
          have hzx := mk_size x
          clear hxy hx hcx hmem
          cases hnx : nameB x with
          | false =>
            have e1 : M = ([], 0) := by rw [HM2.out, if_neg (fun h => by rw [HCX.out, hnx] at h; cases h.2)]
            subst e1
            rw [hnx] at hnm
            clear hnx
            go_wp2_with fail
            refine hnm.mono ?_
            rintro e w1 ⟨rfl, rfl⟩
            go_wp2_with fail
            go_ret2
            exact ⟨rfl, (below_drewN (Below.refl _ _) nn)⟩
          | true =>
            have e1 : M = (getL fs x, 2 + x.length) := by rw [HM2.out, if_pos ⟨HMM.out, by rw [HCX.out, hnx]⟩, HCX.out]
            subst e1
            rw [hnx] at hnm
            have hget := get_c (HH.out.keep (below_drewN (Below.refl w.heap.size w) nn)) x (by omega)
            clear hnx
            go_wp2_with fail
            refine hnm.mono ?_
            rintro e w1 ⟨rfl, rfl⟩
            go_wp2_with fail
            refine hget.mono ?_
            rintro e w1 ⟨rfl, hb1⟩
            go_wp2_with fail
            go_ret2
            refine ⟨?_, (below_drewN (Below.refl _ _) nn).trans hb1⟩
            show Ending.returned (.tuple #[.string (mk (getL fs x)), .int .i64 (2 + (x.length : Int))]) = .returned (.tuple #[.string (mk (getL fs x)), .int .i64 ((2 + x.length : Nat) : Int)])
            rw [show ((2 + x.length : Nat) : Int) = 2 + (x.length : Int) by omega]
      · have e123 : ((c.toNat : Int) == 123) = false := by exact beq_eq_false_iff_ne.2 fun e => h123 (UInt8.toNat_inj.1 (by show c.toNat = 123; omega))
        have hn := shortLen_c (c :: t) (by simp; omega) w
        have HM2 := Lib.hid (show M = (getL fs ((c :: t).takeWhile shortB), ((c :: t).takeWhile shortB).length) by
          rw [← HM.out]; unfold mean; simp only; rw [if_neg he, if_neg h123])
        have hle := headN_le shortB (c :: t)
        have htk : (mk (c :: t)).extract 0 (headN shortB (c :: t)) = mk ((c :: t).takeWhile shortB) := by
          rw [mk_extract, List.drop_zero, Nat.sub_zero]
          congr 1
          exact (List.prefix_iff_eq_take.1 (List.takeWhile_prefix shortB)).symm
        have hN : headN shortB (c :: t) = ((c :: t).takeWhile shortB).length := rfl
        have hget := get_c HH.out ((c :: t).takeWhile shortB) (by rw [← hN]; simp at hle; omega)
        generalize (c :: t).takeWhile shortB = x at *
        generalize headN shortB (c :: t) = n at *
        have hlei : (n : Int) ≤ ((mk (c :: t)).size : Int) := by simp at hle; omega
        have HN := Lib.hid hN
        have e1 := HM2.out
        subst e1
        clear hc0 he he' h123 hN
        go_enter Try.func36, Try.ntmps36
        go_wp2_with fail
        refine ho.mono ?_
        rintro e w1 ⟨rfl, rfl⟩
        go_wp2_with fail
        refine hn.mono ?_
        rintro e w1 ⟨rfl, rfl⟩
        go_wp2_with fail
        refine hget.mono ?_
        rintro e w1 ⟨rfl, hb1⟩
        go_wp2_with fail
        go_ret2
        rw [← HN.out]
        exact ⟨rfl, hb1⟩

/-- the text that is left behind a cut -/
def remL (p r : Bs) (more : Bool) : Bs := if more = true then p ++ 36 :: r else p

theorem rem_more {g : Bs → Bs} {p r Z s : Bs} (hp : ∀ c ∈ p, c ≠ 36) (h : exp g s = (exp g (remL p r true)).map (Z ++ ·)) : exp g s = (exp g (36 :: r)).map ((Z ++ p) ++ ·) := by
  rw [h]
  show (exp g (p ++ 36 :: r)).map _ = _
  rw [exp_app g p _ hp]
  cases exp g (36 :: r) <;> simp

theorem rem_done {g : Bs → Bs} {p r Z s : Bs} (hp : ∀ c ∈ p, c ≠ 36) (h : exp g s = (exp g (remL p r false)).map (Z ++ ·)) : exp g s = some (Z ++ p) := by
  rw [h]
  have : exp g (remL p r false) = some p := by
    have := exp_app g p [] hp
    rw [List.append_nil] at this
    show exp g p = _
    rw [this, exp_nil]
    simp
  rw [this]
  rfl

theorem cut_u {r : Bs} {e : Ending} (h : Cut r 36 e) : ∃ p q m, e = .returned (.tuple #[.string (mk p), .string (mk q), .bool m]) ∧ (∀ c ∈ p, c ≠ 36) ∧ r = remL p q m ∧ p.length + q.length + (if m = true then 1 else 0) = r.length := by
  rcases h with ⟨hn, rfl⟩ | ⟨x, y, hxy, hx, _, rfl⟩
  · exact ⟨r, [], false, rfl, fun c hc e => hn (e ▸ hc), rfl, by simp⟩
  · exact ⟨x, y, true, rfl, fun c hc e => hx (e ▸ hc), hxy, by rw [hxy]; simp; omega⟩

theorem expand_none {g : Bs → Bs} {s : Bs} (h : exp g s = none) : expand g s = ([], 10) := by unfold expand; rw [h]
theorem expand_long {g : Bs → Bs} {s z : Bs} (h : exp g s = some z) (hz : 16384 < z.length) : expand g s = ([], 3) := by unfold expand; rw [h]; exact if_pos hz
theorem expand_some {g : Bs → Bs} {s z : Bs} (h : exp g s = some z) (hz : ¬ 16384 < z.length) : expand g s = (z, 0) := by unfold expand; rw [h]; exact if_neg hz

def moreN : Value → Nat
  | .bool true => 1
  | _ => 0
def strLen : Value → Nat
  | .string s => s.size
  | _ => 0

set_option maxRecDepth 100000 in
set_option maxHeartbeats 4000000 in
/-- a scope's Expand -/
theorem expand_c {w : World} {o : Option Nat} {fs : List (Bs → Option Bs)} (h : Chain w o fs) (hfs : ∀ l, (getL fs l).length ≤ 900000) (s : Bs) (hs : s.length ≤ 900000) :
    Calls Try.prog 18 #[ptr o, .string (mk s)] w fun e w' => e = .returned (.tuple #[.string (mk (expand (getL fs) s).1), .int .i64 (expand (getL fs) s).2]) ∧ Below w.heap.size w w' := by
  have hcut := fun W => cut_c s 36 W (by omega)
  have hA0 : Add w ((w.alloc (.cells #[.pointer none, .slice none 0 0] 57)).alloc (.cells #[.bool false] 4)) w.heap.size (w.heap.size + 1) [] [] false := by
    have hm := heap_alloc_new (w.alloc (.cells #[.pointer none, .slice none 0 0] 57)) (.cells #[.bool false] 4)
    have hbd : Bld w.heap.size w.heap.size [] ((w.alloc (.cells #[.pointer none, .slice none 0 0] 57)).alloc (.cells #[.bool false] 4)) := by
      rcases bld_new w with h | h
      · exact .inl (h.alloc _)
      · exact .inr (h.alloc _)
    refine ⟨hbd, by simpa using hm, by omega, by omega, (below_alloc _ _).alloc (by simp) _, .inl ⟨rfl, rfl, by simp⟩⟩
  have HA0 := Lib.hid hA0
  have HH := Lib.hid h
  have HFS := Lib.hid hfs
  obtain ⟨R, hR⟩ : ∃ R, expand (getL fs) s = R := ⟨_, rfl⟩
  have HR := Lib.hid hR
  rw [hR]
  clear hR h hA0 hfs
  go_enter Try.func18, Try.ntmps18
  go_wp2_with fail
  refine (hcut _).mono ?_
  rintro e w1 ⟨⟨nn, rfl⟩, hC⟩
  obtain ⟨p0, q0, m0, rfl, hp0, hs0, hl0⟩ := cut_u hC
  have HP0 := Lib.hid hp0
  have HS0 := Lib.hid (show exp (getL fs) s = (exp (getL fs) (remL p0 q0 m0)).map ([] ++ ·) by rw [hs0]; cases exp (getL fs) (remL p0 q0 m0) <;> rfl)
  have hpl0 : p0.length ≤ 900000 := by omega
  have hql0 : q0.length ≤ 900000 := by omega
  have HA1 := Lib.hid (HA0.out.keep (below_drewN (Below.refl _ _) nn))
  clear hC hp0 hs0 hl0 HA0 hcut
  go_wp2_with fail
  go_loopw [9, 10, 11, 12, 13] (fun pl rs mo _ _ W' => ∃ (p q : Bs) (m : Bool) (Z l : Bs) (g : Bool), pl = .string (mk p) ∧ rs = .string (mk q) ∧ mo = .bool m ∧ p.length ≤ 900000 ∧ q.length ≤ 900000 ∧ Hid (∀ c ∈ p, c ≠ 36) ∧ Hid (exp (getL fs) s = (exp (getL fs) (remL p q m)).map (Z ++ ·)) ∧ Hid (Add w W' w.heap.size (w.heap.size + 1) Z l g)) (fun _ rs mo _ _ _ => strLen rs + moreN mo)
  case atStart => exact ⟨p0, q0, m0, [], [], false, rfl, rfl, rfl, hpl0, hql0, HP0, HS0, HA1⟩
  case round =>
    clear HP0 HS0 HA1 hpl0 hql0
    obtain ⟨p, q, m, Z, l, g, rfl, rfl, rfl, hpl, hql, HP, HE, HA⟩ := hrel
    have hadd := add_c HA.out p hpl
    cases m with
    | false =>
      have HD := Lib.hid (rem_done HP.out HE.out)
      go_wp2_with fail
      refine hadd.mono ?_
      rintro e w2 ⟨⟨z, rfl⟩, l', g', A1⟩
      obtain ⟨cm, _⟩ := one_cell A1.mark
      have hstr := string_c A1.bld A1.bel.size
      have HA1 := Lib.hid A1
      clear A1 hadd
      cases g' with
      | true =>
        rcases HA1.out.is with ⟨h, _⟩ | ⟨_, hlong, _⟩
        · cases h
        have e1 := expand_long HD.out hlong
        rw [HR.out] at e1
        subst e1
        clear hlong
        go_wp2_with fail
        go_ret2
        exact ⟨rfl, HA1.out.bel⟩
      | false =>
        rcases HA1.out.is with ⟨_, hl, hshort⟩ | ⟨h, _⟩
        · have e1 := expand_some HD.out (by omega)
          rw [HR.out] at e1
          subst e1
          rw [hl] at hstr
          clear hl hshort
          go_wp2_with fail
          refine hstr.mono ?_
          rintro e w3 ⟨rfl, hb3⟩
          go_wp2_with fail
          go_ret2
          exact ⟨rfl, HA1.out.bel.trans hb3⟩
        · cases h
    | true =>
      have hM := rem_more HP.out HE.out
      go_wp2_with fail
      refine hadd.mono ?_
      rintro e w2 ⟨⟨z, rfl⟩, l1, g1, A1⟩
      have HA1 := Lib.hid A1
      have hmn := meaning_c (HH.out.keep A1.bel) q hql
      have hmle := mean_len (getL fs) q
      have hm1 : (mean (getL fs) q).1.length ≤ 900000 := by
        unfold mean
        cases q with
        | nil => simp
        | cons c t =>
          simp only
          split
          · simp
          · split
            · split
              · exact HFS.out _
              · simp
            · exact HFS.out _
      have hdol := exp_dollar (getL fs) q
      obtain ⟨⟨t, n⟩, hMN⟩ : ∃ M, mean (getL fs) q = M := ⟨_, rfl⟩
      rw [hMN] at hmn hmle hm1 hdol
      simp only at hmn hmle hm1 hdol
      clear A1 hadd hMN
      by_cases hn0 : n = 0
      · have e1 : expand (getL fs) s = ([], 10) := expand_none (by rw [hM, hdol, if_pos hn0]; rfl)
        rw [HR.out] at e1
        subst e1
        subst hn0
        clear hM hdol hmle
        go_wp2_with fail
        refine hmn.mono ?_
        rintro e w3 ⟨rfl, hb3⟩
        go_wp2_with fail
        go_ret2
        exact ⟨rfl, HA1.out.bel.trans (hb3.mono HA1.out.bel.size)⟩
      · rw [hdol, if_neg hn0] at hM
        have hnz : ((n : Int) == 0) = false := by simp; omega
        have HMM := Lib.hid hM
        have hzq := mk_size q
        have hnq : (n : Int) ≤ ((mk q).size : Int) := by omega
        have hsl : (mk q).extract n q.length = mk (q.drop n) := by
          rw [mk_extract, List.take_of_length_le (by rw [List.length_drop]; exact Nat.le_refl _)]
        have hcut2 := fun W => cut_c (q.drop n) 36 W (by rw [List.length_drop]; omega)
        have hnpos : 0 < n := by omega
        clear hM hdol hn0
        go_wp2_with fail
        with_reducible refine hmn.mono ?_
        rintro e w3 ⟨rfl, hb3⟩
        have hadd2 := add_c (HA1.out.keep hb3) t hm1
        clear hb3 hmn
        go_wp2_with fail
        with_reducible refine hadd2.mono ?_
        rintro e w4 ⟨⟨z4, rfl⟩, l2, g2, A2⟩
        go_wp2_with fail
        with_reducible refine (hcut2 _).mono ?_
        rintro e w5 ⟨⟨n5, rfl⟩, hC⟩
        obtain ⟨p2, q2, m2, rfl, hp2, hs2, hl2⟩ := cut_u hC
        have HP2 := Lib.hid hp2
        have HE2 := Lib.hid (show exp (getL fs) s = (exp (getL fs) (remL p2 q2 m2)).map ((Z ++ p ++ t) ++ ·) by
          rw [HMM.out, ← hs2]
          cases exp (getL fs) (q.drop n) <;> simp)
        have HA2 := Lib.hid (A2.keep (below_drewN (Below.refl _ _) n5))
        rw [List.length_drop] at hl2
        have HL2 := Lib.hid hl2
        have hpl2 : p2.length ≤ 900000 := by omega
        have hql2 : q2.length ≤ 900000 := by omega
        clear hC hp2 hs2 hl2 A2 hadd2 hcut2
        go_wp2_with fail
        go_roundw
        case rel => exact ⟨p2, q2, m2, _, l2, g2, rfl, rfl, rfl, hpl2, hql2, HP2, HE2, HA2⟩
        case measure =>
          have := HL2.out
          have z2 := mk_size q2
          have z3 := mk_size q
          cases m2 <;> simp [strLen, moreN] at this ⊢ <;> omega
end Go.Proofs.Ytbohnjiachnadaa.Sc
