/-
  THE DOCUMENT's OWN Expand.
-/
import Derived.Test.YtbohnjiachnadaaScGet
import Derived.Deep.DeepCutAuto
namespace Go.Proofs.Ytbohnjiachnadaa.Sc
open Go.RowKit Go.Maps

def RI (Z o : Bs) (lg : Bool) (j : Nat) : Prop := ((lg = false ∧ o = Z) ∨ (lg = true ∧ 16384 < Z.length)) ∧ o.length ≤ 16384 + j

theorem drop_cons {s : Bs} {j : Nat} {c : UInt8} (h : s[j]? = some c) : s.drop j = c :: s.drop (j + 1) := by
  obtain ⟨hj, e⟩ := List.getElem?_eq_some_iff.1 h
  rw [List.drop_eq_getElem_cons hj, e]

theorem plain_step {g : Bs → Bs} {s Z : Bs} {j : Nat} {c : UInt8} (h : s[j]? = some c) (hc : c ≠ 36) (hr : exp g s = (exp g (s.drop j)).map (Z ++ ·)) : exp g s = (exp g (s.drop (j + 1))).map ((Z ++ [c]) ++ ·) := by
  rw [hr, drop_cons h, exp_plain g _ hc]
  cases exp g (s.drop (j + 1)) <;> simp

theorem dollar_step {g : Bs → Bs} {s Z m : Bs} {j n q : Nat} (hq : j + 1 = q) (h : s[j]? = some 36) (hm : mean g (s.drop q) = (m, n)) (hn : n ≠ 0) (hr : exp g s = (exp g (s.drop j)).map (Z ++ ·)) : exp g s = (exp g (s.drop (q + n))).map ((Z ++ m) ++ ·) := by
  subst hq
  rw [hr, drop_cons h, exp_dollar, hm]
  simp only
  rw [if_neg hn, List.drop_drop]
  cases exp g (s.drop (j + 1 + n)) <;> simp

theorem dollar_bad {g : Bs → Bs} {s Z m : Bs} {j q : Nat} (hq : j + 1 = q) (h : s[j]? = some 36) (hm : mean g (s.drop q) = (m, 0)) (hr : exp g s = (exp g (s.drop j)).map (Z ++ ·)) : expand g s = ([], 10) := by
  subst hq
  refine expand_none ?_
  rw [hr, drop_cons h, exp_dollar, hm]
  rfl

theorem mean_esc (g : Bs → Bs) {c : UInt8} (t : Bs) (h : escB c = true) : mean g (c :: t) = ([c], 1) := by
  unfold mean; simp only; rw [if_pos h]
theorem mean_brace (g : Bs → Bs) {t x y : Bs} (ht : t = x ++ 125 :: y) (hx : (125 : UInt8) ∉ x) (hn : nameB x = true) : mean g (123 :: t) = (g x, 2 + x.length) := by
  have hc : cutAt 125 t = x := by
    rw [ht]
    unfold cutAt
    rw [List.takeWhile_append_of_pos]
    · simp
    · intro z hz; simp; rintro rfl; exact hx hz
  unfold mean; simp only; rw [if_neg (by decide), if_pos trivial, hc, if_pos ⟨by rw [ht]; simp, hn⟩]
theorem mean_brace_no (g : Bs → Bs) {t : Bs} (h : (125 : UInt8) ∉ t) : mean g (123 :: t) = ([], 0) := by
  unfold mean; simp only; rw [if_neg (by decide), if_pos trivial, if_neg (fun e => h e.1)]
theorem mean_brace_bad (g : Bs → Bs) {t x y : Bs} (ht : t = x ++ 125 :: y) (hx : (125 : UInt8) ∉ x) (hn : nameB x = false) : mean g (123 :: t) = ([], 0) := by
  have hc : cutAt 125 t = x := by
    rw [ht]
    unfold cutAt
    rw [List.takeWhile_append_of_pos]
    · simp
    · intro z hz; simp; rintro rfl; exact hx hz
  unfold mean; simp only; rw [if_neg (by decide), if_pos trivial, hc, if_neg (fun e => by rw [hn] at e; cases e.2)]
theorem mean_name (g : Bs → Bs) {c : UInt8} (t : Bs) (h : escB c = false) (h2 : c ≠ 123) : mean g (c :: t) = (g ((c :: t).takeWhile shortB), headN shortB (c :: t)) := by
  unfold mean; simp only; rw [if_neg (by rw [h]; decide), if_neg h2]; rfl

theorem ri_plain {Z o : Bs} {lg : Bool} {j : Nat} (c : UInt8) (h : RI Z o lg j) : RI (Z ++ [c]) (o ++ [c]) lg (j + 1) := by
  obtain ⟨h1, h2⟩ := h
  refine ⟨?_, by rw [List.length_append]; simp; omega⟩
  rcases h1 with ⟨a, b⟩ | ⟨a, b⟩
  · exact .inl ⟨a, by rw [b]⟩
  · exact .inr ⟨a, by rw [List.length_append]; omega⟩
theorem ri_long {Z o m : Bs} {lg : Bool} {j j' : Nat} (h : RI Z o lg j) (hj : j ≤ j') (hl : lg = true ∨ 16384 < o.length + m.length) : RI (Z ++ m) o true j' := by
  obtain ⟨h1, h2⟩ := h
  refine ⟨.inr ⟨rfl, ?_⟩, by omega⟩
  rw [List.length_append]
  rcases h1 with ⟨a, b⟩ | ⟨a, b⟩
  · rcases hl with h | h
    · rw [a] at h; cases h
    · rw [← b]; exact h
  · omega
theorem ri_add {Z o m : Bs} {j j' : Nat} (h : RI Z o false j) (hs : ¬ 16384 < o.length + m.length) : RI (Z ++ m) (o ++ m) false j' := by
  obtain ⟨h1, h2⟩ := h
  refine ⟨.inl ⟨rfl, ?_⟩, by rw [List.length_append]; omega⟩
  rcases h1 with ⟨a, b⟩ | ⟨a, b⟩
  · rw [b]
  · cases a

theorem ex_slice (s : Bs) (a b : Nat) : (mk s).extract a b = mk ((s.drop a).take (b - a)) := mk_extract s a b

theorem brace_split {s : Bs} {q r k : Nat} (hr : q + 1 = r) (hjk : r ≤ k) (hk : s[k]? = some 125) (hno : ∀ i, q ≤ i → i < k → s[i]? ≠ some 125) :
    s.drop r = (s.drop r).take (k - r) ++ 125 :: s.drop (k + 1) ∧ (125 : UInt8) ∉ (s.drop r).take (k - r) ∧ ((s.drop r).take (k - r)).length = k - r := by
  have hkl := (List.getElem?_eq_some_iff.1 hk).1
  refine ⟨?_, ?_, by rw [List.length_take, List.length_drop]; omega⟩
  · have h1 := (List.take_append_drop (k - r) (s.drop r)).symm
    rw [List.drop_drop, show r + (k - r) = k by omega, drop_cons hk] at h1
    exact h1
  · intro hm
    obtain ⟨i, hi, e⟩ := List.mem_iff_getElem.1 hm
    rw [List.length_take, List.length_drop] at hi
    rw [List.getElem_take, List.getElem_drop] at e
    exact hno (r + i) (by omega) (by omega) (by rw [List.getElem?_eq_getElem (by omega), e])

theorem brace_none {s : Bs} {q r : Nat} (hr : q + 1 = r) (hno : ∀ i, q ≤ i → i < s.length → s[i]? ≠ some 125) : (125 : UInt8) ∉ s.drop r := by
  intro hm
  obtain ⟨i, hi, e⟩ := List.mem_iff_getElem.1 hm
  rw [List.length_drop] at hi
  rw [List.getElem_drop] at e
  exact hno (r + i) (by omega) (by omega) (by rw [List.getElem?_eq_getElem (by omega), e])

theorem headN_take {p : UInt8 → Bool} {s : Bs} {n : Nat} (h : headN p s = n) : s.take n = s.takeWhile p := by
  subst h
  exact (List.prefix_iff_eq_take.1 (List.takeWhile_prefix p)).symm

set_option maxRecDepth 100000 in
set_option maxHeartbeats 8000000 in
theorem refExpand_c {w : World} {v : Value} {Ks : List (List Bs × List Bs)} (h : RefAt w v Ks) (hK : Ks.length ≤ 1000) (hg : ∀ l, (getR Ks l).length ≤ 900000) (s : Bs) (hs : s.length ≤ 100000) :
    Calls Try.prog 19 #[v, .string (mk s)] w fun e w' => e = .returned (.tuple #[.string (mk (expand (getR Ks) s).1), .int .i64 (expand (getR Ks) s).2]) ∧ w = w' := by
  have hget := fun l => refGet_c h hK l
  obtain ⟨R, hR⟩ : ∃ R, expand (getR Ks) s = R := ⟨_, rfl⟩
  have HR := Lib.hid hR
  rw [hR]
  have HG := Lib.hid hg
  have hz := mk_size s
  generalize getR Ks = g at *
  clear hR hg h hK
  go_enter Try.func19, Try.ntmps19
  go_wp2
  go_loopw [6, 7, 8, 9, 10, 11, 12] (fun o lg at' _ _ _ _ W' => ∃ (j : Nat) (O Z : Bs) (b : Bool), o = .string (mk O) ∧ lg = .bool b ∧ at' = .int .i64 j ∧ j ≤ s.length ∧ Hid (exp g s = (exp g (s.drop j)).map (Z ++ ·)) ∧ Hid (RI Z O b j) ∧ O.length ≤ 200000 ∧ w = W') (fun _ _ at' _ _ _ _ _ => s.length - (intOf at').toNat)
  case atStart => exact ⟨0, [], [], false, rfl, rfl, rfl, Nat.zero_le _, Lib.hid (by rw [List.drop_zero]; cases exp g s <;> rfl), Lib.hid ⟨.inl ⟨rfl, rfl⟩, by simp⟩, by simp, rfl⟩
  case round =>
    obtain ⟨j, O, Z, b, rfl, rfl, rfl, hj, HE, HI, hO, rfl⟩ := hrel
    have hzO := mk_size O
    by_cases hlt : j < s.length
    · have hji : (j : Int) < (s.length : Int) := by omega
      have hjs : j < (mk s).size := by rw [hz]; exact hlt
      have hb := get_mk s hjs
      obtain ⟨c, hc⟩ : ∃ c, (mk s)[j] = c := ⟨_, rfl⟩
      have hcN : ((mk s)[j].toNat : Int) = (c.toNat : Int) := by rw [hc]
      rw [hc] at hb
      by_cases h36 : c = 36
      · have e36 : ((c.toNat : Int) != 36) = false := by rw [h36]; rfl
        have HB := Lib.hid (h36 ▸ hb)
        clear hc hb h36
        obtain ⟨q, hq⟩ : ∃ q, j + 1 = q := ⟨_, rfl⟩
        obtain ⟨r, hr⟩ : ∃ r, q + 1 = r := ⟨_, rfl⟩
        have HQ := Lib.hid hq
        have HQR := Lib.hid hr
        have hqi : (j : Int) + 1 = (q : Int) := by omega
        have hri : (q : Int) + 1 = (r : Int) := by omega
        have hq1 : j < q := by omega
        have hq2 : q ≤ s.length := by omega
        have hr1 : q < r := by omega
        have hr2 : r ≤ q + 1 := by omega
        clear hq hr
        by_cases hl1 : q = s.length
        · have e1 : expand g s = ([], 10) := dollar_bad HQ.out HB.out (by rw [List.drop_eq_nil_of_le (by omega)]; rfl) HE.out
          rw [HR.out] at e1
          subst e1
          have hel : ((q : Int) == (s.length : Int)) = true := by simp; omega
          clear hl1
          go_wp2
          go_ret2
          exact ⟨rfl, rfl⟩
        have hel : ((q : Int) == (s.length : Int)) = false := by simp; omega
        have hqs : q < (mk s).size := by rw [hz]; omega
        have hj1i : (q : Int) < (s.length : Int) := by omega
        have hrl : r ≤ s.length := by omega
        have hb1 := get_mk s hqs
        obtain ⟨d, hd⟩ : ∃ d, (mk s)[q] = d := ⟨_, rfl⟩
        have hdN : ((mk s)[q].toNat : Int) = (d.toNat : Int) := by rw [hd]
        rw [hd] at hb1
        have HB1 := Lib.hid hb1
        have hdr := drop_cons hb1
        rw [HQR.out] at hdr
        obtain ⟨b1, b2, b3, b4, e1, e2, e3, e4, he⟩ := escB_eqs d
        have HDR := Lib.hid hdr
        have HESC := Lib.hid he
        clear hd hb1 hl1 hdr he
        by_cases hesc : escB d = true
        · have hmn := mean_esc g (s.drop r) hesc
          rw [← HDR.out] at hmn
          have hst := dollar_step HQ.out HB.out hmn (by omega) HE.out
          rw [HQR.out] at hst
          have HN := Lib.hid hst
          have hex : (mk s).extract q r = mk [d] := by rw [← HQR.out]; exact one_of s HB1.out
          obtain ⟨M, hM⟩ : ∃ M : Bs, [d] = M := ⟨_, rfl⟩
          have hgl : M.length ≤ 900000 := by rw [← hM]; simp
          rw [hM] at HN hex
          have hzM := mk_size M
          have hsl1 : (q : Int) ≤ (r : Int) := by omega
          have hsl2 : (r : Int) ≤ (s.length : Int) := by omega
          have h4 : (b1 || b2 || b3 || b4) = true := by rw [← HESC.out]; exact hesc
          have h5 : (b1 = true) ∨ (b1 = false ∧ b2 = true) ∨ (b1 = false ∧ b2 = false ∧ b3 = true) ∨ (b1 = false ∧ b2 = false ∧ b3 = false ∧ b4 = true) := by
            revert h4; cases b1 <;> cases b2 <;> cases b3 <;> cases b4 <;> simp
          clear hmn hesc h4 hst hM
          go_upto_region 14 with fail
          go_cut [39] (fun s39 wx => s39 = Value.bool true ∧ w = wx)
          case first =>
            rcases h5 with rfl | ⟨rfl, rfl⟩ | ⟨rfl, rfl, rfl⟩ | ⟨rfl, rfl, rfl, rfl⟩
            all_goals (go_wp2_with fail; go_meet; exact ⟨rfl, rfl⟩)
          case rest =>
            obtain ⟨rfl, rfl⟩ := hcut
            clear e1 e2 e3 e4 h5 HESC
            by_cases hbig : 16384 < O.length + (M).length
            · have hbd : decide ((16384 : Int) < (O.length : Int) + ((M).length : Int)) = true := decide_eq_true (by omega)
              have HI2 := Lib.hid (ri_long (m := M) (j' := r) HI.out (by omega) (.inr hbig))
              clear hbig
              go_wp2_with fail
              go_roundw
              case rel => exact ⟨r, O, _, true, rfl, rfl, rfl, by omega, HN, HI2, hO, trivial⟩
              case measure => simp [intOf]; omega
            · have hbd : decide ((16384 : Int) < (O.length : Int) + ((M).length : Int)) = false := decide_eq_false (by omega)
              have hcatM : mk O ++ mk (M) = mk (O ++ M) := mk_append O _
              have hO2 : (O ++ M).length ≤ 200000 := by rw [List.length_append]; omega
              cases b with
              | true =>
                have HI2 := Lib.hid (ri_long (m := M) (j' := r) HI.out (by omega) (.inl rfl))
                clear hbig
                go_wp2_with fail
                go_roundw
                case rel => exact ⟨r, O, _, true, rfl, rfl, rfl, by omega, HN, HI2, hO, trivial⟩
                case measure => simp [intOf]; omega
              | false =>
                have HI2 := Lib.hid (ri_add (m := M) (j' := r) HI.out hbig)
                clear hbig
                go_wp2_with fail
                go_roundw
                case rel => exact ⟨r, O ++ M, _, false, rfl, rfl, rfl, by omega, HN, HI2, hO2, trivial⟩
                case measure => simp [intOf]; omega
        have hesc' : escB d = false := by simpa using hesc
        have f1 : b1 = false ∧ b2 = false ∧ b3 = false ∧ b4 = false := by
          have := HESC.out; rw [hesc'] at this
          revert this; cases b1 <;> cases b2 <;> cases b3 <;> cases b4 <;> simp
        obtain ⟨rfl, rfl, rfl, rfl⟩ := f1
        by_cases h123 : d = 123
        · subst h123
          have HES := HB1.out
          clear HESC
          go_wp2_with fail
          go_loopw [11] (fun e W' => ∃ k : Nat, e = .int .i64 k ∧ q ≤ k ∧ k ≤ s.length ∧ Hid (∀ i, q ≤ i → i < k → s[i]? ≠ some 125) ∧ w = W') (fun e _ => s.length - (intOf e).toNat)
          case atStart => exact ⟨q, rfl, Nat.le_refl _, by omega, Lib.hid (fun i h1 h2 => by omega), rfl⟩
          case round =>
            obtain ⟨k, rfl, hk1, hk2, HK, rfl⟩ := hrel
            by_cases hkl : k < s.length
            · have hki : (k : Int) < (s.length : Int) := by omega
              have hks : k < (mk s).size := by rw [hz]; exact hkl
              have hbk := get_mk s hks
              obtain ⟨y, hy⟩ : ∃ y, (mk s)[k] = y := ⟨_, rfl⟩
              have hyN : ((mk s)[k].toNat : Int) = (y.toNat : Int) := by rw [hy]
              rw [hy] at hbk
              by_cases h125 : y = 125
              · have e125 : ((y.toNat : Int) != 125) = false := by rw [h125]; rfl
                have hbk2 : s[k]? = some 125 := h125 ▸ hbk
                have hkj : r ≤ k := by
                  rcases Nat.lt_or_ge k r with h | h
                  · obtain rfl : k = q := by omega
                    rw [HES] at hbk2
                    cases hbk2
                  · exact h
                obtain ⟨hx1, hx2, hx3⟩ := brace_split HQR.out hkj hbk2 HK.out
                have hexx : (mk s).extract r k = mk ((s.drop r).take (k - r)) := ex_slice s r k
                have hdrx : s.drop q = 123 :: s.drop r := HDR.out
                obtain ⟨x, hx⟩ : ∃ x, (s.drop r).take (k - r) = x := ⟨_, rfl⟩
                rw [hx] at hx1 hx2 hx3 hexx
                have hnm := fun W => refName_c x (by omega) W
                have hgx := hget x
                have hke : ((k : Int) == (s.length : Int)) = false := by simp; omega
                have hsl1 : (r : Int) ≤ (k : Int) := by omega
                have hsl2 : (k : Int) ≤ (s.length : Int) := by omega
                cases hnx : nameB x with
                | false =>
                  have e1 := dollar_bad HQ.out HB.out (by rw [hdrx]; exact mean_brace_bad g hx1 hx2 hnx) HE.out
                  rw [HR.out] at e1
                  subst e1
                  simp only [hnx] at hnm
                  clear hy hbk h125 hbk2 hx hx1 hx2 hx3 hdrx hnx HES
                  go_wp2_with fail
                  with_reducible refine (hnm _).mono ?_
                  rintro e w1 ⟨rfl, rfl⟩
                  go_wp2_with fail
                  go_ret2
                  exact ⟨rfl, rfl⟩
                | true =>
                  have hmn : mean g (s.drop q) = (g x, 2 + x.length) := by rw [hdrx]; exact mean_brace g hx1 hx2 hnx
                  have hst := dollar_step HQ.out HB.out hmn (by omega) HE.out
                  rw [show q + (2 + x.length) = k + 1 by omega] at hst
                  have HN := Lib.hid hst
                  simp only [hnx] at hnm
                  have hgl := HG.out x
                  obtain ⟨M, hM⟩ : ∃ M, g x = M := ⟨_, rfl⟩
                  rw [hM] at hgx HN hgl
                  have hzM := mk_size M
                  clear hy hbk h125 hbk2 hx hx1 hx2 hx3 hdrx hnx HES hst hM hmn
                  by_cases hbig : 16384 < O.length + (M).length
                  · have hbd : decide ((16384 : Int) < (O.length : Int) + ((M).length : Int)) = true := decide_eq_true (by omega)
                    have HI2 := Lib.hid (ri_long (m := M) (j' := k + 1) HI.out (by omega) (.inr hbig))
                    clear hbig
                    go_wp2_with fail
                    with_reducible refine (hnm _).mono ?_
                    rintro e w1 ⟨rfl, rfl⟩
                    go_wp2_with fail
                    with_reducible refine hgx.mono ?_
                    rintro e w1 ⟨rfl, rfl⟩
                    go_wp2_with fail
                    go_roundw
                    case rel => exact ⟨k + 1, O, _, true, rfl, rfl, by go_num, by omega, HN, HI2, hO, trivial⟩
                    case measure => simp [intOf]; omega
                  · have hbd : decide ((16384 : Int) < (O.length : Int) + ((M).length : Int)) = false := decide_eq_false (by omega)
                    have hcatM : mk O ++ mk (M) = mk (O ++ M) := mk_append O _
                    have hO2 : (O ++ M).length ≤ 200000 := by rw [List.length_append]; omega
                    cases b with
                    | true =>
                      have HI2 := Lib.hid (ri_long (m := M) (j' := k + 1) HI.out (by omega) (.inl rfl))
                      clear hbig
                      go_wp2_with fail
                      with_reducible refine (hnm _).mono ?_
                      rintro e w1 ⟨rfl, rfl⟩
                      go_wp2_with fail
                      with_reducible refine hgx.mono ?_
                      rintro e w1 ⟨rfl, rfl⟩
                      go_wp2_with fail
                      go_roundw
                      case rel => exact ⟨k + 1, O, _, true, rfl, rfl, by go_num, by omega, HN, HI2, hO, trivial⟩
                      case measure => simp [intOf]; omega
                    | false =>
                      have HI2 := Lib.hid (ri_add (m := M) (j' := k + 1) HI.out hbig)
                      clear hbig
                      go_wp2_with fail
                      with_reducible refine (hnm _).mono ?_
                      rintro e w1 ⟨rfl, rfl⟩
                      go_wp2_with fail
                      with_reducible refine hgx.mono ?_
                      rintro e w1 ⟨rfl, rfl⟩
                      go_wp2_with fail
                      go_roundw
                      case rel => exact ⟨k + 1, O ++ M, _, false, rfl, rfl, by go_num, by omega, HN, HI2, hO2, trivial⟩
                      case measure => simp [intOf]; omega
              · have e125 : ((y.toNat : Int) != 125) = true := by
                  rw [bne, beq_eq_false_iff_ne.2 fun e => h125 (UInt8.toNat_inj.1 (by show y.toNat = 125; omega))]; rfl
                have HK2 := Lib.hid (show ∀ i, q ≤ i → i < k + 1 → s[i]? ≠ some 125 from fun i h1 h2 e => by
                  rcases Nat.lt_or_ge i k with h | h
                  · exact HK.out i h1 h e
                  · obtain rfl : i = k := by omega
                    rw [hbk] at e
                    exact h125 (Option.some.inj e))
                clear hy hbk h125 HES
                go_wp2
                go_roundw
                case rel => exact ⟨k + 1, by go_num, by omega, by omega, HK2, trivial⟩
                case measure => simp [intOf]; omega
            · have hki : ¬ (k : Int) < (s.length : Int) := by omega
              have hke : ((k : Int) == (s.length : Int)) = true := by simp; omega
              have hdrx : s.drop q = 123 :: s.drop r := HDR.out
              have e1 := dollar_bad HQ.out HB.out (by rw [hdrx]; exact mean_brace_no g (brace_none HQR.out fun i h1 h2 => HK.out i h1 (by omega))) HE.out
              rw [HR.out] at e1
              subst e1
              clear hdrx HES
              go_wp2_with fail
              go_ret2
              exact ⟨rfl, rfl⟩
        have e123 : ((d.toNat : Int) == 123) = false := beq_eq_false_iff_ne.2 fun e => h123 (UInt8.toNat_inj.1 (by show d.toNat = 123; omega))
        have hsd := fun W => short_c d W
        have hmn := mean_name g (s.drop r) hesc' h123
        rw [← HDR.out] at hmn
        clear hesc hesc' h123 HESC
        cases hsh : shortB d with
        | false =>
          have hh0 : headN shortB (s.drop q) = 0 := by rw [HDR.out]; unfold headN; rw [List.takeWhile_cons, if_neg (by rw [hsh]; decide)]; rfl
          have e1 := dollar_bad HQ.out HB.out (hmn.trans (by rw [hh0])) HE.out
          rw [HR.out] at e1
          subst e1
          simp only [hsh] at hsd
          clear hmn hsh hh0
          go_wp2_with fail
          with_reducible refine (hsd _).mono ?_
          rintro e w1 ⟨rfl, rfl⟩
          go_wp2_with fail
          go_ret2
          exact ⟨rfl, rfl⟩
        | true =>
          simp only [hsh] at hsd
          have HMN := Lib.hid hmn
          have HSH := Lib.hid hsh
          clear hmn hsh
          go_wp2_with fail
          with_reducible refine (hsd _).mono ?_
          rintro e w1 ⟨rfl, rfl⟩
          go_wp2_with fail
          go_loopw [12] (fun e W' => ∃ k : Nat, e = .int .i64 k ∧ q ≤ k ∧ k ≤ s.length ∧ Hid (((s.drop q).take (k - q)).all shortB = true) ∧ w = W') (fun e _ => s.length - (intOf e).toNat)
          case atStart => exact ⟨q, rfl, Nat.le_refl _, by omega, Lib.hid (by rw [Nat.sub_self]; rfl), rfl⟩
          case round =>
            obtain ⟨k, rfl, hk1, hk2, HK, rfl⟩ := hrel
            have hfin : headN shortB (s.drop q) = k - q → q < k → exp g s = (exp g (s.drop k)).map ((Z ++ g ((s.drop q).take (k - q))) ++ ·) := fun hh hlt2 => by
              have h1 := HMN.out
              rw [← headN_take hh, hh] at h1
              have h2 := dollar_step HQ.out HB.out h1 (by omega) HE.out
              rw [show q + (k - q) = k by omega] at h2
              exact h2
            have hgt : headN shortB (s.drop q) = k - q → q < k := fun hh => by
              have : 1 ≤ headN shortB (s.drop q) := by
                rw [HDR.out]; unfold headN; rw [List.takeWhile_cons, if_pos (by rw [HSH.out])]; simp
              omega
            have hexx : (mk s).extract q k = mk ((s.drop q).take (k - q)) := ex_slice s q k
            by_cases hkl : k < s.length
            · have hki : (k : Int) < (s.length : Int) := by omega
              have hks : k < (mk s).size := by rw [hz]; exact hkl
              have hbk := get_mk s hks
              obtain ⟨y, hy⟩ : ∃ y, (mk s)[k] = y := ⟨_, rfl⟩
              have hyN : ((mk s)[k].toNat : Int) = (y.toNat : Int) := by rw [hy]
              rw [hy] at hbk
              have hby : (s.drop q)[k - q]? = some y := by rw [List.getElem?_drop, show q + (k - q) = k by omega]; exact hbk
              have hsy := fun W => short_c y W
              cases hshy : shortB y with
              | true =>
                have hal := all_snoc HK.out hby hshy
                rw [show k - q + 1 = k + 1 - q by omega] at hal
                have HK2 := Lib.hid hal
                simp only [hshy] at hsy
                clear hy hbk hby hshy hal hfin hgt hexx
                go_wp2_with fail
                with_reducible refine (hsy _).mono ?_
                rintro e w1 ⟨rfl, rfl⟩
                go_wp2_with fail
                go_roundw
                case rel => exact ⟨k + 1, by go_num, by omega, by omega, HK2, trivial⟩
                case measure => simp [intOf]; omega
              | false =>
                have hh := headN_stop HK.out hby hshy
                have hst := hfin hh (hgt hh)
                simp only [hshy] at hsy
                have hkg := hgt hh
                obtain ⟨x, hx⟩ : ∃ x, (s.drop q).take (k - q) = x := ⟨_, rfl⟩
                have hxl : x.length ≤ 100000 := by rw [← hx, List.length_take, List.length_drop]; omega
                rw [hx] at hst hexx
                have HN := Lib.hid hst
                have hgx := hget x
                have hgl := HG.out x
                obtain ⟨M, hM⟩ : ∃ M, g x = M := ⟨_, rfl⟩
                rw [hM] at hgx HN hgl
                have hzM := mk_size M
                have hsl1 : (q : Int) ≤ (k : Int) := by omega
                have hsl2 : (k : Int) ≤ (s.length : Int) := by omega
                clear hy hbk hby hshy hfin hgt hh hst hx hM
                by_cases hbig : 16384 < O.length + (M).length
                · have hbd : decide ((16384 : Int) < (O.length : Int) + ((M).length : Int)) = true := decide_eq_true (by omega)
                  have HI2 := Lib.hid (ri_long (m := M) (j' := k) HI.out (by omega) (.inr hbig))
                  clear hbig
                  go_wp2_with fail
                  with_reducible refine (hsy _).mono ?_
                  rintro e w1 ⟨rfl, rfl⟩
                  go_wp2_with fail
                  with_reducible refine hgx.mono ?_
                  rintro e w1 ⟨rfl, rfl⟩
                  go_wp2_with fail
                  go_roundw
                  case rel => exact ⟨k, O, _, true, rfl, rfl, rfl, by omega, HN, HI2, hO, trivial⟩
                  case measure => simp [intOf]; omega
                · have hbd : decide ((16384 : Int) < (O.length : Int) + ((M).length : Int)) = false := decide_eq_false (by omega)
                  have hcatM : mk O ++ mk (M) = mk (O ++ M) := mk_append O _
                  have hO2 : (O ++ M).length ≤ 200000 := by rw [List.length_append]; omega
                  cases b with
                  | true =>
                    have HI2 := Lib.hid (ri_long (m := M) (j' := k) HI.out (by omega) (.inl rfl))
                    clear hbig
                    go_wp2_with fail
                    with_reducible refine (hsy _).mono ?_
                    rintro e w1 ⟨rfl, rfl⟩
                    go_wp2_with fail
                    with_reducible refine hgx.mono ?_
                    rintro e w1 ⟨rfl, rfl⟩
                    go_wp2_with fail
                    go_roundw
                    case rel => exact ⟨k, O, _, true, rfl, rfl, rfl, by omega, HN, HI2, hO, trivial⟩
                    case measure => simp [intOf]; omega
                  | false =>
                    have HI2 := Lib.hid (ri_add (m := M) (j' := k) HI.out hbig)
                    clear hbig
                    go_wp2_with fail
                    with_reducible refine (hsy _).mono ?_
                    rintro e w1 ⟨rfl, rfl⟩
                    go_wp2_with fail
                    with_reducible refine hgx.mono ?_
                    rintro e w1 ⟨rfl, rfl⟩
                    go_wp2_with fail
                    go_roundw
                    case rel => exact ⟨k, O ++ M, _, false, rfl, rfl, rfl, by omega, HN, HI2, hO2, trivial⟩
                    case measure => simp [intOf]; omega
            · have hki : ¬ (k : Int) < (s.length : Int) := by omega
              have hh : headN shortB (s.drop q) = k - q := by
                have h1 := HK.out
                rw [List.take_of_length_le (by rw [List.length_drop]; omega)] at h1
                rw [headN_all h1, List.length_drop]
                omega
              have hst := hfin hh (hgt hh)
              have hkg := hgt hh
              obtain ⟨x, hx⟩ : ∃ x, (s.drop q).take (k - q) = x := ⟨_, rfl⟩
              have hxl : x.length ≤ 100000 := by rw [← hx, List.length_take, List.length_drop]; omega
              rw [hx] at hst hexx
              have HN := Lib.hid hst
              have hgx := hget x
              have hgl := HG.out x
              obtain ⟨M, hM⟩ : ∃ M, g x = M := ⟨_, rfl⟩
              rw [hM] at hgx HN hgl
              have hzM := mk_size M
              have hsl1 : (q : Int) ≤ (k : Int) := by omega
              have hsl2 : (k : Int) ≤ (s.length : Int) := by omega
              clear hfin hgt hh hst hx hM
              by_cases hbig : 16384 < O.length + (M).length
              · have hbd : decide ((16384 : Int) < (O.length : Int) + ((M).length : Int)) = true := decide_eq_true (by omega)
                have HI2 := Lib.hid (ri_long (m := M) (j' := k) HI.out (by omega) (.inr hbig))
                clear hbig
                go_wp2_with fail
                with_reducible refine hgx.mono ?_
                rintro e w1 ⟨rfl, rfl⟩
                go_wp2_with fail
                go_roundw
                case rel => exact ⟨k, O, _, true, rfl, rfl, rfl, by omega, HN, HI2, hO, trivial⟩
                case measure => simp [intOf]; omega
              · have hbd : decide ((16384 : Int) < (O.length : Int) + ((M).length : Int)) = false := decide_eq_false (by omega)
                have hcatM : mk O ++ mk (M) = mk (O ++ M) := mk_append O _
                have hO2 : (O ++ M).length ≤ 200000 := by rw [List.length_append]; omega
                cases b with
                | true =>
                  have HI2 := Lib.hid (ri_long (m := M) (j' := k) HI.out (by omega) (.inl rfl))
                  clear hbig
                  go_wp2_with fail
                  with_reducible refine hgx.mono ?_
                  rintro e w1 ⟨rfl, rfl⟩
                  go_wp2_with fail
                  go_roundw
                  case rel => exact ⟨k, O, _, true, rfl, rfl, rfl, by omega, HN, HI2, hO, trivial⟩
                  case measure => simp [intOf]; omega
                | false =>
                  have HI2 := Lib.hid (ri_add (m := M) (j' := k) HI.out hbig)
                  clear hbig
                  go_wp2_with fail
                  with_reducible refine hgx.mono ?_
                  rintro e w1 ⟨rfl, rfl⟩
                  go_wp2_with fail
                  go_roundw
                  case rel => exact ⟨k, O ++ M, _, false, rfl, rfl, rfl, by omega, HN, HI2, hO2, trivial⟩
                  case measure => simp [intOf]; omega
      · have e36 : ((c.toNat : Int) != 36) = true := by
          rw [bne, beq_eq_false_iff_ne.2 fun e => h36 (UInt8.toNat_inj.1 (by show c.toNat = 36; omega))]; rfl
        have hex := one_of s hb
        have HN := Lib.hid (plain_step hb h36 HE.out)
        have HI2 := Lib.hid (ri_plain c HI.out)
        have hO2 : (O ++ [c]).length ≤ 200000 := by have := HI2.out.2; omega
        have hcat : mk O ++ mk [c] = mk (O ++ [c]) := mk_append O [c]
        have hz1 : (mk [c]).size = 1 := mk_size [c]
        have hj1 : (j : Int) ≤ (j : Int) + 1 := by omega
        have hj2 : (j : Int) + 1 ≤ (s.length : Int) := by omega
        clear hc hb h36
        go_wp2
        go_roundw
        case rel => exact ⟨j + 1, O ++ [c], Z ++ [c], b, rfl, rfl, by go_num, by omega, HN, HI2, hO2, trivial⟩
        case measure => simp [intOf]; omega
    · have hji : ¬ (j : Int) < (s.length : Int) := by omega
      have hd0 : s.drop j = [] := List.drop_eq_nil_of_le (by omega)
      have he := HE.out
      rw [hd0, exp_nil] at he
      have he2 : exp g s = some Z := by rw [he]; simp
      obtain ⟨h1, h2⟩ := HI.out
      by_cases hbig : 16384 < Z.length
      · have e1 := expand_long he2 hbig
        rw [HR.out] at e1
        subst e1
        rcases h1 with ⟨rfl, rfl⟩ | ⟨rfl, _⟩
        · have hbd : decide ((16384 : Int) < (O.length : Int)) = true := decide_eq_true (by omega)
          clear hd0 he he2 h2 hbig
          go_wp2_with fail
          go_ret2
          exact ⟨rfl, rfl⟩
        · clear hd0 he he2 h2 hbig
          go_wp2_with fail
          go_ret2
          exact ⟨rfl, rfl⟩
      · have e1 := expand_some he2 hbig
        rw [HR.out] at e1
        subst e1
        rcases h1 with ⟨rfl, rfl⟩ | ⟨rfl, h⟩
        · have hbd : decide ((16384 : Int) < (O.length : Int)) = false := decide_eq_false (by omega)
          clear hd0 he he2 h2 hbig
          go_wp2_with fail
          go_ret2
          exact ⟨rfl, rfl⟩
        · exact absurd h hbig
end Go.Proofs.Ytbohnjiachnadaa.Sc
