/-
  THE DOCUMENT's OWN ANSWER: a name, cleaned.
-/
import Derived.Test.YtlhhpggjdbbcmaaDoorPaPlain
namespace Go.Proofs.YtlhhpggjdbbcmaaDoor
open Go.RowKit

theorem wpList_append_str {w : World} {ops : Array Oper} {rest : List Oper} {o : Oper} {a : Act} {Q : Exit → Act → World → Prop} (hgd : o.guard = none) (s x : Operand)
    (ho : o.op = .call { callee := .builtin .append, args := #[s, x], argTypes := #[23, 23] })
    (base : Nat) (v : Value) (n : Nat) (K : List Bs) (hs : a.eval s = v) (hown : w.ownsRow base 9 1 v n (strV K))
    (ad : Addr) (c : Nat) (p : Bs) (hx : a.eval x = .slice (some ad) 1 c) (hnews : ∀ j u, [Value.string (mk p)][j]? = some u → w.cell? (ad.add j) = some u)
    (hn : n ≤ 1000000) (hbase : base ≤ w.heap.size)
    (h : ∀ a' c' w', w'.ownsRow base 9 1 (.slice a' (n + 1) c') (n + 1) (strV (K ++ [p])) → Below base w w' → wpList Tryd.prog ops Q rest (a.put o.dst (.slice a' (n + 1) c')) w') : wpList Tryd.prog ops Q (o :: rest) a w := by
  obtain ⟨i0, hi, hz0, hz1, hz2⟩ := info_parts info9
  refine wpList_append_own w hgd s x 23 ho base 9 i0 (.string ⟨#[]⟩) 1 16 Tryd.underlying23 hi hz0 hz1 hz2 rfl (by decide) v n (strV K) hs hown ad 1 c [.string (mk p)] hx rfl hnews (by simp [Value.oneCell']) (by unfold maxLen; omega) (by omega) hbase ?_
  intro v' w' h1 h2 _
  have h3 : w'.ownsRow base 9 1 v' (n + 1) (strV (K ++ [p])) := by rw [strV_snoc]; exact h1
  obtain ⟨a', c', rfl⟩ := owns_len h3
  exact h a' c' w' h3 ((Below.refl _ _).grown h2 hbase fun k hk => (hown.lt k hk).1)

/-- the state ahead of byte j, a slash put behind the text -/
def runTo (s : Bs) (j : Nat) : St := run (some ([], [])) ((s ++ [47]).take j)

theorem runTo_succ {s : Bs} {j : Nat} {b : UInt8} (h : (s ++ [47])[j]? = some b) : runTo s (j + 1) = stepB (runTo s j) b := by
  unfold runTo
  rw [List.take_add_one, h, Option.toList_some, run_snoc]

theorem runTo_end (s : Bs) : runTo s (s.length + 1) = (fin (run (some ([], [])) s)).map fun k => (k, []) := by
  unfold runTo
  rw [List.take_of_length_le (by simp), run_snoc]
  cases h : run (some ([], [])) s with
  | none => rfl
  | some p => obtain ⟨k, c⟩ := p; rfl

theorem runTo_none {s : Bs} {j : Nat} (h : runTo s j = none) : kept s = [] := by
  rw [kept_eq]
  have h2 : runTo s (s.length + 1) = none := by
    unfold runTo at h ⊢
    rw [List.take_of_length_le (by simp)]
    have e : s ++ [47] = (s ++ [47]).take j ++ (s ++ [47]).drop j := (List.take_append_drop j _).symm
    rw [e, run_append, h, run_none]
  rw [runTo_end] at h2
  cases hf : fin (run (some ([], [])) s) with
  | none => rfl
  | some k => rw [hf] at h2; cases h2

theorem runTo_all {s : Bs} {k : List Bs} {c : Bs} (h : runTo s (s.length + 1) = some (k, c)) : kept s = k := by
  rw [runTo_end] at h
  rw [kept_eq]
  cases hf : fin (run (some ([], [])) s) with
  | none => rw [hf] at h; cases h
  | some k' => rw [hf] at h; cases h; rfl

theorem head_of {s : Bs} {b : UInt8} (h : s[0]? = some b) : s.head? = some b := by
  cases s with
  | nil => cases h
  | cons a r => exact h

theorem head_at {s : Bs} {j : Nat} {b : UInt8} (h : s[j]? = some b) (h0 : j = 0) : s.head? = some b := by
  subst h0
  exact head_of h

theorem take_snoc {s : Bs} {a j : Nat} {b : UInt8} (h : s[j]? = some b) (ha : a ≤ j) : (s.drop a).take (j + 1 - a) = (s.drop a).take (j - a) ++ [b] := by
  have e : j + 1 - a = j - a + 1 := by omega
  rw [e, List.take_add_one]
  congr 1
  rw [List.getElem?_drop, show a + (j - a) = j by omega, h]
  rfl

theorem s47_lt {s : Bs} {j : Nat} {b : UInt8} (h : s[j]? = some b) : (s ++ [47])[j]? = some b := by
  obtain ⟨hj, _⟩ := List.getElem?_eq_some_iff.1 h
  rw [List.getElem?_append_left hj, h]
theorem s47_eq (s : Bs) : (s ++ [47])[s.length]? = some 47 := by simp

theorem step_plain {s : Bs} {K : List Bs} {a j : Nat} {b : UInt8} (h : s[j]? = some b) (hb : b ≠ 47) (ha : a ≤ j) (hr : runTo s j = some (K, (s.drop a).take (j - a))) :
    runTo s (j + 1) = some (K, (s.drop a).take (j + 1 - a)) := by
  rw [runTo_succ (s47_lt h), hr, take_snoc h ha]
  show (if b = 47 then _ else _) = _
  rw [if_neg hb]

theorem step_flush {s : Bs} {K : List Bs} {j : Nat} {P : Bs} (h : (s ++ [47])[j]? = some 47) (hr : runTo s j = some (K, P)) :
    runTo s (j + 1) = (stepP K P).map fun k => (k, []) := by
  rw [runTo_succ h, hr]
  rfl

theorem kept_lens (s : Bs) : Lib.lens (kept s) ≤ s.length := by
  unfold kept
  cases h : foldP (some []) (splitC [] s) with
  | none => simp [Lib.lens]
  | some k =>
    have h1 := lens_bound _ _ _ h
    have := lens_split s []
    simp only [List.length_nil] at this
    have e : Lib.lens [] = 0 := rfl
    rw [e] at h1
    show Lib.lens k ≤ s.length
    omega

theorem step_skip {K : List Bs} {P : Bs} (h : P = [] ∨ P = [46]) : stepP K P = some K := if_pos h
theorem step_up {K : List Bs} {P : Bs} (h : P = [46, 46]) : stepP K P = if K = [] then none else some K.dropLast := by
  subst h
  rfl
theorem step_add {K : List Bs} {P : Bs} (h0 : P ≠ []) (h1 : P ≠ [46]) (h2 : P ≠ [46, 46]) : stepP K P = some (K ++ [P]) := by
  unfold stepP
  rw [if_neg (by rintro (h | h); exact h0 h; exact h1 h), if_neg h2]

theorem owns_up {w : World} {base : Nat} {a : Option Addr} {n cap : Nat} {K : List Bs} (h : w.ownsRow base 9 1 (.slice a n cap) n (strV K)) (hne : K ≠ []) :
    1 ≤ n ∧ n ≤ cap ∧ a.isSome = true ∧ w.ownsRow base 9 1 (.slice a (n - 1) cap) (n - 1) (strV K.dropLast) := by
  obtain ⟨g, cap', e, hn, hc, _⟩ := owns_form h hne
  cases e
  have hpos : 0 < K.length := by cases K with | nil => exact absurd rfl hne | cons a r => simp
  refine ⟨by omega, hc, rfl, ?_⟩
  have hcut := owns_cut h (Nat.sub_le n 1)
  have hed : (strV K).take (n - 1) = strV K.dropLast := by rw [List.dropLast_eq_take, hn]; simp [strV]
  rw [hed] at hcut
  exact hcut

theorem owns_n {w : World} {base : Nat} {a : Option Addr} {n cap : Nat} {K : List Bs} (h : w.ownsRow base 9 1 (.slice a n cap) n (strV K)) : n = K.length := by
  have hl := h.1
  rw [strV_length, Nat.mul_one] at hl
  exact hl.symm

theorem joinL_take {K : List Bs} {q : Nat} {p : Bs} (h : K[q]? = some p) : joinL (K.take (q + 1)) = if q = 0 then p else joinL (K.take q) ++ 47 :: p := by
  have h2 : K.take (q + 1) = K.take q ++ [p] := by rw [List.take_add_one, h]; rfl
  rw [h2]
  by_cases h0 : q = 0
  · rw [if_pos h0, h0, List.take_zero, List.nil_append, joinL_one]
  · have hne : K.take q ≠ [] := by
      obtain ⟨hq, _⟩ := List.getElem?_eq_some_iff.1 h
      intro e
      have := congrArg List.length e
      rw [List.length_take, List.length_nil] at this
      omega
    rw [if_neg h0, joinL_snoc _ _ hne]

theorem joinL_take_le {K : List Bs} {q : Nat} {p : Bs} (h : K[q]? = some p) : p.length ≤ (joinL (K.take (q + 1))).length := by
  rw [joinL_take h]
  split
  · exact Nat.le_refl _
  · rw [List.length_append, List.length_cons]; omega

set_option maxHeartbeats 1000000 in
theorem refClean0 (S : ByteArray) (s : Bs) (hS : Hid (S.data.toList = s)) (hs : S.size ≤ 9223372036854775807) (w : World) :
    Calls Tryd.prog 29 #[.string S] w fun e w' => e = .returned (.tuple #[.string (mk (cleanL s).1), .int .i64 (cleanL s).2]) ∧ Below w.heap.size w w' := by
  obtain ⟨C, hC⟩ : ∃ C, cleanL s = C := ⟨_, rfl⟩
  have HC := Lib.hid hC
  have hz : Hid (s.length = S.size) := Lib.hid (by rw [Lib.size_eq, hS.out])
  rw [hC]
  clear hC
  by_cases h1 : 1000 < S.size
  · have hc : C = ([], 3) := by rw [← HC.out]; unfold cleanL; rw [if_pos (by rw [hz.out]; exact h1)]
    subst hc
    go_enter Tryd.func29, Tryd.ntmps29
    go_wp2
    go_ret2
    exact ⟨rfl, Below.refl _ _⟩
  have hn1 : ¬ 1000 < s.length := by rw [hz.out]; exact h1
  have HN1 := Lib.hid hn1
  clear hn1
  go_enter Tryd.func29, Tryd.ntmps29
  go_wp2
  go_loopw [4] (fun i wr => ∃ j : Nat, j ≤ S.size ∧ i = .int .i64 j ∧ w = wr ∧ Hid ((s.take j).all plainB = true) ∧ Hid (0 < j → s.head? ≠ some 47)) (fun i _ => S.size - (intOf i).toNat)
  case atStart => exact ⟨0, Nat.zero_le _, rfl, rfl, Lib.hid rfl, Lib.hid (by omega)⟩
  case round =>
    obtain ⟨j, hj, rfl, rfl, HT, HH⟩ := hrel
    by_cases hlt : j < S.size
    · have hb := byte_at S hlt
      rw [hS.out] at hb
      have hnext := take_all hb
      rw [HT.out, Bool.true_and] at hnext
      have hpn := plainN_of S[j]
      have hnot := all_of_not hb
      have h256 : S[j].toNat < 256 := S[j].toNat_lt
      cases hc : plainB S[j] with
      | false =>
        rw [hc] at hpn
        have hcc : C = ([], 5) := by rw [← HC.out]; unfold cleanL; rw [if_neg HN1.out, if_pos (.inl (hnot hc))]
        subst hcc
        clear hnext hnot hb hc
        go_wp2_with (go_at_call 39; refine (plain_c _ h256 _).mono ?_; rintro e w1 ⟨rfl, rfl⟩)
        go_ret2
        exact ⟨rfl, Below.refl _ _⟩
      | true =>
        rw [hc] at hnext hpn
        have HNX := Lib.hid hnext
        by_cases h0 : j = 0
        · have hhd : s.head? = some S[j] := head_at hb h0
          have hj0 : ((j : Int) == 0) = true := by simp [h0]
          by_cases h47 : S[j] = 47
          · have hcc : C = ([], 5) := by rw [← HC.out]; unfold cleanL; rw [if_neg HN1.out, if_pos (.inr (by rw [hhd, h47]))]
            subst hcc
            have e47 : ((S[j].toNat : Int) == 47) = true := by rw [h47]; rfl
            clear hnext hnot hb hc hhd h47 h0
            go_wp2_with (go_at_call 39; refine (plain_c _ h256 _).mono ?_; rintro e w1 ⟨rfl, rfl⟩)
            go_ret2
            exact ⟨rfl, Below.refl _ _⟩
          · have e47 : ((S[j].toNat : Int) == 47) = false := by
              have : ¬ S[j].toNat = 47 := fun h => h47 (UInt8.toNat_inj.1 (by rw [h]; rfl))
              simp; omega
            have HHD := Lib.hid (show s.head? ≠ some 47 from fun h => h47 (by rw [hhd] at h; exact Option.some.inj h))
            clear hnext hnot hb hc hhd h47 h0
            go_wp2_with (go_at_call 39; refine (plain_c _ h256 _).mono ?_; rintro e w1 ⟨rfl, rfl⟩)
            go_roundw
            case rel => exact ⟨j + 1, by omega, by go_num, trivial, HNX, Lib.hid fun _ => HHD.out⟩
            case measure => simp [intOf]; omega
        · have HH2 := Lib.hid (show 0 < j + 1 → s.head? ≠ some 47 from fun _ => HH.out (by omega))
          have hj0 : ((j : Int) == 0) = false := by simp; omega
          clear hnext hnot hb hc h0
          go_wp2_with (go_at_call 39; refine (plain_c _ h256 _).mono ?_; rintro e w1 ⟨rfl, rfl⟩)
          go_roundw
          case rel => exact ⟨j + 1, by omega, by go_num, trivial, HNX, HH2⟩
          case measure => simp [intOf]; omega
    · obtain rfl : j = S.size := by omega
      have hall : s.all plainB = true := by
        have h := HT.out
        rw [List.take_of_length_le (by rw [hz.out]; exact Nat.le_refl _)] at h
        exact h
      have hhd : s.head? ≠ some 47 := by
        by_cases h0 : 0 < S.size
        · exact HH.out h0
        · have : s = [] := List.eq_nil_of_length_eq_zero (by rw [hz.out]; omega)
          rw [this]
          simp
      have hor : ¬ (s.all plainB = false ∨ s.head? = some 47) := fun h => h.elim (fun h => by rw [hall] at h; cases h) hhd
      have HCK := Lib.hid (show C = if kept s = [] then ([], 5) else if 100 < (joinL (kept s)).length then ([], 3) else (joinL (kept s), 0) by rw [← HC.out]; unfold cleanL; rw [if_neg HN1.out, if_neg hor])
      have HALL := Lib.hid hall
      clear hall hhd hor HT HH HC hj hlt
      go_wp2
      go_loopw [5, 6, 7] (fun p x i W => ∃ (j a : Nat) (K : List Bs) (ad : Option Addr) (cap n : Nat), j ≤ S.size + 1 ∧ a ≤ j ∧ i = .int .i64 j ∧ x = .int .i64 a ∧ p = .slice ad n cap ∧ W.ownsRow w.heap.size 9 1 (.slice ad n cap) n (strV K) ∧ n ≤ j ∧ Hid (runTo s j = some (K, (s.drop a).take (j - a))) ∧ Below w.heap.size w W) (fun _ _ i _ => S.size + 1 - (intOf i).toNat)
      case atStart => exact ⟨0, 0, [], none, 0, 0, Nat.zero_le _, Nat.le_refl _, rfl, rfl, rfl, World.ownsRow_nil _ _ _ _, Nat.le_refl _, Lib.hid rfl, Below.refl _ _⟩
      case round =>
        obtain ⟨j, a, K, ad, cap, n, hj, ha, rfl, rfl, rfl, hown, hnj, HR, hb⟩ := hrel
        by_cases hlt : j < S.size
        · have hbj := byte_at S hlt
          rw [hS.out] at hbj
          by_cases h47 : S[j] = 47
          · have e47 : ((S[j].toNat : Int) != 47) = false := by rw [h47]; rfl
            have hb47 : (s ++ [47])[j]? = some 47 := by rw [s47_lt hbj, h47]
            clear h47 hbj
            have hfl := step_flush hb47 HR.out
            have hex : S.extract a j = mk ((s.drop a).take (j - a)) := by rw [← hS.out]; exact Lib.extract_eq S a j
            obtain ⟨P, hP⟩ : ∃ P, (s.drop a).take (j - a) = P := ⟨_, rfl⟩
            rw [hP] at hfl hex
            have hr0 : (s.drop (j + 1)).take (j + 1 - (j + 1)) = [] := by rw [Nat.sub_self]; rfl
            by_cases c0 : P = [] ∨ P = [46]
            · have e01 : (mk P).toList.isEmpty = true ∨ ((mk P).toList.isEmpty = false ∧ ((mk P).toList == [46]) = true) := by
                rw [mk_toList]
                rcases c0 with h | h
                · rw [h]; exact .inl rfl
                · rw [h]; exact .inr ⟨rfl, rfl⟩
              rw [step_skip c0] at hfl
              have HR2 := Lib.hid (show runTo s (j + 1) = some (K, (s.drop (j + 1)).take (j + 1 - (j + 1))) by rw [hr0]; exact hfl)
              clear hfl hr0 c0 hP HR hb47
              rcases e01 with e0 | ⟨e0, e1⟩
              all_goals go_wp2
              all_goals go_roundw
              case rel => exact ⟨j + 1, j + 1, K, ad, cap, n, by omega, Nat.le_refl _, by go_num, by go_num, rfl, hown, by omega, HR2, hb⟩
              case measure => simp [intOf]; omega
              case rel => exact ⟨j + 1, j + 1, K, ad, cap, n, by omega, Nat.le_refl _, by go_num, by go_num, rfl, hown, by omega, HR2, hb⟩
              case measure => simp [intOf]; omega
            have e0 : (mk P).toList.isEmpty = false := by rw [mk_toList]; cases P with | nil => exact absurd (.inl rfl) c0 | cons a r => rfl
            have e1 : ((mk P).toList == [46]) = false := by rw [mk_toList]; exact beq_eq_false_iff_ne.2 fun h => c0 (.inr h)
            by_cases c2 : P = [46, 46]
            · have e2 : ((mk P).toList == [46, 46]) = true := by rw [mk_toList, c2]; rfl
              rw [step_up c2] at hfl
              by_cases cK : K = []
              · rw [if_pos cK] at hfl
                have hcc : C = ([], 5) := by rw [HCK.out, if_pos (runTo_none hfl)]
                subst hcc
                have hn0 : n = 0 := by rw [owns_n hown, cK]; rfl
                subst hn0
                clear hfl hr0 c0 c2 cK hP HR hb47
                go_wp2
                go_ret2
                exact ⟨rfl, hb⟩
              · rw [if_neg cK] at hfl
                obtain ⟨hn1, hcap, hsome, hown2⟩ := owns_up hown cK
                obtain ⟨g, rfl⟩ := Option.isSome_iff_exists.1 hsome
                have HR2 := Lib.hid (show runTo s (j + 1) = some (K.dropLast, (s.drop (j + 1)).take (j + 1 - (j + 1))) by rw [hr0]; exact hfl)
                have hnz : ((n : Int) == 0) = false := by simp; omega
                clear hfl hr0 c0 c2 cK hP HR hsome hb47
                go_wp2
                go_roundw
                case rel => exact ⟨j + 1, j + 1, K.dropLast, some g, cap, n - 1, by omega, Nat.le_refl _, by go_num, by go_num, rfl, hown2, by omega, HR2, hb⟩
                case measure => simp [intOf]; omega
            have e2 : ((mk P).toList == [46, 46]) = false := by rw [mk_toList]; exact beq_eq_false_iff_ne.2 c2
            rw [step_add (fun h => c0 (.inl h)) (fun h => c0 (.inr h)) c2] at hfl
            have HR2 := Lib.hid (show runTo s (j + 1) = some (K ++ [P], (s.drop (j + 1)).take (j + 1 - (j + 1))) by rw [hr0]; exact hfl)
            clear hfl hr0 c0 c2 hP HR hb47
            go_wp2_with (at_builtin; refine wpList_append_str rfl (.tmp 77) (.tmp 79) rfl w.heap.size _ n K rfl (hown.alloc _) ⟨wr.heap.size, 0, none⟩ 1 P rfl (cell_one_new _ _ _) (by omega) (by have := hb.size; simp; omega) ?_; intro a' c' w1 hown1 hb1)
            go_roundw
            case rel => exact ⟨j + 1, j + 1, K ++ [P], a', c', n + 1, by omega, Nat.le_refl _, by go_num, by go_num, rfl, hown1, by omega, HR2, (hb.alloc hb.size _).trans hb1⟩
            case measure => simp [intOf]; omega
          · have e47 : ((S[j].toNat : Int) != 47) = true := by
              have : ¬ S[j].toNat = 47 := fun h => h47 (UInt8.toNat_inj.1 (by rw [h]; rfl))
              simp; omega
            have HR2 := Lib.hid (step_plain hbj h47 ha HR.out)
            clear h47 hbj HR
            go_wp2
            go_roundw
            case rel => exact ⟨j + 1, a, K, ad, cap, n, by omega, by omega, by go_num, rfl, rfl, hown, by omega, HR2, hb⟩
            case measure => simp [intOf]; omega
        by_cases hle : j = S.size
        · have hjlt : ¬ j < S.size := hlt
          have hjle : j ≤ S.size := by omega
          have hb47 : (s ++ [47])[j]? = some 47 := by rw [hle, ← hz.out]; exact s47_eq s
          have hfl := step_flush hb47 HR.out
          have hex : S.extract a j = mk ((s.drop a).take (j - a)) := by rw [← hS.out]; exact Lib.extract_eq S a j
          obtain ⟨P, hP⟩ : ∃ P, (s.drop a).take (j - a) = P := ⟨_, rfl⟩
          rw [hP] at hfl hex
          have hr0 : (s.drop (j + 1)).take (j + 1 - (j + 1)) = [] := by rw [Nat.sub_self]; rfl
          by_cases c0 : P = [] ∨ P = [46]
          · have e01 : (mk P).toList.isEmpty = true ∨ ((mk P).toList.isEmpty = false ∧ ((mk P).toList == [46]) = true) := by
              rw [mk_toList]
              rcases c0 with h | h
              · rw [h]; exact .inl rfl
              · rw [h]; exact .inr ⟨rfl, rfl⟩
            rw [step_skip c0] at hfl
            have HR2 := Lib.hid (show runTo s (j + 1) = some (K, (s.drop (j + 1)).take (j + 1 - (j + 1))) by rw [hr0]; exact hfl)
            clear hfl hr0 c0 hP HR hb47 hle
            rcases e01 with e0 | ⟨e0, e1⟩
            all_goals go_wp2
            all_goals go_roundw
            case rel => exact ⟨j + 1, j + 1, K, ad, cap, n, by omega, Nat.le_refl _, by go_num, by go_num, rfl, hown, by omega, HR2, hb⟩
            case measure => simp [intOf]; omega
            case rel => exact ⟨j + 1, j + 1, K, ad, cap, n, by omega, Nat.le_refl _, by go_num, by go_num, rfl, hown, by omega, HR2, hb⟩
            case measure => simp [intOf]; omega
          have e0 : (mk P).toList.isEmpty = false := by rw [mk_toList]; cases P with | nil => exact absurd (.inl rfl) c0 | cons a r => rfl
          have e1 : ((mk P).toList == [46]) = false := by rw [mk_toList]; exact beq_eq_false_iff_ne.2 fun h => c0 (.inr h)
          by_cases c2 : P = [46, 46]
          · have e2 : ((mk P).toList == [46, 46]) = true := by rw [mk_toList, c2]; rfl
            rw [step_up c2] at hfl
            by_cases cK : K = []
            · rw [if_pos cK] at hfl
              have hcc : C = ([], 5) := by rw [HCK.out, if_pos (runTo_none hfl)]
              subst hcc
              have hn0 : n = 0 := by rw [owns_n hown, cK]; rfl
              subst hn0
              clear hfl hr0 c0 c2 cK hP HR hb47 hle
              go_wp2
              go_ret2
              exact ⟨rfl, hb⟩
            · rw [if_neg cK] at hfl
              obtain ⟨hn1, hcap, hsome, hown2⟩ := owns_up hown cK
              obtain ⟨g, rfl⟩ := Option.isSome_iff_exists.1 hsome
              have HR2 := Lib.hid (show runTo s (j + 1) = some (K.dropLast, (s.drop (j + 1)).take (j + 1 - (j + 1))) by rw [hr0]; exact hfl)
              have hnz : ((n : Int) == 0) = false := by simp; omega
              clear hfl hr0 c0 c2 cK hP HR hsome hb47 hle
              go_wp2
              go_roundw
              case rel => exact ⟨j + 1, j + 1, K.dropLast, some g, cap, n - 1, by omega, Nat.le_refl _, by go_num, by go_num, rfl, hown2, by omega, HR2, hb⟩
              case measure => simp [intOf]; omega
          have e2 : ((mk P).toList == [46, 46]) = false := by rw [mk_toList]; exact beq_eq_false_iff_ne.2 c2
          rw [step_add (fun h => c0 (.inl h)) (fun h => c0 (.inr h)) c2] at hfl
          have HR2 := Lib.hid (show runTo s (j + 1) = some (K ++ [P], (s.drop (j + 1)).take (j + 1 - (j + 1))) by rw [hr0]; exact hfl)
          clear hfl hr0 c0 c2 hP HR hb47 hle
          go_wp2_with (at_builtin; refine wpList_append_str rfl (.tmp 77) (.tmp 79) rfl w.heap.size _ n K rfl (hown.alloc _) ⟨wr.heap.size, 0, none⟩ 1 P rfl (cell_one_new _ _ _) (by omega) (by have := hb.size; simp; omega) ?_; intro a' c' w1 hown1 hb1)
          go_roundw
          case rel => exact ⟨j + 1, j + 1, K ++ [P], a', c', n + 1, by omega, Nat.le_refl _, by go_num, by go_num, rfl, hown1, by omega, HR2, (hb.alloc hb.size _).trans hb1⟩
          case measure => simp [intOf]; omega
        · have hjn : j = S.size + 1 := by omega
          have hK : kept s = K := runTo_all (by rw [hz.out, ← hjn]; exact HR.out)
          have hgood : ∀ q ∈ K, Good q := by rw [← hK]; exact kept_good HALL.out
          have HCK2 := Lib.hid (show C = if K = [] then ([], 5) else if 100 < (joinL K).length then ([], 3) else (joinL K, 0) by rw [HCK.out, hK])
          have hlens : Lib.lens K ≤ 1000 := by have := kept_lens s; rw [hK, hz.out] at this; omega
          have hnK := owns_n hown
          have HNK := Lib.hid hnK
          have HL := Lib.hid (show ∀ j, (joinL (K.take j)).length ≤ 3000 from fun j => by
            have h1 := joinL_len (K.take j)
            have h2 := Lib.lens_take_le K j
            have h3 : (K.take j).length ≤ K.length := by rw [List.length_take]; omega
            omega)
          have HE := Lib.hid (show K ≠ [] → joinL K ≠ [] from fun h => joinL_ne hgood h)
          have hjgt : ¬ j ≤ S.size := by omega
          have hn2000 : n ≤ 2000 := by omega
          obtain ⟨W2, hW2⟩ : ∃ W2, W2 = wr := ⟨wr, rfl⟩
          subst hW2
          clear hK hgood HCK HR hnK hjn hle hlt HALL hlens ha
          go_wp2
          go_loopw [9, 10] (fun o i W => ∃ j : Nat, j ≤ n ∧ i = .int .i64 j ∧ o = .string (mk (joinL (K.take j))) ∧ W2 = W) (fun _ i _ => n - (intOf i).toNat)
          case atStart => exact ⟨0, Nat.zero_le _, rfl, rfl, rfl⟩
          case round =>
            obtain ⟨q, hq, rfl, rfl, rfl⟩ := hrel
            by_cases hqn : q < n
            · have hqK : q < K.length := by rw [← HNK.out]; exact hqn
              have hne : K ≠ [] := by rintro rfl; simp at hqK
              obtain ⟨g, cap', e, _, hcap, _, _, hcells⟩ := owns_form hown hne
              cases e
              have hpe : K[q]? = some K[q] := List.getElem?_eq_getElem hqK
              have hpl : K[q].length ≤ 3000 := Nat.le_trans (joinL_take_le hpe) (HL.out (q + 1))
              have hcell := hcells q (mk K[q]) (by rw [List.getElem?_map, hpe]; rfl)
              have hnext := joinL_take hpe
              have hxl := HL.out q
              obtain ⟨p, hp⟩ : ∃ p, K[q] = p := ⟨_, rfl⟩
              rw [hp] at hcell hnext hpl
              obtain ⟨X, hX⟩ : ∃ X, joinL (K.take q) = X := ⟨_, rfl⟩
              have hX0 : q = 0 → X = [] := fun h => by rw [← hX, h]; rfl
              rw [hX] at hnext hxl ⊢
              rw [Nat.zero_add] at hcell
              have z1 := mk_size X
              have z2 := mk_size (X ++ [47])
              have z3 := mk_size p
              rw [List.length_append, List.length_singleton] at z2
              by_cases h0 : q = 0
              · rw [if_pos h0] at hnext
                have hcat : mk X ++ mk p = mk p := by rw [hX0 h0, mk_append]; rfl
                have HX := Lib.hid hnext
                have hq0 : ¬ (0 : Int) < (q : Int) := by omega
                clear hnext hX0 hX hp hpe hne hcells h0
                go_wp2
                go_roundw
                case rel => exact ⟨q + 1, by omega, by go_num, by rw [HX.out], trivial⟩
                case measure => simp [intOf]; omega
              · rw [if_neg h0] at hnext
                have hcat1 : mk X ++ ⟨#[47]⟩ = mk (X ++ [47]) := mk_append X [47]
                have hcat2 : mk (X ++ [47]) ++ mk p = mk (X ++ 47 :: p) := by rw [mk_append]; simp
                have HX := Lib.hid hnext
                have hq0 : (0 : Int) < (q : Int) := by omega
                clear hnext hX0 hX hp hpe hne hcells h0
                go_wp2
                go_roundw
                case rel => exact ⟨q + 1, by omega, by go_num, by rw [HX.out], trivial⟩
                case measure => simp [intOf]; omega
            · obtain rfl : q = n := by omega
              have hall : K.take q = K := by rw [HNK.out, List.take_length]
              have hjl := HL.out q
              rw [hall] at hjl ⊢
              have z1 := mk_size (joinL K)
              by_cases hne : K = []
              · have hcc : C = ([], 5) := by rw [HCK2.out, if_pos hne]
                subst hcc
                have e0 : (mk (joinL K)).toList.isEmpty = true := by rw [mk_toList, hne]; rfl
                clear hall hne
                go_wp2
                go_ret2
                exact ⟨rfl, hb⟩
              · have hJ := HE.out hne
                have e0 : (mk (joinL K)).toList.isEmpty = false := by
                  rw [mk_toList]
                  cases hj : joinL K with
                  | nil => exact absurd hj hJ
                  | cons a r => rfl
                by_cases h100 : 100 < (joinL K).length
                · have hcc : C = ([], 3) := by rw [HCK2.out, if_neg hne, if_pos h100]
                  subst hcc
                  have h100' : 100 < ((mk (joinL K)).size : Int) := by rw [z1]; omega
                  clear hall hne hJ
                  go_wp2
                  go_ret2
                  exact ⟨rfl, hb⟩
                · have hcc : C = (joinL K, 0) := by rw [HCK2.out, if_neg hne, if_neg h100]
                  subst hcc
                  have h100' : ¬ 100 < ((mk (joinL K)).size : Int) := by rw [z1]; omega
                  clear hall hne hJ
                  go_wp2
                  go_ret2
                  exact ⟨rfl, hb⟩

theorem refClean_c (s : Bs) (hs : s.length ≤ 9223372036854775807) (w : World) :
    Calls Tryd.prog 29 #[.string (mk s)] w fun e w' => e = .returned (.tuple #[.string (mk (cleanL s).1), .int .i64 (cleanL s).2]) ∧ Below w.heap.size w w' :=
  refClean0 (mk s) s rfl (by rw [mk_size]; exact hs) w
end Go.Proofs.YtlhhpggjdbbcmaaDoor
