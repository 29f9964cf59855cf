/-
  THE FUNCTIONS OF path: what each tells, as functions on lists of bytes.
-/
import Derived.Test.YtlhhpggjdbbcmaaDoorPaKept
namespace Go.Proofs.YtlhhpggjdbbcmaaDoor
open Go.RowKit

def plainN (n : Nat) : Bool := plainB (UInt8.ofNat n)

theorem plain_low : ∀ n : Nat, n < 256 → plainN n = (decide (97 ≤ n ∧ n ≤ 122) || decide (65 ≤ n ∧ n ≤ 90) || decide (48 ≤ n ∧ n ≤ 57) || decide (0 ≤ Lib.indexByte [46, 95, 45, 43, 47] (UInt8.ofNat n))) := by decide +kernel

theorem plainN_of (b : UInt8) : plainN b.toNat = plainB b := by unfold plainN; simp

set_option maxHeartbeats 1000000 in
theorem isName_c (n : Nat) (hn : n < 256) (w : World) : Calls Tryd.prog 59 #[.int .u8 (n : Int)] w fun e w' => e = .returned (.bool (plainN n)) ∧ w' = w := by
  have hp := Lib.hid (plain_low n hn)
  go_enter Tryd.func59, Tryd.ntmps59
  go_wp2_with (go_at_call 42; refine (shstringsIndexByte _ _ _).mono ?_; rintro e w1 ⟨rfl, rfl⟩)
  all_goals (go_ret; refine ⟨?_, rfl⟩; rw [hp.out])
  all_goals first
    | (rw [show decide (97 ≤ n ∧ n ≤ 122) = true from decide_eq_true (by omega)]; rfl)
    | (rw [show decide (97 ≤ n ∧ n ≤ 122) = false from decide_eq_false (by omega), show decide (65 ≤ n ∧ n ≤ 90) = true from decide_eq_true (by omega)]; rfl)
    | (rw [show decide (97 ≤ n ∧ n ≤ 122) = false from decide_eq_false (by omega), show decide (65 ≤ n ∧ n ≤ 90) = false from decide_eq_false (by omega), show decide (48 ≤ n ∧ n ≤ 57) = true from decide_eq_true (by omega)]; rfl)
    | (rw [show decide (97 ≤ n ∧ n ≤ 122) = false from decide_eq_false (by omega), show decide (65 ≤ n ∧ n ≤ 90) = false from decide_eq_false (by omega), show decide (48 ≤ n ∧ n ≤ 57) = false from decide_eq_false (by omega)]; rfl)

theorem take_all {l : Bs} {j : Nat} {b : UInt8} (h : l[j]? = some b) : (l.take (j + 1)).all plainB = ((l.take j).all plainB && plainB b) := by
  rw [List.take_add_one, h, List.all_append]
  simp
theorem all_of_not {l : Bs} {j : Nat} {b : UInt8} (h : l[j]? = some b) (hb : plainB b = false) : l.all plainB = false := by
  obtain ⟨hj, he⟩ := List.getElem?_eq_some_iff.1 h
  cases ha : l.all plainB with
  | false => rfl
  | true =>
    rw [List.all_eq_true] at ha
    have := ha b (by rw [← he]; exact List.getElem_mem hj)
    rw [hb] at this
    cases this

theorem byte_at (s : ByteArray) {j : Nat} (h : j < s.size) : s.data.toList[j]? = some s[j] := by
  rw [Array.getElem?_toList]
  exact Array.getElem?_eq_getElem h

set_option maxHeartbeats 1000000 in
theorem hasName_c (s : ByteArray) (hs : s.size ≤ 9223372036854775807) (w : World) : Calls Tryd.prog 48 #[.string s] w fun e w' => e = .returned (.bool (s.data.toList.all plainB)) ∧ w' = w := by
  obtain ⟨A, hA⟩ : ∃ A, s.data.toList.all plainB = A := ⟨_, rfl⟩
  have HA := Lib.hid hA
  rw [hA]
  clear hA
  go_enter Tryd.func48, Tryd.ntmps48
  go_wp2
  go_loopw [6] (fun i wr => ∃ j : Nat, j ≤ s.size ∧ i = .int .i64 j ∧ wr = w ∧ Hid ((s.data.toList.take j).all plainB = true)) (fun i _ => s.size - (intOf i).toNat)
  case atStart => exact ⟨0, Nat.zero_le _, rfl, rfl, Lib.hid rfl⟩
  case round =>
    obtain ⟨j, hj, rfl, rfl, HT⟩ := hrel
    by_cases hlt : j < s.size
    · have hb := byte_at s hlt
      have hnext := take_all hb
      rw [HT.out, Bool.true_and] at hnext
      have hpn := plainN_of s[j]
      have hnot := all_of_not hb
      have h256 : s[j].toNat < 256 := s[j].toNat_lt
      cases hc : plainB s[j] with
      | true =>
        rw [hc] at hnext hpn
        have HN := Lib.hid hnext
        clear hnext hnot hb hc
        go_wp2_with (go_at_call 59; refine (isName_c _ h256 _).mono ?_; rintro e w1 ⟨rfl, rfl⟩)
        go_roundw
        case rel => exact ⟨j + 1, by omega, by go_num, by trivial, HN⟩
        case measure => simp [intOf]; omega
      | false =>
        rw [hc] at hpn
        have HF := Lib.hid (hnot hc)
        clear hnext hnot hb hc
        go_wp2_with (go_at_call 59; refine (isName_c _ h256 _).mono ?_; rintro e w1 ⟨rfl, rfl⟩)
        go_ret
        rw [← HA.out, HF.out]
        exact ⟨rfl, rfl⟩
    · obtain rfl : j = s.size := by omega
      have hall : s.data.toList.take s.size = s.data.toList := by rw [Lib.size_eq, List.take_length]
      have hTA := HT.out
      rw [hall, HA.out] at hTA
      subst hTA
      go_wp2
      go_ret
      exact ⟨rfl, rfl⟩

theorem prefix_slash (l : Bs) : Lib.hasPrefix l [47] = decide (l.head? = some 47) := by
  cases l with
  | nil => rfl
  | cons b r =>
    show (List.isPrefixOf [47] (b :: r)) = _
    simp [List.isPrefixOf]
    exact Bool.eq_iff_iff.2 (by simp; exact eq_comm)

theorem hasName_mk (s : Bs) (hs : s.length ≤ 9223372036854775807) (w : World) : Calls Tryd.prog 48 #[.string (mk s)] w fun e w' => e = .returned (.bool (s.all plainB)) ∧ w' = w :=
  hasName_c (mk s) (by rw [mk_size]; exact hs) w

theorem prefix_mk (s : Bs) (w : World) : Calls Tryd.prog 49 #[.string (mk s), .string ⟨#[47]⟩] w fun e w' => e = .returned (.bool (decide (s.head? = some 47))) ∧ w' = w := by
  refine (shstringsHasPrefix (mk s) ⟨#[47]⟩ w).mono ?_
  rintro e w1 ⟨rfl, rfl⟩
  exact ⟨by rw [mk_bytes]; show Ending.returned (.bool (Lib.hasPrefix s [47])) = _; rw [prefix_slash], rfl⟩

/-- what a slice of strings that the call owns is -/
theorem owns_form {w : World} {base : Nat} {v : Value} {n : Nat} {K : List Bs} (h : w.ownsRow base 9 1 v n (strV K)) (hne : K ≠ []) :
    ∃ g cap, v = .slice (some ⟨g, 0, none⟩) n cap ∧ n = K.length ∧ n ≤ cap ∧ g < w.heap.size ∧ base ≤ g ∧ ∀ (j : Nat) x, (K.map mk)[j]? = some x → w.cell? ⟨g, 0 + j, none⟩ = some (.string x) := by
  have hl := h.1
  rw [strV_length, Nat.mul_one] at hl
  rcases h.2 with ⟨_, h0⟩ | ⟨g, cap, cur, rfl, hb, hg, hle, _⟩
  · exact absurd (List.eq_nil_of_length_eq_zero (hl.trans h0)) hne
  · refine ⟨g, cap, rfl, hl.symm, hle, (Array.getElem?_eq_some_iff.1 hg).1, hb, fun j x hx => ?_⟩
    rw [List.getElem?_map] at hx
    obtain ⟨p, hp, rfl⟩ := Option.map_eq_some_iff.1 hx
    have hc := h.cells (g := g) rfl j (.string (mk p)) (by simp [strV, hp])
    rw [Go.WideShapes.add_plain] at hc
    exact hc
theorem owns_len {w : World} {base : Nat} {v : Value} {n : Nat} {K : List Bs} (h : w.ownsRow base 9 1 v n (strV K)) : ∃ a cap, v = .slice a n cap := by
  rcases h.2 with ⟨rfl, h0⟩ | ⟨g, cap, cur, rfl, _⟩
  · exact ⟨none, 0, by rw [h0]⟩
  · exact ⟨_, _, rfl⟩

theorem map_mk (K : List Bs) : (K.map mk).map (fun x => x.data.toList) = K := by
  rw [List.map_map]
  conv => rhs; rw [← List.map_id K]
  rfl

theorem lens_bound : ∀ (ps k k' : List Bs), foldP (some k) ps = some k' → Lib.lens k' ≤ Lib.lens k + Lib.lens ps
  | [], k, k', h => by cases h; simp [Lib.lens]
  | p :: ps, k, k', h => by
    rw [foldP_cons] at h
    cases hs : stepP k p with
    | none => rw [hs, foldP_none] at h; cases h
    | some k1 =>
      rw [hs] at h
      have h1 := lens_bound ps k1 k' h
      have h2 : Lib.lens k1 ≤ Lib.lens k + p.length := by
        unfold stepP at hs
        split at hs
        · cases hs; omega
        · split at hs
          · split at hs
            · cases hs
            · cases hs
              have := Lib.lens_take_le k (k.length - 1)
              rw [List.dropLast_eq_take]
              omega
          · cases hs; simp [Lib.lens]
      have h3 : Lib.lens (p :: ps) = p.length + Lib.lens ps := by simp [Lib.lens]
      omega

theorem lens_split : ∀ (l cur : Bs), Lib.lens (splitC cur l) ≤ cur.length + l.length
  | [], cur => by simp [splitC, Lib.lens]
  | b :: r, cur => by
    rw [splitC]
    split
    · have := lens_split r []
      have h3 : Lib.lens (cur :: splitC [] r) = cur.length + Lib.lens (splitC [] r) := by simp [Lib.lens]
      simp only [List.length_nil, List.length_cons] at *
      omega
    · have := lens_split r (cur ++ [b])
      simp only [List.length_append, List.length_cons, List.length_nil] at *
      omega

theorem joinL_len : ∀ K : List Bs, (joinL K).length ≤ Lib.lens K + K.length
  | [] => by simp [joinL_nil]
  | [p] => by rw [joinL_one]; simp [Lib.lens]
  | p :: q :: r => by
    have := joinL_len (q :: r)
    have h3 : Lib.lens (p :: q :: r) = p.length + Lib.lens (q :: r) := by simp [Lib.lens]
    rw [joinL_cons, List.length_append, List.length_cons, h3, List.length_cons]
    omega

theorem kept_bound (s : Bs) : (kept s).length ≤ s.length + 1 ∧ (joinL (kept s)).length ≤ s.length + (s.length + 1) := by
  have h0 : (kept s).length ≤ s.length + 1 := Nat.le_trans (keptP_len _) (splitC_len s [])
  refine ⟨h0, Nat.le_trans (joinL_len _) ?_⟩
  have h2 : Lib.lens (kept s) ≤ s.length := by
    unfold kept
    cases h : foldP (some []) (splitC [] s) with
    | none => simp [Lib.lens]
    | some k =>
      have h1 := lens_bound _ _ _ h
      have := lens_split s []
      simp only [List.length_nil] at this
      have e : Lib.lens [] = 0 := rfl
      rw [e] at h1
      show Lib.lens k ≤ s.length
      omega
  omega

set_option maxHeartbeats 2000000 in
/-- path.Clean -/
theorem clean_c (s : Bs) (hs : s.length ≤ 9223372036854775807) (w : World) :
    Calls Tryd.prog 40 #[.string (mk s)] w fun e w' => e = .returned (.tuple #[.string (mk (cleanL s).1), .int .i64 (cleanL s).2]) ∧ Below w.heap.size w w' := by
  obtain ⟨C, hC⟩ : ∃ C, cleanL s = C := ⟨_, rfl⟩
  have HC := Lib.hid hC
  have hz : (mk s).size = s.length := mk_size s
  rw [hC]
  clear hC
  by_cases h1 : 1000 < s.length
  · have hc : C = ([], 3) := by rw [← HC.out]; unfold cleanL; rw [if_pos h1]
    subst hc
    have h1' : 1000 < ((mk s).size : Int) := by rw [hz]; omega
    go_enter Tryd.func40, Tryd.ntmps40
    go_wp2
    go_ret2
    exact ⟨rfl, Below.refl _ _⟩
  have h1' : ¬ 1000 < ((mk s).size : Int) := by rw [hz]; omega
  cases hA : s.all plainB with
  | false =>
    have hc : C = ([], 5) := by rw [← HC.out]; unfold cleanL; rw [if_neg h1, if_pos (.inl hA)]
    subst hc
    have hcall := hasName_mk s hs w
    rw [hA] at hcall
    go_enter Tryd.func40, Tryd.ntmps40
    go_wp2_with (go_at_call 48; refine hcall.mono ?_; rintro e w1 ⟨rfl, rfl⟩)
    go_ret2
    exact ⟨rfl, Below.refl _ _⟩
  | true =>
    have hcall := hasName_mk s hs w
    rw [hA] at hcall
    by_cases hH : s.head? = some 47
    · have hc : C = ([], 5) := by rw [← HC.out]; unfold cleanL; rw [if_neg h1, if_pos (.inr hH)]
      subst hc
      have hcall2 := prefix_mk s w
      rw [decide_eq_true hH] at hcall2
      go_enter Tryd.func40, Tryd.ntmps40
      go_wp2_with (first | (go_at_call 48; refine hcall.mono ?_; rintro e w1 ⟨rfl, rfl⟩) | (go_at_call 49; refine hcall2.mono ?_; rintro e w1 ⟨rfl, rfl⟩))
      go_ret2
      exact ⟨rfl, Below.refl _ _⟩
    have hcall2 := prefix_mk s w
    rw [decide_eq_false hH] at hcall2
    have hK := kept_in s (by omega) w
    have hor : ¬ (s.all plainB = false ∨ s.head? = some 47) := by rintro (h | h); · rw [hA] at h; cases h
                                                                  · exact hH h
    by_cases hk0 : kept s = []
    · have hc : C = ([], 5) := by rw [← HC.out]; unfold cleanL; rw [if_neg h1, if_neg hor, if_pos hk0]
      subst hc
      go_enter Tryd.func40, Tryd.ntmps40
      go_wp2_with (first | (go_at_call 48; refine hcall.mono ?_; rintro e w1 ⟨rfl, rfl⟩) | (go_at_call 49; refine hcall2.mono ?_; rintro e w1 ⟨rfl, rfl⟩))
      refine hK.mono ?_
      rintro e w2 ⟨v, rfl, hown, hb⟩
      rw [hk0] at hown
      obtain ⟨a, cap, rfl⟩ := owns_len hown
      go_wp2
      go_ret2
      exact ⟨rfl, hb⟩
    · obtain ⟨hb1, hb2⟩ := kept_bound s
      have hcc : C = if 100 < (joinL (kept s)).length then ([], 3) else (joinL (kept s), 0) := by rw [← HC.out]; unfold cleanL; rw [if_neg h1, if_neg hor, if_neg hk0]
      clear HC
      generalize kept s = K at *
      have hjs : (mk (joinL K)).size = (joinL K).length := mk_size _
      have hjm : (⟨(Lib.join ((K.map mk).map (fun x => x.data.toList)) (⟨#[47]⟩ : ByteArray).data.toList).toArray⟩ : ByteArray) = mk (joinL K) := by rw [map_mk]; rfl
      have hjl : (Lib.join ((K.map mk).map (fun x => x.data.toList)) (⟨#[47]⟩ : ByteArray).data.toList).length ≤ 140737488355328 := by rw [map_mk]; show (joinL K).length ≤ _; omega
      have HJM := Lib.hid hjm
      have HCC := Lib.hid hcc
      clear hjm hcc
      go_enter Tryd.func40, Tryd.ntmps40
      go_wp2_with (first | (go_at_call 48; refine hcall.mono ?_; rintro e w1 ⟨rfl, rfl⟩) | (go_at_call 49; refine hcall2.mono ?_; rintro e w1 ⟨rfl, rfl⟩))
      refine hK.mono ?_
      rintro e w2 ⟨v, rfl, hown, hb⟩
      obtain ⟨g, cap, rfl, hn, hcap, hg, hgb, hcells⟩ := owns_form hown hk0
      have hpos : 0 < K.length := by cases K with | nil => exact absurd rfl hk0 | cons a r => simp
      have hj := shstringsJoin g 0 cap (K.map mk) ⟨#[47]⟩ w2 hcells hg (by rw [List.length_map]; omega) (by rw [List.length_map]; omega) hjl
      rw [List.length_map, HJM.out] at hj
      clear hcells hown
      generalize hJ : joinL K = J at *
      generalize hkn : K.length = n at *
      go_wp2_with fail
      refine hj.mono ?_
      rintro e w3 ⟨rfl, hb3⟩
      by_cases h100 : 100 < J.length
      · have hcs := HCC.out
        rw [if_pos h100] at hcs
        subst hcs
        have h100' : 100 < ((mk J).size : Int) := by rw [hjs]; omega
        go_wp2
        go_ret2
        exact ⟨rfl, hb.trans (hb3.mono hb.size)⟩
      · have hcs := HCC.out
        rw [if_neg h100] at hcs
        subst hcs
        have h100' : ¬ 100 < ((mk J).size : Int) := by rw [hjs]; omega
        go_wp2_with fail
        refine (clone_c (mk J) w3 (by rw [hjs]; omega)).mono ?_
        rintro e w4 ⟨rfl, hb4⟩
        go_wp2
        go_ret2
        exact ⟨rfl, (hb.trans (hb3.mono hb.size)).trans (hb4.mono (Nat.le_trans hb.size hb3.size))⟩
end Go.Proofs.YtlhhpggjdbbcmaaDoor
