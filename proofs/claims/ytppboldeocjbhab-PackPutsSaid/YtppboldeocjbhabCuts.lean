/-
  THE LAW PackCuts, WALKED.
-/
import Derived.Test.YtppboldeocjbhabMeth
namespace Go.Proofs.Ytppboldeocjbhab
open Go.RowKit

/-- a slice's value reads as these numbers of 64 bits -/
def Row64 (w : World) (a : Option Addr) (l : List Nat) : Prop :=
  l = [] ∨ ∃ b off, a = some ⟨b, off, none⟩ ∧ b < w.heap.size ∧ ∀ i, i < l.length → w.cell? ⟨b, off + i, none⟩ = some (.int .u64 ((l.getD i 0 : Nat) : Int))

theorem row64_of {w : World} {a : Option Addr} {len cap : Nat} {zs : List Int} (h : IsRow .u64 w a len cap zs) :
    ∃ l : List Nat, len = l.length ∧ (∀ n ∈ l, n < 18446744073709551616) ∧ Row64 w a l := by
  rcases h with ⟨_, h1, _, _⟩ | ⟨x, rfl, h1, _, h3, h4, h5⟩
  · exact ⟨[], h1, by simp, .inl rfl⟩
  · have hl : len = ((zs.take len).map Int.toNat).length := by simp; omega
    refine ⟨(zs.take len).map Int.toNat, hl, ?_, ?_⟩
    · intro n hn
      obtain ⟨z, hz, rfl⟩ := List.mem_map.1 hn
      have := u64_bounds (h5 z (List.mem_of_mem_take hz))
      omega
    · by_cases hp : 0 < zs.length
      · obtain ⟨b, off, rfl, hc⟩ := ints_at h4 hp
        refine .inr ⟨b, off, rfl, lt_of_cell (hc 0 hp), fun i hi => ?_⟩
        have hi2 : i < len := by rw [hl]; exact hi
        rw [hc i (by omega)]
        have hz : i < zs.length := by omega
        have hb := u64_bounds (h5 zs[i] (by simp))
        have e : zs.getD i 0 = zs[i] := by simp [List.getD, hz]
        have e2 : ((zs.take len).map Int.toNat).getD i 0 = zs[i].toNat := by simp [List.getD, hi2, hz]
        rw [e, e2]
        congr 2
        omega
      · refine .inl ?_
        have : zs = [] := List.eq_nil_of_length_eq_zero (by omega)
        simp [this]

theorem Row.take {w : World} {a : Option Addr} {l : List Nat} (h : Row w a l) (k : Nat) : Row w a (l.take k) := by
  rcases h with rfl | ⟨b, off, h1, h2, h3⟩
  · exact .inl (by simp)
  · refine .inr ⟨b, off, h1, h2, fun i hi => ?_⟩
    have hi2 : i < k ∧ i < l.length := by simp at hi; omega
    rw [h3 i hi2.2]
    simp [List.getD, hi2.1]

/-- numbers, one behind the other -/
def enc (us : List Nat) : List Nat := us.flatMap fun u => le u 8

theorem enc_snoc (us : List Nat) (u : Nat) : enc (us ++ [u]) = enc us ++ le u 8 := by simp [enc]
theorem enc_length (us : List Nat) : (enc us).length = 8 * us.length := by
  induction us with
  | nil => rfl
  | cons u us ih =>
    show (le u 8 ++ enc us).length = _
    rw [List.length_append, le_length, ih, List.length_cons]
    omega
theorem enc_lt (us : List Nat) : ∀ x ∈ enc us, x < 256 := by
  intro x hx
  obtain ⟨u, _, h⟩ := List.mem_flatMap.1 hx
  exact le_lt u 8 x h

theorem enc_drop (k : Nat) : ∀ us : List Nat, (enc us).drop (8 * k) = enc (us.drop k) := by
  induction k with
  | zero => intro us; rfl
  | succ k ih =>
    intro us
    cases us with
    | nil => simp [enc]
    | cons u us =>
      show (le u 8 ++ enc us).drop _ = _
      have h8 : (le u 8 ++ enc us).drop 8 = enc us := by
        have hl := le_length u 8
        rw [List.drop_append_of_le_length (by omega), List.drop_of_length_le (by omega), List.nil_append]
      rw [show 8 * (k + 1) = 8 + 8 * k from by omega, ← List.drop_drop, h8, ih]
      rfl

theorem num_le (k : Nat) : ∀ v, num (le v k) = v % 2 ^ (8 * k) := by
  induction k with
  | zero => intro v; simp [le, num, Nat.mod_one]
  | succ k ih =>
    intro v
    rw [le_succ, num_snoc, ih, le_length, show 8 * (k + 1) = 8 * k + 8 from by omega, Nat.pow_add, Nat.mod_mul, show (2 : Nat) ^ 8 = 256 from rfl, Nat.mul_comm (2 ^ (8 * k))]

/-- what is left behind k readings of the first 'cut' bytes -/
def restC (us : List Nat) (cut k : Nat) : List Nat := if 8 * k ≤ cut then ((enc us).take cut).drop (8 * k) else []
def badC (cut k : Nat) : Bool := !decide (8 * k ≤ cut)

theorem restC_length {us : List Nat} {cut : Nat} (hc : cut ≤ 8 * us.length) (k : Nat) : (restC us cut k).length = cut - 8 * k := by
  unfold restC
  split
  · rw [List.length_drop, List.length_take, enc_length, Nat.min_eq_left hc]
  · simp; omega

theorem restC_lt (us : List Nat) (cut k : Nat) : ∀ x ∈ restC us cut k, x < 256 := by
  unfold restC
  split
  · exact drop_lt (take_lt (enc_lt us) cut) _
  · simp

theorem restC_step {us : List Nat} {cut : Nat} (hc : cut ≤ 8 * us.length) (k : Nat) : rdL 8 (restC us cut k) = restC us cut (k + 1) ∧ rdB 8 (restC us cut k) (badC cut k) = badC cut (k + 1) := by
  have hl := restC_length hc k
  unfold rdL rdB
  rw [hl]
  by_cases h : 8 * (k + 1) ≤ cut
  · rw [if_pos (by omega), if_pos (by omega)]
    constructor
    · unfold restC
      rw [if_pos (by omega), if_pos h, List.drop_drop]
      rfl
    · unfold badC
      rw [show decide (8 * k ≤ cut) = true from by simp; omega, show decide (8 * (k + 1) ≤ cut) = true from by simpa using h]
  · rw [if_neg (by omega), if_neg (by omega)]
    constructor
    · unfold restC
      rw [if_neg h]
    · unfold badC
      rw [show decide (8 * (k + 1) ≤ cut) = false from by simpa using h]
      rfl

theorem restC_num {us : List Nat} {cut k : Nat} (hc : cut ≤ 8 * us.length) (h : 8 * (k + 1) ≤ cut) (hu : ∀ n ∈ us, n < 18446744073709551616) : rdN 8 (restC us cut k) = us.getD k 0 := by
  have hl := restC_length hc k
  have hk : k < us.length := by omega
  unfold rdN
  rw [hl, if_pos (by omega)]
  unfold restC
  rw [if_pos (by omega), List.drop_take, List.take_take, Nat.min_eq_left (by omega), enc_drop, List.drop_eq_getElem_cons hk]
  show num ((le us[k] 8 ++ enc _).take 8) = _
  rw [List.take_append_of_le_length (by rw [le_length]; exact Nat.le_refl _), List.take_of_length_le (by rw [le_length]; exact Nat.le_refl _), num_le]
  have := hu us[k] (by simp)
  rw [Nat.mod_eq_of_lt (by omega)]
  simp [List.getD, hk]

theorem restC_zero {us : List Nat} {cut k : Nat} (hc : cut ≤ 8 * us.length) (h : ¬ 8 * (k + 1) ≤ cut) : rdN 8 (restC us cut k) = 0 := by
  unfold rdN
  rw [restC_length hc k, if_neg (by omega)]

theorem owned_cap {w : World} {base : Nat} {a : Option Addr} {n c : Nat} {xs : List Value} (h : w.ownsRow base 5 1 (.slice a n c) n xs) : n ≤ c := by
  rcases h.2 with ⟨e, h0⟩ | ⟨g, cap, cur, e, _, _, h3, _⟩
  · omega
  · simp only [Value.slice.injEq] at e
    omega

theorem getD64_lt {us : List Nat} (hu : ∀ n ∈ us, n < 18446744073709551616) (k : Nat) : us.getD k 0 < 18446744073709551616 := by
  by_cases hk : k < us.length
  · have := hu us[k] (by simp)
    simpa [List.getD, hk] using this
  · simp [List.getD, List.getElem?_eq_none (Nat.le_of_not_lt hk)]

theorem Only.tob {p : Nat} {w0 w w' : World} (h : Only p w w') (hb : Below w0.heap.size w0 w) (hp : w0.heap.size ≤ p) : Below w0.heap.size w0 w' :=
  hb.trans (h.below hp hb.size)

set_option maxHeartbeats 400000 in
theorem cuts_main (a : Option Addr) (n c at' : Nat) (us : List Nat) (w : World) (hu : ∀ n ∈ us, n < 18446744073709551616) (hat : at' < 65536)
    (hn : Hid (n = us.length)) (hrow : Row64 w a us) (h1 : n ≤ 50) (h2 : 0 < n) :
    Calls Try.prog 6 #[.slice a n c, .int .u16 (at' : Int)] w fun e w' => e = .returned (.bool true) ∧ Below w.heap.size w w' := by
  have t2 : ((n : Int) == 0) = false := by rw [beq_eq_false_iff_ne]; omega
  obtain ⟨ba, oa, rfl, hlta, hcell⟩ : ∃ b off, a = some ⟨b, off, none⟩ ∧ b < w.heap.size ∧ ∀ i, i < us.length → w.cell? ⟨b, off + i, none⟩ = some (.int .u64 ((us.getD i 0 : Nat) : Int)) := by
    rcases hrow with h | h
    · have := hn.out
      rw [h] at this
      simp at this
      omega
    · exact h
  have HCELL := Lib.hid hcell
  clear hcell
  go_enter Try.func6, Try.ntmps6
  go_wp2_with fail
  go_loopw [5, 6] (fun s i wr => ∃ k : Nat, k ≤ n ∧ i = .int .i64 k ∧ ∃ a' n' c', s = .slice a' n' c' ∧ Hid (n' = (enc (us.take k)).length) ∧ Row wr a' (enc (us.take k)) ∧ n' ≤ c' ∧ Below w.heap.size w wr) (fun _ i _ => n - (intOf i).toNat)
  case atStart => exact ⟨0, by omega, rfl, none, 0, 0, rfl, rfl, .inl rfl, by omega, Below.refl _ _⟩
  case round =>
    obtain ⟨k, hk, rfl, a', n', c', rfl, hn', hr', hcap, hnx⟩ := hrel
    have hn8 : n' = 8 * k := by rw [hn'.out, enc_length, List.length_take, Nat.min_eq_left (by have := hn.out; omega)]
    have HN8 := Lib.hid hn8
    by_cases hlt : k < n
    · have hk2 : k < us.length := by have := hn.out; omega
      have hc0 := HCELL.out k hk2
      have hc1 := (hnx.cell (p := ⟨ba, oa + k, none⟩) hlta).trans hc0
      have hv := getD64_lt hu k
      have hsn : enc (us.take (k + 1)) = enc (us.take k) ++ le (us.getD k 0) 8 := by rw [take_snoc hk2, enc_snoc]
      have HS := Lib.hid hsn
      have hsz : n' ≤ 1000000 := by omega
      clear hsn hc0 hn8
      generalize us.getD k 0 = v at *
      go_wp2_with fail
      refine (u64_any a' n' c' _ v wr hv hn' hr' hsz).mono ?_
      rintro e w1 ⟨a2, n2, c2, rfl, hown2, hb2⟩
      obtain ⟨hn2, hr2, _⟩ := owned_row hown2
      have hcap2 := owned_cap hown2
      go_wp2_with fail
      go_roundw
      case rel => exact ⟨k + 1, by omega, by go_num, a2, n2, c2, rfl, by rw [HS.out]; exact hn2, by rw [HS.out]; exact hr2, hcap2, hnx.trans (hb2.mono hnx.size)⟩
      case measure => simp [intOf]; omega
    · obtain rfl : n = k := by omega
      have htk : us.take n = us := List.take_of_length_le (by rw [hn.out]; exact Nat.le_refl _)
      rw [htk] at hn' hr'
      subst hn8
      clear HN8 htk
      have t3 : ((8 * (n : Int)) == 8 * (n : Int)) = true := by simp
      have q0 : (0 : Int) ≤ (at' : Int) % (8 * (n : Int)) := Int.emod_nonneg _ (by omega)
      have q1 : (at' : Int) % (8 * (n : Int)) < 8 * (n : Int) := Int.emod_lt_of_pos _ (by omega)
      go_wp2_with fail
      rw [show ((at' : Int) % (8 * (n : Int))) = ((at' % (8 * n) : Nat) : Int) from by push_cast; rfl]
      have hcut : at' % (8 * n) < 8 * n := Nat.mod_lt _ (by omega)
      generalize at' % (8 * n) = cut at *
      clear t3 q0 q1
      have hnu := hn.out
      refine (new_any a' cut c' ((enc us).take cut) wr (by show _ = _; rw [List.length_take, enc_length]; omega) (hr'.take cut) (by omega)).mono ?_
      rintro e w1 ⟨p, hp, rfl, hrd, hb1⟩
      have hnx1 := hnx.trans (hb1.mono hnx.size)
      have hpw : w.heap.size ≤ p := by have := hnx.size; omega
      have hcl : cut ≤ 8 * us.length := by omega
      have hrd0 : Rd w1 p wr.heap.size (restC us cut 0) (badC cut 0) := by
        have e1 : restC us cut 0 = (enc us).take cut := by simp [restC]
        have e2 : badC cut 0 = false := by simp [badC]
        rw [e1, e2]
        exact hrd
      clear hnu hrd hb1
      generalize wr.heap.size = g at *
      go_wp2_with fail
      go_loopw [9] (fun i wr => ∃ k : Nat, k ≤ n ∧ i = .int .i64 k ∧ Rd wr p g (restC us cut k) (badC cut k) ∧ Below w.heap.size w wr) (fun i _ => n - (intOf i).toNat)
      case atStart => exact ⟨0, by omega, rfl, hrd0, hnx1⟩
      case round =>
        obtain ⟨k, hk, rfl, hrk, hnk⟩ := hrel
        have hlk := restC_length hcl k
        have hll : (restC us cut k).length ≤ 1000000 := by omega
        have hlb := restC_lt us cut k
        obtain ⟨hs1, hs2⟩ := restC_step hcl k
        have HS1 := Lib.hid hs1
        have HS2 := Lib.hid hs2
        clear hs1 hs2 hlk
        by_cases hlt : k < n
        · have hk2 : k < us.length := by have := hn.out; omega
          have hc0 := HCELL.out k hk2
          have hc1 := (hnk.cell (p := ⟨ba, oa + k, none⟩) hlta).trans hc0
          clear hc0
          by_cases hA : 8 * (k + 1) ≤ cut
          · have hv := restC_num hcl hA hu
            have hbd : badC cut (k + 1) = false := by unfold badC; rw [show decide (8 * (k + 1) ≤ cut) = true from by simpa using hA]; rfl
            have K1 : (k : Int) < (cut : Int) / 8 := by omega
            have HV := Lib.hid hv
            have HB := Lib.hid hbd
            clear hv hbd
            go_wp2_with fail
            refine (u64r_any p g _ _ wr hrk hll hlb).mono ?_
            rintro e w2 ⟨rfl, hr2, ho2⟩
            rw [HS1.out, HS2.out, HB.out] at hr2
            rw [HV.out]
            have hnk2 := ho2.tob hnk hpw
            have hc2 := (hnk2.cell (p := ⟨ba, oa + k, none⟩) hlta).trans ((hnk.cell (p := ⟨ba, oa + k, none⟩) hlta).symm.trans hc1)
            generalize us.getD k 0 = v at *
            go_wp2_with fail
            refine (right_any p g _ _ w2 hr2).mono ?_
            rintro e w3 ⟨rfl, rfl⟩
            go_wp2_with fail
            go_roundw
            case rel => exact ⟨k + 1, by omega, by go_num, by rw [HB.out]; exact hr2, hnk2⟩
            case measure => simp [intOf]; omega
          · have hv := restC_zero hcl hA
            have hbd : badC cut (k + 1) = true := by unfold badC; rw [show decide (8 * (k + 1) ≤ cut) = false from by simpa using hA]; rfl
            have hle : restC us cut (k + 1) = [] := by unfold restC; rw [if_neg hA]
            have K1 : ¬ ((k : Int) < (cut : Int) / 8) := by omega
            have HV := Lib.hid hv
            have HB := Lib.hid hbd
            have HE := Lib.hid hle
            clear hv hbd hle
            go_wp2_with fail
            refine (u64r_any p g _ _ wr hrk hll hlb).mono ?_
            rintro e w2 ⟨rfl, hr2, ho2⟩
            rw [HS1.out, HS2.out, HB.out, HE.out] at hr2
            rw [HV.out]
            have hnk2 := ho2.tob hnk hpw
            go_wp2_with fail
            refine (right_any p g _ _ w2 hr2).mono ?_
            rintro e w3 ⟨rfl, rfl⟩
            go_wp2_with fail
            refine (left_any p g _ _ w2 hr2).mono ?_
            rintro e w3 ⟨rfl, rfl⟩
            go_wp2_with fail
            go_roundw
            case rel => exact ⟨k + 1, by omega, by go_num, by rw [HB.out, HE.out]; exact hr2, hnk2⟩
            case measure => simp [intOf]; omega
        · obtain rfl : n = k := by omega
          have hle : restC us cut n = [] := by unfold restC; rw [if_neg (by omega)]
          rw [hle] at hrk
          clear hle HS1 HS2 hll hlb
          go_wp2_with fail
          refine (u32r_any p g [] _ wr hrk (by simp) (by simp)).mono ?_
          rintro e w2 ⟨rfl, hr2, ho2⟩
          have hnk2 := ho2.tob hnk hpw
          rw [show rdN 4 [] = 0 from rfl]
          rw [show rdL 4 [] = [] from rfl] at hr2
          go_wp2_with fail
          refine (textr_any p g [] _ w2 hr2 (by simp) (by simp)).mono ?_
          rintro e w3 ⟨rfl, hr3, ho3⟩
          have hnk3 := ho3.tob hnk2 hpw
          rw [show str (txS []) = ⟨#[]⟩ from rfl]
          go_wp2_with fail
          refine (awake_any w3).mono ?_
          rintro e w4 ⟨rfl, hb4⟩
          have hnk4 := hnk3.trans (hb4.mono hnk3.size)
          go_wp2_with fail
          go_ret
          exact ⟨rfl, hnk4⟩

theorem cuts_any (a : Option Addr) (n c at' : Nat) (us : List Nat) (w : World) (hu : ∀ n ∈ us, n < 18446744073709551616) (hat : at' < 65536)
    (hn : Hid (n = us.length)) (hrow : Row64 w a us) :
    Calls Try.prog 6 #[.slice a n c, .int .u16 (at' : Int)] w fun e w' => e = .returned (.bool true) ∧ Below w.heap.size w w' := by
  by_cases h1 : 50 < n
  · go_enter Try.func6, Try.ntmps6
    go_wp2_with fail
    go_ret
    exact ⟨rfl, Below.refl _ _⟩
  by_cases h2 : n = 0
  · subst h2
    go_enter Try.func6, Try.ntmps6
    go_wp2_with fail
    go_ret
    exact ⟨rfl, Below.refl _ _⟩
  exact cuts_main a n c at' us w hu hat hn hrow (by omega) (by omega)
end Go.Proofs.Ytppboldeocjbhab
