/-
  The document's Words, walked.
-/
import Derived.Test.YtgledabcfonbeaaGreatDoorCkJ17
import Derived.Test.YtgledabcfonbeaaGreatDoorCkSmall
namespace Go.Proofs.YtgledabcfonbeaaGreatDoor.Df
open Go.RowKit Go.Maps Go.Proofs.YtgledabcfonbeaaGreatDoor

theorem by_n {c d : UInt8} (h : ¬ c = d) : ((c.toNat : Int) == (d.toNat : Int)) = false := by
  rw [beq_eq_false_iff_ne]
  intro e
  exact h (UInt8.toNat_inj.1 (by omega))
/-- words that are whole, and the beginning of one, at a place -/
def WI (s : Bs) (j a : Nat) (W : List Bs) : Prop := (j ≤ s.length → words [] s = W ++ words ((s.take j).drop a) (s.drop j)) ∧ (s.length < j → words [] s = W)
theorem WI.start (s : Bs) : WI s 0 0 [] := ⟨fun _ => by simp, fun h => absurd h (by omega)⟩
theorem WI.chr {s W : _} {j a : Nat} {c : UInt8} (h : WI s j a W) (hx : s[j]? = some c) (ha : a ≤ j) (hc : c ≠ 32) : WI s (j + 1) a W := by
  have hj := (List.getElem?_eq_some_iff.1 hx).1
  refine ⟨fun _ => ?_, fun h2 => by omega⟩
  have e1 : s.drop j = c :: s.drop (j + 1) := by rw [List.drop_eq_getElem_cons hj]; rw [List.getElem?_eq_getElem hj] at hx; rw [Option.some.inj hx]
  have e2 : (s.take (j + 1)).drop a = (s.take j).drop a ++ [c] := by
    rw [List.take_add_one, hx, List.drop_append_of_le_length (by rw [List.length_take]; omega)]
    rfl
  rw [h.1 (by omega), e1, words, if_neg hc, e2]
theorem WI.sep {s W : _} {j a : Nat} (h : WI s j a W) (hx : s[j]? = some 32) : WI s (j + 1) (j + 1) (W ++ fl ((s.take j).drop a)) := by
  have hj := (List.getElem?_eq_some_iff.1 hx).1
  refine ⟨fun _ => ?_, fun h2 => by omega⟩
  have e1 : s.drop j = 32 :: s.drop (j + 1) := by rw [List.drop_eq_getElem_cons hj]; rw [List.getElem?_eq_getElem hj] at hx; rw [Option.some.inj hx]
  have e2 : (s.take (j + 1)).drop (j + 1) = [] := List.drop_eq_nil_of_le (by rw [List.length_take]; omega)
  rw [h.1 (by omega), e1, words, if_pos rfl, e2, List.append_assoc]
theorem WI.last {s W : _} {a : Nat} (h : WI s s.length a W) : WI s (s.length + 1) (s.length + 1) (W ++ fl ((s.take s.length).drop a)) := by
  refine ⟨fun h2 => by omega, fun _ => ?_⟩
  have e1 : s.drop s.length = [] := List.drop_eq_nil_of_le (Nat.le_refl _)
  rw [h.1 (Nat.le_refl _), e1]
  rfl
theorem fl_cut {s : Bs} {j a : Nat} (hj : j ≤ s.length) : (a < j → fl ((s.take j).drop a) = [(s.take j).drop a]) ∧ (¬ a < j → fl ((s.take j).drop a) = []) := by
  constructor
  · intro h
    unfold fl
    rw [if_neg]
    intro e
    have := congrArg List.length e
    rw [List.length_drop, List.length_take] at this
    simp at this
    omega
  · intro h
    unfold fl
    rw [if_pos]
    exact List.drop_eq_nil_of_le (by rw [List.length_take]; omega)
theorem cut_mk (s : Bs) (a j : Nat) : (mk s).extract a j = mk ((s.take j).drop a) := by
  rw [mk_extract]
  rw [List.drop_take]

set_option maxRecDepth 100000 in
set_option maxHeartbeats 4000000 in
theorem words_rc {w : World} {s : Bs} (hs : s.length ≤ 1000000) :
    Calls Tryz.prog 14 #[.string (mk s)] w fun e w' => ∃ (a : Option Addr) (c : Nat), e = .returned (.slice a (words [] s).length c) ∧ w'.ownsRow w.heap.size 9 1 (.slice a (words [] s).length c) (words [] s).length (strV (words [] s)) ∧ Below w.heap.size w w' := by
  have hz := mk_size s
  obtain ⟨R, hR⟩ : ∃ R, words [] s = R := ⟨_, rfl⟩
  rw [hR]
  have HR := Lib.hid hR
  clear hR
  go_enter Tryz.func14, Tryz.ntmps14
  go_wp2_with fail
  go_loopw [3, 4, 5] (fun o at_ i wr => ∃ (j a : Nat) (W : List Bs) (oa : Option Addr) (oc : Nat), j ≤ s.length + 1 ∧ a ≤ j ∧ i = .int .i64 j ∧ at_ = .int .i64 a ∧ o = .slice oa W.length oc ∧ Hid (W.length ≤ j) ∧ Hid (WI s j a W) ∧ Hid (wr.ownsRow w.heap.size 9 1 (.slice oa W.length oc) W.length (strV W)) ∧ Hid (Below w.heap.size w wr)) (fun _ _ i _ => s.length + 2 - (intOf i).toNat)
  case atStart => exact ⟨0, 0, [], none, 0, Nat.zero_le _, Nat.le_refl _, rfl, rfl, rfl, Lib.hid (Nat.le_refl _), Lib.hid (WI.start s), Lib.hid (World.ownsRow_nil _ _ _ _), Lib.hid (Below.refl _ _)⟩
  case round =>
    obtain ⟨j, a, W, oa, oc, hj, ha, rfl, rfl, rfl, hWl, hWI, hO, hB⟩ := hrel
    by_cases hlt : j < s.length
    · obtain ⟨b, hx⟩ : ∃ b, s[j]? = some b := ⟨_, List.getElem?_eq_getElem hlt⟩
      have hlz : j < (mk s).size := by rw [hz]; exact hlt
      have hb := byte_at (mk s) hlz
      rw [mk_bytes, hx] at hb
      have hb := Option.some.inj hb
      have d1 : ((j : Int) == ((mk s).size : Int)) = false := by rw [beq_eq_false_iff_ne, hz]; omega
      have d3 : (j : Int) ≤ ((mk s).size : Int) := by rw [hz]; omega
      by_cases hc : b = 32
      · have f1 : (((mk s)[j].toNat : Int) == 32) = true := by rw [← hb, hc]; rfl
        have hn := hWI.out.sep (by rw [hx, hc])
        by_cases haj : a < j
        · rw [(fl_cut (s := s) (j := j) (a := a) (by omega)).1 haj] at hn
          have hcut := cut_mk s a j
          have d2 : (a : Int) < (j : Int) := by omega
          generalize (s.take j).drop a = p at *
          obtain ⟨a1, c1, w1, hrun, hR1, hB1⟩ := push_c p hO.out rfl hB.out (by have := hWl.out; omega)
          have HRUN := Lib.hid hrun
          have HR1 := Lib.hid hR1
          have HB1 := Lib.hid hB1
          have HN := Lib.hid hn
          clear hn hx hb hc hrun hR1 hB1
          go_wp2_with (at_builtin; refine wpList_run rfl (.tmp 25) (.tmp 30) rfl rfl rfl HRUN.out ?_)
          go_roundw
          case rel => exact ⟨j + 1, j + 1, W ++ [p], a1, c1, by omega, by omega, by go_num, by go_num, by simp, Lib.hid (by have := hWl.out; simp; omega), HN, HR1, HB1⟩
          case measure => simp [intOf] <;> omega
        · rw [(fl_cut (s := s) (j := j) (a := a) (by omega)).2 haj, List.append_nil] at hn
          have d2 : ¬ (a : Int) < (j : Int) := by omega
          have HN := Lib.hid hn
          clear hn hx hb hc
          go_wp2_with fail
          go_roundw
          case rel => exact ⟨j + 1, j + 1, W, oa, oc, by omega, by omega, by go_num, by go_num, rfl, Lib.hid (by have := hWl.out; omega), HN, hO, hB⟩
          case measure => simp [intOf] <;> omega
      · have f1 : (((mk s)[j].toNat : Int) == 32) = false := by rw [← hb]; exact by_n hc
        have HN := Lib.hid (hWI.out.chr hx ha hc)
        clear hx hb hc
        go_wp2_with fail
        go_roundw
        case rel => exact ⟨j + 1, a, W, oa, oc, by omega, by omega, by go_num, rfl, rfl, Lib.hid (by have := hWl.out; omega), HN, hO, hB⟩
        case measure => simp [intOf] <;> omega
    · by_cases he : j = s.length
      · subst he
        have d1 : ((s.length : Int) == ((mk s).size : Int)) = true := by rw [beq_iff_eq, hz]
        have d3 : (s.length : Int) ≤ ((mk s).size : Int) := by rw [hz]; omega
        have hn := hWI.out.last
        by_cases haj : a < s.length
        · rw [(fl_cut (s := s) (j := s.length) (a := a) (by omega)).1 haj] at hn
          have hcut := cut_mk s a s.length
          have d2 : (a : Int) < (s.length : Int) := by omega
          generalize (s.take s.length).drop a = p at *
          obtain ⟨a1, c1, w1, hrun, hR1, hB1⟩ := push_c p hO.out rfl hB.out (by have := hWl.out; omega)
          have HRUN := Lib.hid hrun
          have HR1 := Lib.hid hR1
          have HB1 := Lib.hid hB1
          have HN := Lib.hid hn
          clear hn hrun hR1 hB1
          go_wp2_with (at_builtin; refine wpList_run rfl (.tmp 25) (.tmp 30) rfl rfl rfl HRUN.out ?_)
          go_roundw
          case rel => exact ⟨s.length + 1, s.length + 1, W ++ [p], a1, c1, by omega, by omega, by go_num, by go_num, by simp, Lib.hid (by have := hWl.out; simp; omega), HN, HR1, HB1⟩
          case measure => simp [intOf] <;> omega
        · rw [(fl_cut (s := s) (j := s.length) (a := a) (by omega)).2 haj, List.append_nil] at hn
          have d2 : ¬ (a : Int) < (s.length : Int) := by omega
          have HN := Lib.hid hn
          clear hn
          go_wp2_with fail
          go_roundw
          case rel => exact ⟨s.length + 1, s.length + 1, W, oa, oc, by omega, by omega, by go_num, by go_num, rfl, Lib.hid (by have := hWl.out; omega), HN, hO, hB⟩
          case measure => simp [intOf] <;> omega
      · obtain rfl : j = s.length + 1 := by omega
        have d3 : ¬ ((s.length + 1 : Nat) : Int) ≤ ((mk s).size : Int) := by rw [hz]; omega
        have hW : W = R := (hWI.out.2 (by omega)).symm.trans HR.out
        have HW := Lib.hid hW
        clear hW
        go_wp2_with fail
        go_ret
        obtain rfl := HW.out
        exact ⟨oa, oc, rfl, hO.out, hB.out⟩
end Go.Proofs.YtgledabcfonbeaaGreatDoor.Df

/-! The document's Hash and Hex, walked; what a line includes. -/
namespace Go.Proofs.YtgledabcfonbeaaGreatDoor.Df
open Go.RowKit Go.Maps Go.Proofs.YtgledabcfonbeaaGreatDoor

theorem hash_step (n x : Nat) (hn : n < 18446744073709551616) (hx : x < 256) :
    IntKind.u64.wrap (IntKind.u64.wrap ((n : Int) - (n : Int) % 256 + bits BinOp.xor IntKind.u64 ((n : Int) % 256) (x : Int)) * 1099511628211) = ((((n ^^^ x) * 1099511628211) % 18446744073709551616 : Nat) : Int) := by
  have e1 : (n : Int) % 256 = ((n % 256 : Nat) : Int) := by omega
  have e2 : ((n % 256) ^^^ x) < 256 := Nat.xor_lt_two_pow (n := 8) (by omega) (by omega)
  have e3 : n ^^^ x = n - n % 256 + ((n % 256) ^^^ x) := by
    have hm : (n ^^^ x) % 256 = (n % 256) ^^^ x := by
      have := Nat.xor_mod_two_pow (a := n) (b := x) (n := 8)
      simp only [Nat.reducePow] at this
      rw [this, show x % 256 = x from by omega]
    have hd : (n ^^^ x) / 256 = n / 256 := by
      have := Nat.shiftRight_xor_distrib (a := n) (b := x) (i := 8)
      simp only [Nat.shiftRight_eq_div_pow, Nat.reducePow] at this
      rw [this, show x / 256 = 0 from by omega, Nat.xor_zero]
    omega
  rw [e1, u64_xor_nat _ _ (by omega) (by omega), IntKind.wrap_u64, IntKind.wrap_u64, e3]
  omega

set_option maxRecDepth 100000 in
set_option maxHeartbeats 4000000 in
theorem refHash_c {w : World} {v : Value} {b : Bs} (hby : Byt w v b) (hl : b.length ≤ 9223372036854775807) :
    Calls Tryz.prog 40 #[v] w fun e w' => e = .returned (.int .u64 (hashN b : Int)) ∧ w = w' := by
  have H := Lib.hid hby
  have HZ : Hid (Value.int .u64 14695981039346656037 = .int .u64 (hashK b 0 : Int)) := Lib.hid (by rw [hashK_zero]; rfl)
  obtain ⟨a, cap, rfl, -, -, -⟩ := hby
  go_enter Tryz.func40, Tryz.ntmps40
  go_wp2_with fail
  go_loop [3, 4] (fun u i => ∃ k : Nat, k ≤ b.length ∧ i = .int .i64 k ∧ u = .int .u64 (hashK b k : Int)) (fun _ i => b.length - (intOf i).toNat)
  case atStart => exact ⟨0, Nat.zero_le _, rfl, HZ.out⟩
  case round =>
    obtain ⟨k, hk, rfl, rfl⟩ := hrel
    by_cases hlt : k < b.length
    · obtain ⟨x, hx⟩ : ∃ x, b[k]? = some x := ⟨_, List.getElem?_eq_getElem hlt⟩
      have hnext := hashK_succ hx
      have hn := hashK_lt b k
      obtain ⟨a0, c0, e, -, -, hrow⟩ := H.out
      cases e
      have hg : ∃ g off, a = some ⟨g, off, none⟩ ∧ w.cell? ⟨g, off + k, none⟩ = some (.int .u8 (x.toNat : Int)) := by
        rcases hrow with h | ⟨g, off, e, _, hcell⟩
        · rw [h] at hlt; exact absurd hlt (Nat.not_lt_zero _)
        · exact ⟨g, off, e, hcell k x hx⟩
      obtain ⟨g, off, rfl, ck⟩ := hg
      have hi0 : (0 : Int) ≤ (k : Int) := by omega
      have hi1 : (k : Int) < (b.length : Int) := by omega
      have hx2 : x.toNat < 256 := x.toNat_lt
      have hst := hash_step (hashK b k) x.toNat hn hx2
      have HN : Hid (((((hashK b k ^^^ x.toNat) * 1099511628211) % 18446744073709551616 : Nat) : Int) = (hashK b (k + 1) : Int)) := Lib.hid (by rw [hnext]; rfl)
      have HST := Lib.hid hst
      clear hrow hx hnext hst
      generalize hashK b k = n at *
      generalize x.toNat = x at *
      go_wp2_with fail
      go_round
      case rel => exact ⟨k + 1, by omega, by go_num, val_eq (by rw [HST.out, HN.out])⟩
      case measure => simp [intOf] <;> omega
    · obtain rfl : k = b.length := by omega
      rw [hashK_end]
      go_wp2_with fail
      go_ret
      exact ⟨rfl, rfl⟩

/-! ### sixteen figures -/
def hexF : Nat → Nat → Bs → Bs
  | 0, _, acc => acc
  | f + 1, n, acc => hexF f (n / 16) (dg (n % 16) :: acc)
theorem hexF_zero : ∀ (f : Nat) (acc : Bs), hexF f 0 acc = List.replicate f 48 ++ acc
  | 0, _ => rfl
  | f + 1, acc => by
    show hexF f 0 (48 :: acc) = _
    rw [hexF_zero f, List.replicate_succ']
    simp
theorem hexF_G : ∀ (f u : Nat) (acc : Bs), ∃ m, m ≤ f ∧ (hexG f u acc).length = acc.length + m ∧ hexF f u acc = List.replicate (f - m) 48 ++ hexG f u acc
  | 0, _, acc => ⟨0, Nat.le_refl _, rfl, rfl⟩
  | f + 1, u, acc => by
    show ∃ m, m ≤ f + 1 ∧ (if 16 ≤ u then hexG f (u / 16) (dg (u % 16) :: acc) else dg u :: acc).length = acc.length + m ∧ hexF f (u / 16) (dg (u % 16) :: acc) = List.replicate (f + 1 - m) 48 ++ (if 16 ≤ u then hexG f (u / 16) (dg (u % 16) :: acc) else dg u :: acc)
    by_cases h : 16 ≤ u
    · rw [if_pos h]
      obtain ⟨m, h1, h2, h3⟩ := hexF_G f (u / 16) (dg (u % 16) :: acc)
      refine ⟨m + 1, by omega, by rw [h2, List.length_cons]; omega, ?_⟩
      rw [h3]
      congr 2
      omega
    · rw [if_neg h, show u / 16 = 0 by omega, show u % 16 = u by omega, hexF_zero]
      exact ⟨1, by omega, rfl, by rw [Nat.add_sub_cancel]⟩
theorem hexF_hash (r : Bs) : hexF 16 (hashN r) [] ++ [10] = hashT r := by
  obtain ⟨m, -, h2, h3⟩ := hexF_G 16 (hashN r) []
  have h4 : m = (hexB (hashN r)).length := by
    unfold hexB
    rw [h2]
    simp
  rw [h3, h4]
  rfl
/-- a round more -/
theorem hexF_step (k n : Nat) (h : k < 16) (acc : Bs) (R : Bs) (hR : hexF (16 - k) n acc = R) : hexF (16 - (k + 1)) (n / 16) (dg (n % 16) :: acc) = R := by
  obtain ⟨f, hf⟩ : ∃ f, 16 - k = f + 1 := ⟨15 - k, by omega⟩
  rw [hf] at hR
  rw [show 16 - (k + 1) = f by omega]
  exact hR
theorem dig_ex {d : Nat} (h : d < 16) : (⟨#[48, 49, 50, 51, 52, 53, 54, 55, 56, 57, 97, 98, 99, 100, 101, 102]⟩ : ByteArray).extract d (d + 1) = mk [dg d] := by
  have : d = 0 ∨ d = 1 ∨ d = 2 ∨ d = 3 ∨ d = 4 ∨ d = 5 ∨ d = 6 ∨ d = 7 ∨ d = 8 ∨ d = 9 ∨ d = 10 ∨ d = 11 ∨ d = 12 ∨ d = 13 ∨ d = 14 ∨ d = 15 := by omega
  rcases this with rfl | rfl | rfl | rfl | rfl | rfl | rfl | rfl | rfl | rfl | rfl | rfl | rfl | rfl | rfl | rfl <;> rfl

set_option maxRecDepth 100000 in
set_option maxHeartbeats 4000000 in
theorem refHex_c (n : Nat) (hn : n < 18446744073709551616) (w : World) :
    Calls Tryz.prog 39 #[.int .u64 (n : Int)] w fun e w' => e = .returned (.string (mk (hexF 16 n []))) ∧ w = w' := by
  obtain ⟨R, hR⟩ : ∃ R, hexF 16 n [] = R := ⟨_, rfl⟩
  rw [hR]
  have HR := Lib.hid hR
  clear hR
  go_enter Tryz.func39, Tryz.ntmps39
  go_wp2_with fail
  go_loop [0, 3, 4] (fun nv s i => ∃ (k m : Nat) (acc : Bs), k ≤ 16 ∧ i = .int .i64 k ∧ nv = .int .u64 (m : Int) ∧ s = .string (mk acc) ∧ Hid (m < 18446744073709551616 ∧ acc.length = k ∧ hexF (16 - k) m acc = R)) (fun _ _ i => 16 - (intOf i).toNat)
  case atStart => exact ⟨0, n, [], Nat.zero_le _, rfl, rfl, rfl, Lib.hid ⟨hn, rfl, HR.out⟩⟩
  case round =>
    obtain ⟨k, m, acc, hk, rfl, rfl, rfl, hH⟩ := hrel
    by_cases hlt : k < 16
    · obtain ⟨d, hd⟩ : ∃ d, m % 16 = d := ⟨_, rfl⟩
      obtain ⟨q, hq⟩ : ∃ q, m / 16 = q := ⟨_, rfl⟩
      have hd16 : d < 16 := by omega
      have e1 : (m : Int) % 16 = (d : Int) := by omega
      have e2 : (m : Int) / 16 = (q : Int) := by omega
      have e3 : IntKind.u64.wrap ((d : Int) + 1) = (d : Int) + 1 := by rw [IntKind.wrap_u64]; omega
      have e4 := dig_ex hd16
      have e5 : mk [dg d] ++ mk acc = mk (dg d :: acc) := mk_append [dg d] acc
      have z1 := mk_size acc
      have z2 : (mk [dg d]).size = 1 := mk_size [dg d]
      have HN : Hid (q < 18446744073709551616 ∧ (dg d :: acc).length = k + 1 ∧ hexF (16 - (k + 1)) q (dg d :: acc) = R) := Lib.hid (by
        obtain ⟨h1, h2, h3⟩ := hH.out
        refine ⟨by omega, by rw [List.length_cons, h2], ?_⟩
        have := hexF_step k m hlt acc R h3
        rw [hd, hq] at this
        exact this)
      have hlen : acc.length ≤ 16 := by have := hH.out.2.1; omega
      have hk2 : (k : Int) < 16 := by omega
      clear hd hq
      go_wp2_with fail
      go_round
      case rel => exact ⟨k + 1, q, dg d :: acc, by omega, by go_num, val_eq (by have := HN.out.1; rw [IntKind.wrap_u64]; omega), rfl, HN⟩
      case measure => simp [intOf] <;> omega
    · obtain rfl : k = 16 := by omega
      have HE : Hid (acc = R) := Lib.hid (by have := hH.out.2.2; exact this)
      go_wp2_with fail
      go_ret
      rw [HE.out]
      exact ⟨rfl, rfl⟩
end Go.Proofs.YtgledabcfonbeaaGreatDoor.Df

/-! Find, the document's Find, and the law CookFinds. -/
namespace Go.Proofs.YtgledabcfonbeaaGreatDoor.Df
open Go.RowKit Go.Maps Go.Proofs.YtgledabcfonbeaaGreatDoor

def isN (s : Bs) (x : Fl) : Bool := decide (x.1 = s)
theorem find_at {L : List Fl} {s : Bs} {j : Nat} {x : Fl} (hx : L[j]? = some x) (h0 : (L.take j).find? (isN s) = none) (h1 : x.1 = s) : fileL L s = some x.2 := by
  have e : L = L.take (j + 1) ++ L.drop (j + 1) := (List.take_append_drop _ _).symm
  have e2 : L.take (j + 1) = L.take j ++ [x] := by rw [List.take_add_one, hx]; rfl
  have h2 : L.find? (isN s) = some x := by
    rw [e, e2, List.find?_append, List.find?_append, h0]
    have h3 : [x].find? (isN s) = some x := by
      rw [List.find?_cons]
      unfold isN
      rw [decide_eq_true h1]
    rw [h3]
    rfl
  unfold fileL
  have h4 : L.find? (fun x => decide (x.1 = s)) = some x := h2
  rw [h4]
  rfl
theorem find_next {L : List Fl} {s : Bs} {j : Nat} {x : Fl} (hx : L[j]? = some x) (h0 : (L.take j).find? (isN s) = none) (h1 : ¬ x.1 = s) : (L.take (j + 1)).find? (isN s) = none := by
  have e2 : L.take (j + 1) = L.take j ++ [x] := by rw [List.take_add_one, hx]; rfl
  rw [e2, List.find?_append, h0, List.find?_cons]
  unfold isN
  rw [decide_eq_false h1]
  rfl
theorem find_end {L : List Fl} {s : Bs} (h0 : (L.take L.length).find? (isN s) = none) : fileL L s = none := by
  rw [List.take_length] at h0
  unfold fileL
  have h4 : L.find? (fun x => decide (x.1 = s)) = none := h0
  rw [h4]
  rfl
theorem eq_mk {a b : Bs} : ((mk a).toList == (mk b).toList) = decide (a = b) := by
  rw [mk_toList, mk_toList]
  exact Bool.eq_iff_iff.2 (by rw [beq_iff_eq, decide_eq_true_iff])

/-- bytes that were found, or none -/
def FiQ (w : World) (o : Option Bs) (e : Ending) (w' : World) : Prop :=
  (∃ u b, e = .returned (.tuple #[u, .bool o.isSome]) ∧ Byt w' u b ∧ b = o.getD []) ∧ Below w.heap.size w w'

set_option maxRecDepth 100000 in
set_option maxHeartbeats 4000000 in
theorem find_c {w : World} {v : Value} {L : List Fl} {U : List Value} (h : Fls w v L U) (hln : L.length ≤ 1000000) (hb : ∀ x ∈ L, x.2.length ≤ 1000000) (s : Bs) :
    Calls Tryz.prog 9 #[v, .string (mk s)] w (FiQ w (fileL L s)) := by
  have H := Lib.hid h
  have HBL := Lib.hid hb
  obtain ⟨o, ho⟩ : ∃ o, fileL L s = o := ⟨_, rfl⟩
  rw [ho]
  have HOO := Lib.hid ho
  obtain ⟨-, a, c, rfl, -, -⟩ := h
  clear hb ho
  go_enter Tryz.func9, Tryz.ntmps9
  go_wp2_with fail
  go_loopw [7, 10] (fun _ i wr => ∃ j : Nat, j ≤ L.length ∧ i = .int .i64 j ∧ Hid ((L.take j).find? (isN s) = none) ∧ Hid (Below w.heap.size w wr)) (fun _ i _ => L.length - (intOf i).toNat)
  case atStart => exact ⟨0, Nat.zero_le _, rfl, Lib.hid (by simp), Lib.hid (Below.refl _ _)⟩
  case round =>
    obtain ⟨j, hj, rfl, hA, hB⟩ := hrel
    by_cases hlt : j < L.length
    · have hx := List.getElem?_eq_getElem hlt
      have hbl := HBL.out _ (List.getElem_mem hlt)
      generalize L[j] = x at *
      obtain ⟨g, off, c2, ua, uc, e, hg, -, c0w, c1w, hbyw⟩ := H.out.at hx
      cases e
      have c0 := (cell_of_block (hB.out.block _ hg)).trans c0w
      have c1 := (cell_of_block (hB.out.block _ hg)).trans c1w
      have hi0 : (0 : Int) ≤ (j : Int) := by omega
      have hi1 : (j : Int) < (L.length : Int) := by omega
      have HX := Lib.hid hx
      obtain ⟨W1, hW1⟩ : ∃ W, wr.alloc (.cells #[.string (mk x.1), .slice ua x.2.length uc] 52) = W := ⟨_, rfl⟩
      have hb1 : Below wr.heap.size wr W1 := by rw [← hW1]; exact below_alloc _ _
      have n1 : W1.heap[wr.heap.size]? = some (.cells #[.string (mk x.1), .slice ua x.2.length uc] 52 (0, 0)) := by rw [← hW1]; exact heap_alloc_new _ _
      have d0 : W1.cell? ⟨wr.heap.size, 0, none⟩ = some (.string (mk x.1)) := cell_of_heap n1
      have d1 : W1.cell? ⟨wr.heap.size, 1, none⟩ = some (.slice ua x.2.length uc) := cell_of_heap n1
      have HB1 := Lib.hid (hB.out.trans (hb1.mono hB.out.size))
      have HY := Lib.hid (hbyw.below HB1.out)
      clear hx hbyw c0w c1w hb1 n1
      by_cases hs : x.1 = s
      · have e1 : ((mk x.1).toList == (mk s).toList) = true := by rw [eq_mk]; exact decide_eq_true hs
        have HR : Hid (o = some x.2) := Lib.hid (HOO.out.symm.trans (find_at HX.out hA.out hs))
        have cc := cloneB_c HY.out hbl
        clear hs
        go_wp2_with fail
        refine cc.mono ?_
        rintro e w2 ⟨v2, rfl, ho2, hb2⟩
        have HO2 := Lib.hid ho2
        have HB2 := Lib.hid (HB1.out.trans (hb2.mono HB1.out.size))
        clear cc ho2 hb2
        go_wp2_with fail
        go_ret2
        rw [HR.out]
        exact ⟨⟨_, x.2, rfl, owns_byt HO2.out, rfl⟩, HB2.out⟩
      · have e1 : ((mk x.1).toList == (mk s).toList) = false := by rw [eq_mk]; exact decide_eq_false hs
        have HN : Hid ((L.take (j + 1)).find? (isN s) = none) := Lib.hid (find_next HX.out hA.out hs)
        clear hs
        go_wp2_with fail
        go_roundw
        case rel => exact ⟨j + 1, by omega, by go_num, HN, HB1⟩
        case measure => simp [intOf] <;> omega
    · obtain rfl : j = L.length := by omega
      have HR : Hid (o = none) := Lib.hid (HOO.out.symm.trans (find_end hA.out))
      go_wp2_with fail
      go_ret2
      rw [HR.out]
      exact ⟨⟨_, [], rfl, Byt.nil _, rfl⟩, hB.out⟩

set_option maxRecDepth 100000 in
set_option maxHeartbeats 4000000 in
theorem refFind_c {w : World} {v : Value} {L : List Fl} {U : List Value} (h : Fls w v L U) (hln : L.length ≤ 1000000) (s : Bs) :
    Calls Tryz.prog 11 #[v, .string (mk s)] w (FiQ w (fileL L s)) := by
  have H := Lib.hid h
  obtain ⟨o, ho⟩ : ∃ o, fileL L s = o := ⟨_, rfl⟩
  rw [ho]
  have HOO := Lib.hid ho
  obtain ⟨-, a, c, rfl, -, -⟩ := h
  clear ho
  go_enter Tryz.func11, Tryz.ntmps11
  go_wp2_with fail
  go_loopw [6] (fun i wr => ∃ j : Nat, j ≤ L.length ∧ i = .int .i64 j ∧ Hid ((L.take j).find? (isN s) = none) ∧ Hid (Below w.heap.size w wr)) (fun i _ => L.length - (intOf i).toNat)
  case atStart => exact ⟨0, Nat.zero_le _, rfl, Lib.hid (by simp), Lib.hid (Below.refl _ _)⟩
  case round =>
    obtain ⟨j, hj, rfl, hA, hB⟩ := hrel
    by_cases hlt : j < L.length
    · have hx := List.getElem?_eq_getElem hlt
      generalize L[j] = x at *
      obtain ⟨g, off, c2, ua, uc, e, hg, -, c0w, c1w, hbyw⟩ := H.out.at hx
      cases e
      have c0 := (cell_of_block (hB.out.block _ hg)).trans c0w
      have c1 := (cell_of_block (hB.out.block _ hg)).trans c1w
      have hi0 : (0 : Int) ≤ (j : Int) := by omega
      have hi1 : (j : Int) < (L.length : Int) := by omega
      have HX := Lib.hid hx
      have HY := Lib.hid (hbyw.below hB.out)
      clear hx hbyw c0w c1w
      by_cases hs : x.1 = s
      · have e1 : ((mk x.1).toList == (mk s).toList) = true := by rw [eq_mk]; exact decide_eq_true hs
        have HR : Hid (o = some x.2) := Lib.hid (HOO.out.symm.trans (find_at HX.out hA.out hs))
        clear hs
        go_wp2_with fail
        go_ret2
        rw [HR.out]
        exact ⟨⟨_, x.2, rfl, HY.out, rfl⟩, hB.out⟩
      · have e1 : ((mk x.1).toList == (mk s).toList) = false := by rw [eq_mk]; exact decide_eq_false hs
        have HN : Hid ((L.take (j + 1)).find? (isN s) = none) := Lib.hid (find_next HX.out hA.out hs)
        clear hs
        go_wp2_with fail
        go_roundw
        case rel => exact ⟨j + 1, by omega, by go_num, HN, hB⟩
        case measure => simp [intOf] <;> omega
    · obtain rfl : j = L.length := by omega
      have HR : Hid (o = none) := Lib.hid (HOO.out.symm.trans (find_end hA.out))
      go_wp2_with fail
      go_ret2
      rw [HR.out]
      exact ⟨⟨_, [], rfl, Byt.nil _, rfl⟩, hB.out⟩

set_option maxRecDepth 100000 in
set_option maxHeartbeats 4000000 in
theorem findsW_c {w : World} {v : Value} {L : List Fl} {U : List Value} (h : Fls w v L U) (hl : L.length ≤ 9223372036854775807) (s : Bs) :
    Calls Tryz.prog 3 #[v, .string (mk s)] w fun e w' => e = .returned (.bool true) ∧ Below w.heap.size w w' := by
  have H := Lib.hid h
  have cl := light_c h hl
  obtain ⟨z, hz⟩ : ∃ z, lightL L = z := ⟨_, rfl⟩
  rw [hz] at cl
  have hsz := mk_size s
  have hv : ∃ a c, v = .slice a L.length c := by obtain ⟨-, a, c, e, -⟩ := h; exact ⟨a, c, e⟩
  obtain ⟨a, c, rfl⟩ := hv
  cases z with
  | false =>
    clear hz h
    go_enter Tryz.func3, Tryz.ntmps3
    go_wp2_with fail
    refine cl.mono ?_
    rintro e w1 ⟨rfl, rfl⟩
    clear cl
    go_wp2_with fail
    go_ret
    exact ⟨rfl, Below.refl _ _⟩
  | true =>
    by_cases h200 : s.length ≤ 200
    · have hl10 : L.length ≤ 10 ∧ ∀ x ∈ L, x.2.length ≤ 200 := by
        unfold lightL at hz
        rw [Bool.and_eq_true, decide_eq_true_iff, List.all_eq_true] at hz
        refine ⟨hz.1, fun x hx => ?_⟩
        have := hz.2 x hx
        unfold shortF at this
        rw [Bool.and_eq_true, decide_eq_true_iff] at this
        exact this.1
      have HL := Lib.hid hl10
      have co := of_c h (by omega) (fun x hx => by have := hl10.2 x hx; omega)
      have d2 : ¬ (200 : Int) < ((mk s).size : Int) := by rw [hsz]; omega
      have d4 : decide ((200 : Int) < ((mk s).size : Int)) = false := decide_eq_false d2
      clear hz hl10 h hsz
      go_enter Tryz.func3, Tryz.ntmps3
      go_wp2_with fail
      refine cl.mono ?_
      rintro e w1 ⟨rfl, rfl⟩
      clear cl
      go_wp2_with fail
      refine co.mono ?_
      rintro e w2 ⟨v2, rfl, hown, hb2⟩
      obtain ⟨U2, hf2, -⟩ := hown.fls
      have cf := find_c hf2 (by have := HL.out.1; omega) (fun x hx => by have := HL.out.2 x hx; omega) s
      have HB2 := Lib.hid hb2
      clear co hown hb2 hf2
      go_wp2_with fail
      refine cf.mono ?_
      rintro e w3 ⟨⟨u, b, rfl, hby, hbo⟩, hb3⟩
      have HB3 := Lib.hid (HB2.out.trans (hb3.mono HB2.out.size))
      have cr := refFind_c (H.out.below HB3.out) (by have := HL.out.1; omega) s
      have HY := Lib.hid hby
      have HBO := Lib.hid hbo
      clear cf hb3 hby hbo
      generalize fileL L s = o at *
      go_wp2_with fail
      refine cr.mono ?_
      rintro e w4 ⟨⟨u2, b2, rfl, hby2, hbo2⟩, hb4⟩
      have HB4 := Lib.hid (HB3.out.trans (hb4.mono HB3.out.size))
      obtain rfl : b2 = b := hbo2.trans HBO.out.symm
      have k1 := conv_byt (HY.out.below hb4)
      have k2 := conv_byt hby2
      have ca := awake_c w4
      clear cr hb4 hby2 hbo2
      go_wp2_with fail
      refine ca.mono ?_
      rintro e w5 ⟨rfl, hb5⟩
      have HB5 := Lib.hid (HB4.out.trans (hb5.mono HB4.out.size))
      clear ca hb5
      go_wp2_with fail
      go_ret
      exact ⟨rfl, HB5.out⟩
    · have d2 : (200 : Int) < ((mk s).size : Int) := by rw [hsz]; omega
      clear hz h hsz
      go_enter Tryz.func3, Tryz.ntmps3
      go_wp2_with fail
      refine cl.mono ?_
      rintro e w1 ⟨rfl, rfl⟩
      clear cl
      go_wp2_with fail
      go_ret
      exact ⟨rfl, Below.refl _ _⟩
end Go.Proofs.YtgledabcfonbeaaGreatDoor.Df
