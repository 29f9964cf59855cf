/-
  THE DOCUMENT's OWN Get: the last one of a name counts, level by level.
-/
import Derived.Test.YtbohnjiachnadaaScopeBackW
namespace Go.Proofs.Ytbohnjiachnadaa.Sc
open Go.RowKit Go.Maps

/-- the last text of a name -/
def lastOf (N T : List Bs) (l : Bs) : Option Bs := ((N.zip T).reverse.find? fun p => p.1 == l).map (·.2)

theorem lastOf_nil (l : Bs) : lastOf [] [] l = none := rfl
theorem lastOf_snoc {N T : List Bs} (h : N.length = T.length) (n t l : Bs) : lastOf (N ++ [n]) (T ++ [t]) l = if l = n then some t else lastOf N T l := by
  unfold lastOf
  rw [List.zip_append h, List.reverse_append]
  show ((n, t) :: (N.zip T).reverse |>.find? _).map _ = _
  rw [List.find?_cons]
  by_cases hl : l = n
  · subst hl; simp
  · rw [if_neg hl]
    have : (n == l) = false := by simpa using fun e => hl e.symm
    simp [this]

theorem rev_ind {α : Type} {P : List α → Prop} (h0 : P []) (hs : ∀ L x, P L → P (L ++ [x])) (L : List α) : P L := by
  rw [← List.reverse_reverse L]
  induction L.reverse with
  | nil => exact h0
  | cons x l ih => rw [List.reverse_cons]; exact hs _ _ ih

theorem fk_last (L : List S3) (k : Nat) (l : Bs) : fk L k l = lastOf (nk L k) (tk L k) l := by
  refine rev_ind (P := fun L => fk L k l = lastOf (nk L k) (tk L k) l) rfl (fun L x ih => ?_) L
  rw [fk_snoc, nk_snoc, tk_snoc]
  by_cases h : at3 x k = true
  · rw [if_pos h, if_pos h, if_pos h, lastOf_snoc (nk_tk L k)]
    unfold upd
    split
    · rfl
    · exact ih
  · rw [if_neg h, if_neg h, if_neg h]
    exact ih

theorem lastOf_at {N T : List Bs} (h : N.length = T.length) {k : Nat} {l t : Bs} (hn : N[k]? = some l) (ht : T[k]? = some t) (hno : ∀ i, k < i → N[i]? ≠ some l) : lastOf N T l = some t := by
  unfold lastOf
  have hk := (List.getElem?_eq_some_iff.1 hn).1
  have e : N.zip T = (N.zip T).take k ++ (l, t) :: (N.zip T).drop (k + 1) := by
    have hz : (N.zip T)[k]? = some (l, t) := by rw [List.getElem?_zip_eq_some]; exact ⟨hn, ht⟩
    obtain ⟨hlt, he⟩ := List.getElem?_eq_some_iff.1 hz
    have e3 := (List.take_append_drop k (N.zip T)).symm
    rw [List.drop_eq_getElem_cons hlt, he] at e3
    exact e3
  rw [e, List.reverse_append, List.reverse_cons, List.append_assoc, List.find?_append]
  have h1 : ((N.zip T).drop (k + 1)).reverse.find? (fun p => p.1 == l) = none := by
    rw [List.find?_eq_none]
    intro p hp
    rw [List.mem_reverse] at hp
    obtain ⟨i, hi, rfl⟩ := List.mem_iff_getElem.1 hp
    rw [List.length_drop, List.length_zip] at hi
    simp only [List.getElem_drop, List.getElem_zip, beq_iff_eq]
    intro e2
    exact hno (k + 1 + i) (by omega) (by rw [List.getElem?_eq_getElem (by omega), e2])
  rw [h1]
  simp

theorem lastOf_none {N T : List Bs} {l : Bs} (hno : ∀ i : Nat, N[i]? ≠ some l) : lastOf N T l = none := by
  unfold lastOf
  rw [Option.map_eq_none_iff, List.find?_eq_none]
  intro p hp
  rw [List.mem_reverse] at hp
  obtain ⟨i, hi, rfl⟩ := List.mem_iff_getElem.1 hp
  rw [List.length_zip] at hi
  simp only [List.getElem_zip, beq_iff_eq]
  intro e2
  exact hno i (by rw [List.getElem?_eq_getElem (by omega), e2])

def getR : List (List Bs × List Bs) → Bs → Bs
  | [], _ => []
  | (N, T) :: r, l => match lastOf N T l with
    | some t => t
    | none => getR r l

/-- the document's scopes in memory -/
def RefAt (w : World) (v : Value) (Ks : List (List Bs × List Bs)) : Prop :=
  ∃ a c, v = .slice a Ks.length c ∧ Ks.length ≤ c ∧ (Ks = [] ∨ ∃ b, a = some ⟨b, 0, none⟩ ∧ ∀ i N T, Ks[i]? = some (N, T) → N.length = T.length ∧ N.length ≤ 1000 ∧
    ∃ vn vt, w.cell? ⟨b, i * 2, none⟩ = some vn ∧ w.cell? ⟨b, i * 2 + 1, none⟩ = some vt ∧ Strs w vn N ∧ Strs w vt T)

theorem getR_drop {Ks : List (List Bs × List Bs)} {i : Nat} {N T : List Bs} (h : Ks[i]? = some (N, T)) (l : Bs) : getR (Ks.drop i) l = match lastOf N T l with
    | some t => t
    | none => getR (Ks.drop (i + 1)) l := by
  obtain ⟨hi, e⟩ := List.getElem?_eq_some_iff.1 h
  rw [List.drop_eq_getElem_cons hi, e]
  rfl

set_option maxRecDepth 100000 in
set_option maxHeartbeats 4000000 in
theorem refGet_c {w : World} {v : Value} {Ks : List (List Bs × List Bs)} (h : RefAt w v Ks) (hK : Ks.length ≤ 1000) (l : Bs) :
    Calls Try.prog 21 #[v, .string (mk l)] w fun e w' => e = .returned (.string (mk (getR Ks l))) ∧ w = w' := by
  obtain ⟨a, c, rfl, hc, hrow⟩ := h
  obtain ⟨R, hR⟩ : ∃ R, getR Ks l = R := ⟨_, rfl⟩
  have HR := Lib.hid hR
  rw [hR]
  clear hR
  obtain ⟨n, hn⟩ : ∃ n, Ks.length = n := ⟨_, rfl⟩
  rw [hn] at hc hK ⊢
  have HN := Lib.hid hn
  have HROW := Lib.hid hrow
  clear hn hrow
  go_enter Try.func21, Try.ntmps21
  go_wp2
  go_loopw [5, 6] (fun i _ W' => ∃ j : Nat, i = .int .i64 j ∧ j ≤ n ∧ Hid (getR (Ks.drop j) l = R) ∧ w = W') (fun i _ _ => n - (intOf i).toNat)
  case atStart => exact ⟨0, rfl, Nat.zero_le _, HR, rfl⟩
  case round =>
    obtain ⟨j, rfl, hj, HG, rfl⟩ := hrel
    by_cases hlt : j < n
    · obtain ⟨⟨N, T⟩, hx⟩ : ∃ x, Ks[j]? = some x := ⟨_, List.getElem?_eq_getElem (by rw [HN.out]; exact hlt)⟩
      have hne : Ks ≠ [] := by rintro rfl; cases hx
      obtain ⟨b, rfl, hcell⟩ := HROW.out.resolve_left hne
      obtain ⟨hlen, hlen2, vn, vt, c0, c1, hvn, hvt⟩ := hcell j N T hx
      obtain ⟨an, cn, rfl, hcn, hrn⟩ := hvn
      obtain ⟨at', ct, rfl, hct, hrt⟩ := hvt
      have HGD := Lib.hid (getR_drop hx l)
      obtain ⟨m, hm⟩ : ∃ m, N.length = m := ⟨_, rfl⟩
      rw [← hlen] at c1 hct
      rw [hm] at c0 c1 hlen2 hcn hct
      have HM := Lib.hid hm
      have HLEN := Lib.hid hlen
      have HRN := Lib.hid hrn
      have HRT := Lib.hid hrt
      clear hcell hne hx hm hlen hrn hrt
      go_wp2_with fail
      go_loopw [6] (fun k W' => ∃ q : Nat, k = .int .i64 ((q : Int) - 1) ∧ q ≤ m ∧ Hid (∀ i, q ≤ i → N[i]? ≠ some l) ∧ w = W') (fun k _ => (intOf k + 1).toNat)
      case atStart => exact ⟨m, by go_num, Nat.le_refl _, Lib.hid (fun i hi e => by have := (List.getElem?_eq_some_iff.1 e).1; rw [HM.out] at this; omega), rfl⟩
      case round =>
        obtain ⟨q, rfl, hq, HQ, rfl⟩ := hrel
        cases q with
        | zero =>
          have e1 : getR (Ks.drop (j + 1)) l = R := by
            rw [← HG.out, HGD.out, lastOf_none (fun i => HQ.out i (Nat.zero_le _))]
          have HN1 := Lib.hid e1
          rw [show ((0 : Nat) : Int) - 1 = -1 from rfl]
          clear e1
          go_wp2_with fail
          go_roundw
          case rel => exact ⟨j + 1, by go_num, by omega, HN1, trivial⟩
          case measure => simp [intOf]; omega
        | succ q =>
          rw [show ((q + 1 : Nat) : Int) - 1 = (q : Int) by omega]
          obtain ⟨p, hp⟩ : ∃ p, N[q]? = some p := ⟨_, List.getElem?_eq_getElem (by rw [HM.out]; omega)⟩
          obtain ⟨t, ht⟩ : ∃ t, T[q]? = some t := ⟨_, List.getElem?_eq_getElem (by rw [← HLEN.out, HM.out]; omega)⟩
          have hne1 : N ≠ [] := by rintro rfl; cases hp
          have hne2 : T ≠ [] := by rintro rfl; cases ht
          obtain ⟨g1, o1, rfl, _, hc1⟩ := HRN.out.resolve_left hne1
          obtain ⟨g2, o2, rfl, _, hc2⟩ := HRT.out.resolve_left hne2
          have d1 := hc1 q p hp
          have d2 := hc2 q t ht
          have hcm := cmpS p l
          have hqm : q < m := by omega
          by_cases hpl : p = l
          · have e1 : t = R := by
              rw [← HG.out, HGD.out, lastOf_at HLEN.out (hpl ▸ hp) ht (fun i hi => HQ.out i (by omega))]
            subst e1
            rw [decide_eq_true hpl] at hcm
            clear hc1 hc2 hne1 hne2 hp ht hpl
            go_wp2_with fail
            go_ret
            exact ⟨rfl, rfl⟩
          · rw [decide_eq_false hpl] at hcm
            have HQ2 := Lib.hid (show ∀ i, q ≤ i → N[i]? ≠ some l from fun i hi e => by
              rcases Nat.lt_or_ge q i with h1 | h1
              · exact HQ.out i (by omega) e
              · obtain rfl : i = q := by omega
                rw [hp] at e
                exact hpl (Option.some.inj e))
            clear hc1 hc2 hne1 hne2 hp ht hpl
            go_wp2_with fail
            go_roundw
            case rel => exact ⟨q, by go_num, by omega, HQ2, trivial⟩
            case measure => simp [intOf]
    · have hji : ¬ (j : Int) < (n : Int) := by omega
      have e1 := HG.out
      rw [List.drop_eq_nil_of_le (by rw [HN.out]; omega)] at e1
      change [] = R at e1
      subst e1
      go_wp2_with fail
      go_ret
      exact ⟨rfl, rfl⟩
end Go.Proofs.Ytbohnjiachnadaa.Sc
