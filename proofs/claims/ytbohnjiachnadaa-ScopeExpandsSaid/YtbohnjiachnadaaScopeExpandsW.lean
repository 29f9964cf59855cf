/-
  The law ScopeExpands, walked.
-/
import Derived.Test.YtbohnjiachnadaaScExpR
namespace Go.Proofs.Ytbohnjiachnadaa.Sc
open Go.RowKit Go.Maps

def kss (L : List S3) : List (List Bs × List Bs) := [(nk L 0, tk L 0), (nk L 1, tk L 1), (nk L 2, tk L 2)]

theorem getR_kss (L : List S3) : getR (kss L) = getL (lvls L) := by
  funext l
  unfold kss lvls
  simp only [getR, getL, fk_last]
  cases lastOf (nk L 0) (tk L 0) l <;> cases lastOf (nk L 1) (tk L 1) l <;> cases lastOf (nk L 2) (tk L 2) l <;> rfl

theorem getR_nil : getR [] = getL [] := funext fun _ => rfl
theorem refAt_nil (w : World) : RefAt w (.slice none 0 0) [] := ⟨none, 0, rfl, Nat.le_refl _, .inl rfl⟩

theorem Bu.refAt {w W : World} {ba bw : Nat} {p : Nat → Nat} {mv un tn : Nat → Value} {L : List S3} (h : Bu w W ba bw p mv un tn L L) (hl : L.length ≤ 30) : RefAt W (.slice (some ⟨bw, 0, none⟩) 3 3) (kss L) := by
  refine ⟨some ⟨bw, 0, none⟩, 3, rfl, Nat.le_refl _, .inr ⟨bw, rfl, fun i N T hi => ?_⟩⟩
  have hc : ∀ (j : Nat) v, #[un 0, tn 0, un 1, tn 1, un 2, tn 2][j]? = some v → W.cell? ⟨bw, j, none⟩ = some v := fun j v hj => by
    simp only [World.cell?, h.ref]
    simpa using hj
  have hN : ∀ k, (nk L k).length ≤ 1000 := fun k => Nat.le_trans (nk_len L k) (by omega)
  match i, hi with
  | 0, hi => cases hi; exact ⟨nk_tk L 0, hN 0, un 0, tn 0, hc 0 _ rfl, hc 1 _ rfl, owns_strs (h.names 0 (by omega)), owns_strs (h.texts 0 (by omega))⟩
  | 1, hi => cases hi; exact ⟨nk_tk L 1, hN 1, un 1, tn 1, hc 2 _ rfl, hc 3 _ rfl, owns_strs (h.names 1 (by omega)), owns_strs (h.texts 1 (by omega))⟩
  | 2, hi => cases hi; exact ⟨nk_tk L 2, hN 2, un 2, tn 2, hc 4 _ rfl, hc 5 _ rfl, owns_strs (h.names 2 (by omega)), owns_strs (h.texts 2 (by omega))⟩
  | _ + 3, hi => cases hi

set_option maxRecDepth 100000 in
set_option maxHeartbeats 8000000 in
theorem scopeExpands_w {w : World} {v : Value} {L : List S3} (h : SetRow w v L) (A0 B0 : ByteArray) (hA : A0.size ≤ 9223372036854775807) (hB : B0.size ≤ 9223372036854775807) :
    Calls Try.prog 5 #[v, .string A0, .string B0] w fun e w' => e = .returned (.bool true) ∧ Below w.heap.size w w' := by
  obtain ⟨a, rfl⟩ : ∃ s, A0 = mk s := ⟨A0.data.toList, (mk_of A0).symm⟩
  obtain ⟨b, rfl⟩ : ∃ s, B0 = mk s := ⟨B0.data.toList, (mk_of B0).symm⟩
  have hza := mk_size a
  have hzb := mk_size b
  have hlt := light_c h
  cases hlb : lightB L with
  | false =>
    rw [hlb] at hlt
    clear hlb
    go_enter Try.func5, Try.ntmps5
    go_wp2_with fail
    refine hlt.mono ?_
    rintro e w1 ⟨rfl, rfl⟩
    go_wp2_with fail
    go_ret
    exact ⟨rfl, Below.refl _ _⟩
  | true =>
    rw [hlb] at hlt
    by_cases hl : 3000 < a.length
    · have hl' : 3000 < ((mk a).size : Int) := by omega
      clear hlb
      go_enter Try.func5, Try.ntmps5
      go_wp2_with fail
      refine hlt.mono ?_
      rintro e w1 ⟨rfl, rfl⟩
      go_wp2_with fail
      go_ret
      exact ⟨rfl, Below.refl _ _⟩
    have hl' : ¬ 3000 < ((mk a).size : Int) := by omega
    by_cases hl2 : 300 < b.length
    · have hl2' : 300 < ((mk b).size : Int) := by omega
      clear hlb
      go_enter Try.func5, Try.ntmps5
      go_wp2_with fail
      refine hlt.mono ?_
      rintro e w1 ⟨rfl, rfl⟩
      go_wp2_with fail
      go_ret
      exact ⟨rfl, Below.refl _ _⟩
    have hl2' : ¬ 300 < ((mk b).size : Int) := by omega
    have hbu := built_c h hlb
    obtain ⟨hl30, hsm⟩ := lightB_true hlb
    have haw := awake_c
    have HG := Lib.hid (show ∀ l, (getL (lvls L) l).length ≤ 900000 from fun l => Nat.le_trans (lvls_le (M := 5000) (fun x hx => (hsm x hx).2) l) (by omega))
    have HGR := Lib.hid (show ∀ l, (getR (kss L) l).length ≤ 900000 from fun l => by rw [getR_kss]; exact HG.out l)
    clear hsm
    obtain ⟨⟨ra, ka⟩, hra⟩ : ∃ r, expand (getL (lvls L)) a = r := ⟨_, rfl⟩
    obtain ⟨⟨rn, kn⟩, hrn⟩ : ∃ r, expand (getL []) a = r := ⟨_, rfl⟩
    obtain ⟨gb, hgb⟩ : ∃ r, getL (lvls L) b = r := ⟨_, rfl⟩
    have HRA := Lib.hid hra
    have HRN := Lib.hid hrn
    have HGB := Lib.hid hgb
    have e1 : ((mk ra).toList == (mk ra).toList) = true := by simp
    have e2 : ((mk rn).toList == (mk rn).toList) = true := by simp
    have e3 : ((mk gb).toList == (mk gb).toList) = true := by simp
    have e0 : (mk []).toList.isEmpty = true := by rw [mk_toList]; rfl
    clear hra hrn hgb hlb h
    go_enter Try.func5, Try.ntmps5
    go_wp2_with fail
    refine hlt.mono ?_
    rintro e w1 ⟨rfl, rfl⟩
    clear hlt
    go_wp2_with fail
    refine hbu.mono ?_
    rintro e w2 ⟨ba, bw, p, mv, un, tn, rfl, B⟩
    have HB2 := Lib.hid B
    clear B hbu
    have hx1 := expand_c HB2.out.chain HG.out a (by omega)
    rw [ptr_some, HRA.out] at hx1
    go_wp2_with fail
    refine hx1.mono ?_
    rintro e w3 ⟨rfl, hb3⟩
    have HB3 := Lib.hid (HB2.out.keep hb3)
    clear hb3 hx1
    have hx2 := refExpand_c (HB3.out.refAt hl30) (by show 3 ≤ 1000; omega) HGR.out a (by omega)
    rw [getR_kss, HRA.out] at hx2
    go_wp2_with fail
    with_reducible refine hx2.mono ?_
    rintro e w4 ⟨rfl, rfl⟩
    clear hx2
    have hx3 := expand_c (Chain.nil (w := w3)) (fun l => by show ([] : Bs).length ≤ 900000; simp) a (by omega)
    rw [ptr_none, HRN.out] at hx3
    go_wp2_with fail
    with_reducible refine hx3.mono ?_
    rintro e w5 ⟨rfl, hb5⟩
    have HB5 := Lib.hid (HB3.out.keep hb5)
    clear hb5 hx3
    have hx4 := refExpand_c (refAt_nil w5) (by show 0 ≤ 1000; omega) (fun l => by show ([] : Bs).length ≤ 900000; simp) a (by omega)
    rw [getR_nil, HRN.out] at hx4
    go_wp2_with fail
    with_reducible refine hx4.mono ?_
    rintro e w6 ⟨rfl, rfl⟩
    clear hx4
    have hx5 := get_c HB5.out.chain b (by omega)
    rw [ptr_some, HGB.out] at hx5
    go_wp2_with fail
    with_reducible refine hx5.mono ?_
    rintro e w7 ⟨rfl, hb7⟩
    have HB7 := Lib.hid (HB5.out.keep hb7)
    clear hb7 hx5
    have hx6 := refGet_c (HB7.out.refAt hl30) (by show 3 ≤ 1000; omega) b
    rw [getR_kss, HGB.out] at hx6
    go_wp2_with fail
    with_reducible refine hx6.mono ?_
    rintro e w8 ⟨rfl, rfl⟩
    clear hx6
    have hx7 := get_c (Chain.nil (w := w7)) b (by omega)
    rw [ptr_none, show getL [] b = [] from rfl] at hx7
    go_wp2_with fail
    with_reducible refine hx7.mono ?_
    rintro e w9 ⟨rfl, hb9⟩
    have B9 := Lib.hid (HB7.out.bel.trans (hb9.mono HB7.out.bel.size))
    clear hb9 hx7
    have hx8 := set_nil b a w9
    go_wp2_with fail
    with_reducible refine hx8.mono ?_
    rintro e w10 ⟨rfl, rfl⟩
    clear hx8
    go_wp2_with fail
    refine (haw _).mono ?_
    rintro e w11 ⟨rfl, hb11⟩
    go_wp2_with fail
    go_ret
    exact ⟨rfl, B9.out.trans (hb11.mono B9.out.size)⟩
end Go.Proofs.Ytbohnjiachnadaa.Sc
