/-
  WHAT IS PLANNED IS TAKEN: the laws' told, walked.
-/
import Derived.Test.YtofdnbddpageoaaNmGiven
import Derived.Test.YtofdnbddpageoaaNmBrief
namespace Go.Proofs.Ytofdnbddpageoaa.Nm
open Go.RowKit Go.Maps

theorem planE_cases (out : ByteArray) (t : Int) (deps : List ByteArray) : planE out t deps = 0 ∨ planE out t deps = 1 ∨ planE out t deps = 3 := by
  unfold planE
  split
  · exact .inr (.inl rfl)
  · split
    · exact .inr (.inr rfl)
    · exact .inl rfl

theorem Rows.atv {w : World} {base : Nat} {o : Option Nat} {a : Option Addr} {n c : Nat} {rs : List (List Nat)} (h : Rows base o w (.slice a n c) rs) {j : Nat} {r : List Nat} (hj : rs[j]? = some r) :
    ∃ g u k, a = some ⟨g, 0, Option.none⟩ ∧ n = rs.length ∧ n ≤ c ∧ g < w.heap.size ∧ w.cell? ⟨g, j, Option.none⟩ = some (.slice u r.length k) ∧ r.length ≤ k ∧ Pk.Row w u r := by
  obtain ⟨g, c', u, k, e, h1, _, h3, h4, h5, h6⟩ := h.at hj
  obtain ⟨e1, e2, e3⟩ := Value.slice.inj e
  subst e3 e2
  exact ⟨g, u, k, e1, rfl, h1, h3, h4, h5, h6⟩

theorem takeAll_len {B B' : Bo} {rs : List (List Nat)} (h : takeAll B rs = some B') : B'.N.length ≤ B.N.length + rs.length := by
  induction rs generalizing B with
  | nil => cases h; simp
  | cons r rs ih =>
    cases hb : takeB B r with
    | none => simp [takeAll, hb] at h
    | some B1 =>
      have h' : takeAll B1 rs = some B' := by simpa [takeAll, hb] using h
      have := ih h'
      have := (takeB_len hb).2
      simp
      omega

theorem planD_len (N : List ByteArray) (d : Dp) : (planD N d).length ≤ d.deps.length + 2 := by
  unfold planD plan
  have := (tell_len N (d.out :: d.deps)).2.1
  simp at this ⊢
  omega

theorem told_take {L : List Dp} {j : Nat} {x : Dp} (hx : L[j]? = some x) : toldB (L.take (j + 1)) = stepB (toldB (L.take j)) x := by
  rw [List.take_add_one, hx, Option.toList_some, toldB_snoc]

theorem all_mem {L : List Dp} (h : allB L = true) : L.length ≤ 30 ∧ ∀ d ∈ L, d.out.size ≤ 5000 ∧ d.deps.length ≤ 50 ∧ ∀ s ∈ d.deps, s.size ≤ 5000 := by
  unfold allB at h
  simp only [Bool.and_eq_true, decide_eq_true_eq, List.all_eq_true] at h
  refine ⟨h.1, fun d hd => ?_⟩
  have := h.2 d hd
  unfold briefB shortL at this
  simp only [Bool.and_eq_true, decide_eq_true_eq, List.all_eq_true] at this
  exact ⟨this.1.1, this.1.2, this.2⟩

set_option maxRecDepth 100000 in
set_option maxHeartbeats 4000000 in
theorem told_c {w : World} {v : Value} {L : List Dp} (h : DepRow w v L) (hL : allB L = true) :
    Calls Try.prog 27 #[v] w fun e w' => e = .returned (.tuple #[.pointer (some ⟨w.heap.size, 0, Option.none⟩), .bool true]) ∧ Own w.heap.size 0 0 w' w.heap.size (toldB L) ∧ Below w.heap.size w w' := by
  obtain ⟨hl30, hmem⟩ := all_mem hL
  have HM := Lib.hid hmem
  obtain ⟨a, c, rfl, hc, hrow⟩ := h
  have HROW := Lib.hid (show DepRow w (.slice a L.length c) L from ⟨a, c, rfl, hc, hrow⟩)
  clear hrow hmem hL
  go_enter Try.func27, Try.ntmps27
  go_wp2_with fail
  refine (new_c _).mono ?_
  rintro e w1 ⟨rfl, rfl⟩
  go_wp2_with fail
  go_loopw [5] (fun i wr => ∃ j : Nat, j ≤ L.length ∧ i = .int .i64 j ∧ Hid (Own w.heap.size 0 0 wr w.heap.size (toldB (L.take j))) ∧ Hid (Below w.heap.size w wr)) (fun i _ => L.length - (intOf i).toNat)
  case atStart => exact ⟨0, Nat.zero_le _, rfl, Lib.hid (own_new w (w.heap.size + 1) 0 (by omega)).free, Lib.hid (Pk.below_alloc _ _)⟩
  case round =>
    obtain ⟨j, hj, rfl, hO, hB⟩ := hrel
    obtain ⟨wo, rfl⟩ : ∃ wo, wo = wr := ⟨_, rfl⟩
    by_cases hlt : j < L.length
    · have hx := List.getElem?_eq_getElem hlt
      obtain ⟨_, _, e, _, hrow⟩ := HROW.out.below hB.out
      cases e
      rcases hrow with h | ⟨b, off, rfl, hb, hcell⟩
      · rw [h] at hlt; simp at hlt
      obtain ⟨vd, x0, x1, x2, hs, hno⟩ := hcell j _ hx
      have hxm := HM.out _ (List.getElem_mem hlt)
      have htt := told_take hx
      obtain ⟨hok, hfew⟩ := told_ok (L := L.take j) (by rw [List.length_take]; omega) (fun d hd => (HM.out d (List.mem_of_mem_take hd)).2.1)
      have hfew2 : (toldB (L.take j)).N.length ≤ 1530 := by rw [List.length_take] at hfew; omega
      generalize L[j] = x at *
      generalize toldB (L.take j) = B0 at *
      have cg := given_c hs hno (by omega)
      obtain ⟨sa, sc, rfl, -, -⟩ := hs
      have hi0 : (0 : Int) ≤ (j : Int) := by omega
      have hi1 : (j : Int) < (L.length : Int) := by omega
      have HTT := Lib.hid htt
      have HXM := Lib.hid hxm
      have HOK := Lib.hid hok
      clear hcell hx htt hxm hok hfew hno
      go_wp2_with fail
      refine cg.mono ?_
      rintro e w2 ⟨ga, gc, rfl, hgs, hb2⟩
      have hO2 := hO.out.below hb2
      have cp := plan_own hO2 hgs (by have := HXM.out.2.1; omega) (by omega)
      have HB2 := Lib.hid (hB.out.trans (hb2.mono hB.out.size))
      have HO2 := Lib.hid hO2
      clear cg hgs hb2 hO2
      go_wp2_with fail
      refine cp.mono ?_
      rintro e w3 ⟨vr, rfl, hrs, hb3⟩
      have HB3 := Lib.hid (HB2.out.trans (hb3.mono HB2.out.size))
      have HO3 := Lib.hid (HO2.out.below hb3)
      have HR3 := Lib.hid hrs
      have HB23 := Lib.hid hb3
      have hdp : dpE x = planE x.out x.time x.deps := rfl
      have hpl : planD B0.N x = plan B0.N x.out x.time.toNat x.deps := rfl
      clear cp hb3 HR3 x0 x1 x2
      by_cases hE : planE x.out x.time x.deps = 0
      · rw [hE, if_pos rfl, ← hpl] at hrs
        rw [hE]
        have hE0 : dpE x = 0 := hE
        obtain ⟨B9, hfin, -, -, -, -⟩ := plan_fin hE0 HOK.out (by omega)
        have hstep : stepB B0 x = B9 := by unfold stepB; rw [if_pos hE0, hfin]; rfl
        have hsm := planD_small (N := B0.N) hE0
        have hpn := planD_len B0.N x
        have hfew3 : (planD B0.N x).length ≤ 52 := by have := HXM.out.2.1; omega
        obtain ⟨va, vc, rfl⟩ := hrs.val
        have HFIN := Lib.hid hfin
        have HSM := Lib.hid hsm
        have HST := Lib.hid hstep
        obtain ⟨rs, hrs0⟩ : ∃ rs, planD B0.N x = rs := ⟨_, rfl⟩
        rw [hrs0] at HFIN HSM hrs hfew3
        rw [hrs0]
        have HRS := Lib.hid hrs
        clear hfin hsm hstep hpn hrs0 hrs hdp hpl hE hE0
        go_wp2_with fail
        go_loopw [8] (fun i wr => ∃ m : Nat, m ≤ rs.length ∧ i = .int .i64 m ∧ ∃ Bk, Hid (takeAll B0 (rs.take m) = some Bk) ∧ Hid (Own w.heap.size w2.heap.size w3.heap.size wr w.heap.size Bk) ∧ Hid (∀ k, w2.heap.size ≤ k → k < w3.heap.size → wr.heap[k]? = w3.heap[k]?) ∧ Hid (Below w.heap.size w wr) ∧ Hid (w3.heap.size ≤ wr.heap.size)) (fun i _ => rs.length - (intOf i).toNat)
        case atStart => exact ⟨0, Nat.zero_le _, rfl, B0, Lib.hid rfl, Lib.hid ((HO2.out.hole (Nat.le_refl _)).below HB23.out), Lib.hid (fun _ _ _ => rfl), HB3, Lib.hid (Nat.le_refl _)⟩
        case round =>
          obtain ⟨m, hm, rfl, Bk, hT, hOk, hKk, hBk, hSz⟩ := hrel
          by_cases hlm : m < rs.length
          · have hxr := List.getElem?_eq_getElem hlm
            have hsml := HSM.out _ (List.getElem_mem hlm)
            have hrw : Rows w2.heap.size Option.none w3 (.slice va rs.length vc) rs := HRS.out
            have hrw2 : Rows w2.heap.size Option.none wr (.slice va rs.length vc) rs := hrw.keptBy hKk.out
            obtain ⟨g, u, k, rfl, -, hvc, hg, hcell, hk, hrow⟩ := hrw2.atv hxr
            obtain ⟨Bk', e1, e2⟩ := takeAll_take HFIN.out m
            rw [hT.out] at e1
            obtain rfl := Option.some.inj e1
            obtain ⟨Bn, htb, htn⟩ := e2 _ hxr
            have hNk : Bk.N.length < 1000000 := by have := takeAll_len hT.out; rw [List.length_take] at this; omega
            generalize rs[m] = r at *
            have ct := take_own hOk.out (by have := hBk.out.size; omega) hSz.out hrow (Lib.hid rfl) hk hsml.1 hsml.2 hNk
            have HTB := Lib.hid htb
            have HTN := Lib.hid htn
            have hm0 : (0 : Int) ≤ (m : Int) := by omega
            have hm1 : (m : Int) < (rs.length : Int) := by omega
            clear hxr hsml hrw hrw2 hrow e1 e2 htb htn
            go_wp2_with fail
            refine ct.mono ?_
            rintro e w5 ⟨he, hO5, hB5, hK5⟩
            rw [HTB.out] at he hO5
            have he : e = .returned (.int .i64 0) := he
            subst he
            have HO5 : Hid (Own w.heap.size w2.heap.size w3.heap.size w5 w.heap.size Bn) := Lib.hid hO5
            have HK5 := Lib.hid (fun k h1 h2 => (hK5 k h1 h2).trans (hKk.out k h1 h2))
            have HB5 := Lib.hid (hBk.out.trans hB5)
            have HS5 := Lib.hid (Nat.le_trans hSz.out hB5.size)
            clear ct hO5 hB5 hK5
            go_wp2_with fail
            go_roundw
            case rel => exact ⟨m + 1, by omega, by go_num, Bn, HTN, HO5, HK5, HB5, HS5⟩
            case measure => simp [intOf]; omega
          · obtain rfl : m = rs.length := by omega
            rw [List.take_length] at hT
            obtain rfl : B9 = Bk := by have := HFIN.out; rw [hT.out] at this; exact (Option.some.inj this).symm
            go_wp2_with fail
            go_roundw
            case rel => exact ⟨j + 1, by omega, by go_num, Lib.hid (by rw [HTT.out, HST.out]; exact hOk.out.free), hBk⟩
            case measure => simp [intOf]; omega
      · have hst : stepB B0 x = B0 := if_neg hE
        have HST := Lib.hid hst
        have hp3 : planE x.out x.time x.deps = 1 ∨ planE x.out x.time x.deps = 3 := by
          rcases planE_cases x.out x.time x.deps with h | h | h
          · exact absurd h hE
          · exact .inl h
          · exact .inr h
        clear hrs hdp hpl hst
        rcases hp3 with h | h
        all_goals
          rw [h]
          clear hE h
          go_wp2_with fail
          go_roundw
          case rel => exact ⟨j + 1, by omega, by go_num, Lib.hid (by rw [HTT.out, HST.out]; exact HO3.out), HB3⟩
          case measure => simp [intOf]; omega
    · obtain rfl : j = L.length := by omega
      rw [List.take_length] at hO
      go_wp2_with fail
      go_ret2
      exact ⟨rfl, hO.out, hB.out⟩
end Go.Proofs.Ytofdnbddpageoaa.Nm
