/-
  The law GraphAbove, walked.
-/
import Derived.Test.YtbflodefmookiaaGrBrow
import Derived.Test.YtbflodefmookiaaGrAwake
import Derived.Test.YtbflodefmookiaaGrWrong
import Derived.Test.YtbflodefmookiaaGrAbove
import Derived.Test.YtbflodefmookiaaGrPutR
import Derived.Test.YtbflodefmookiaaGrUniq
namespace Go.Proofs.Ytbflodefmookiaa.Gr
open Go.RowKit Go.Maps Go.Proofs.Ytbflodefmookiaa Go.Proofs.Ytbflodefmookiaa.Pr

theorem Rising.congr {K : List Bs} {p q : Bs → Prop} (h : Rising K p) (e : ∀ s, p s ↔ q s) : Rising K q := ⟨h.nd, h.le, fun s => (h.mem s).trans (e s)⟩
theorem last_of {deps : Nat → List Nat} {M P : List Nat} {k : Nat} (h : Gd deps M P) (hk : k ∈ P) (hac : ¬ Tc deps k k) (hP : ∀ x ∈ P, x = k ∨ Tc deps k x) : ∃ P0, P = P0 ++ [k] ∧ ∀ x, x ∈ P0 ↔ Tc deps k x := by
  obtain ⟨t, ht⟩ := List.getElem?_of_mem hk
  have htl := (List.getElem?_eq_some_iff.1 ht).1
  have hlen : P.length = t + 1 := by
    refine Nat.le_antisymm (Nat.le_of_not_lt fun hlt => ?_) (by omega)
    have hx := List.getElem?_eq_getElem (show t + 1 < P.length by omega)
    generalize P[t + 1] = x at hx
    rcases hP x (List.mem_of_getElem? hx) with rfl | hc
    · have := (List.pairwise_iff_getElem.1 h.nd) t (t + 1) htl (by omega) (by omega)
      exact this ((List.getElem?_eq_some_iff.1 ht).2.trans (List.getElem?_eq_some_iff.1 hx).2.symm)
    · have h1 := h.above hc t ht
      exact at_not_take h.nd hx ((List.take_sublist_take_left (by omega)).subset h1)
  refine ⟨P.take t, ?_, fun x => ⟨fun hx => ?_, fun hc => h.above hc t ht⟩⟩
  · have := List.take_length (l := P)
    rw [hlen, List.take_add_one, ht] at this
    exact this.symm
  · rcases hP x (List.mem_of_mem_take hx) with rfl | hc
    · exact absurd rfl (mem_take_ne h.nd ht hx)
    · exact hc

set_option maxRecDepth 100000 in
set_option maxHeartbeats 32000000 in
theorem graphAbove_w {w : World} {u0 u1 : Value} {L : List Ed} {D : List Bs} {n0 : Nat} (ha : n0 < 256) (hL : Eds w u0 L) (hD : Strs w u1 D) :
    Calls Try.prog 9 #[.agg #[u0, u1], .int .u8 (n0 : Int)] w fun e w' => e = .returned (.bool true) ∧ Below w.heap.size w w' := by
  have hA := below_alloc w (.cells #[u0, u1] 25)
  have hb := heap_alloc_new w (.cells #[u0, u1] 25)
  obtain ⟨wB, hwB⟩ : ∃ wB, w.alloc (.cells #[u0, u1] 25) = wB := ⟨_, rfl⟩
  rw [hwB] at hA hb
  obtain ⟨a0, k0, rfl, -, -⟩ := id hL
  obtain ⟨a1, k1, rfl, -, -⟩ := id hD
  obtain ⟨bb, hbb⟩ : ∃ bb, w.heap.size = bb := ⟨_, rfl⟩
  have HC : Hid (∀ W, Below wB.heap.size wB W → W.cell? ⟨bb, 0, none⟩ = some (.slice a0 L.length k0) ∧ W.cell? ⟨bb, 1, none⟩ = some (.slice a1 D.length k1)) := Lib.hid fun W hW => by
    rw [← hbb]
    have h1 := (hW.block _ (lt_some hb)).trans hb
    constructor <;> (rw [Lib.cell_of_heap h1]; rfl)
  have HCB : Hid (wB.heap[bb]? = some (.cells #[.slice a0 L.length k0, .slice a1 D.length k1] 25 (0, 0))) := Lib.hid (by rw [← hbb]; exact hb)
  have hfew := few_c (hL.below hA) (hD.below hA)
  obtain ⟨c0, c1⟩ := HC.out wB (Below.refl _ _)
  have HL := Lib.hid (hL.below hA)
  have HD := Lib.hid (hD.below hA)
  have HA := Lib.hid hA
  have HWB := Lib.hid hwB
  clear hA hb hwB hL hD 
  go_enter Try.func9, Try.ntmps9
  go_upto_region 1 with fail
  rw [HWB.out]
  clear HWB
  go_wp2_with fail
  refine hfew.mono ?_
  rintro e w1 ⟨rfl, hb1⟩
  have HB1 := Lib.hid hb1
  clear hfew hb1 c0 c1
  cases hF : fewM L D with
  | false =>
    clear hF
    go_wp2_with fail
    go_ret
    exact ⟨rfl, HA.out.trans (HB1.out.mono HA.out.size)⟩
  | true =>
    obtain ⟨hl30, hd20, hDx, hSm⟩ := fewM_of hF
    clear hF
    obtain ⟨c0, c1⟩ := HC.out w1 HB1.out
    by_cases hz : L.length = 0
    · rw [hz] at c0
      rw [hz]
      go_wp2_with fail
      go_ret
      exact ⟨rfl, HA.out.trans (HB1.out.mono HA.out.size)⟩
    have z1 : ¬ ((L.length : Nat) : Int) = 0 := by omega
    have z2 : (((L.length : Nat) : Int) == 0) = false := by simpa using z1
    obtain ⟨c0, c1⟩ := HC.out w1 HB1.out
    have hof := of_c (HL.out.below HB1.out) (HD.out.below HB1.out) hl30 hd20 hSm
    have HSM := Lib.hid hSm
    clear hDx hSm
    go_wp2_with fail
    refine hof.mono ?_
    rintro e w2 ⟨v, d, rfl, hv, hd, hb2⟩
    have HB2 := Lib.hid (HB1.out.trans (hb2.mono HB1.out.size))
    have hnew := New2_c hv hd HSM.out (by omega) (by omega)
    clear hof hv hd hb2 c0 c1
    go_wp2_with fail
    refine hnew.mono ?_
    rintro e w3 ⟨hres, -, hb3⟩
    have HB3 := Lib.hid (HB2.out.trans (hb3.mono HB2.out.size))
    clear hnew hb3
    obtain ⟨c0, c1⟩ := HC.out w3 HB3.out
    rcases hres with ⟨mkr, gp, ve, vd, m, n, hmk, hac, rfl, hG⟩ | ⟨er, hero, rfl, her⟩
    rotate_left 1
    · have hwr := wrongR_c (u1 := .slice a1 D.length k1) (HL.out.below HB3.out) HSM.out (by omega)
      have HER := Lib.hid her
      clear her
      rcases hero with rfl | rfl <;>
      · go_wp2_with fail
        refine hwr.mono ?_
        rintro e w4 ⟨⟨nn, rfl, hW⟩, hb4⟩
        have hnn := HER.out nn hW
        subst hnn
        have HB4 := Lib.hid (HB3.out.trans (hb4.mono HB3.out.size))
        clear hwr hW hb4 c0 c1
        go_wp2_with fail
        refine (awake_c w4).mono ?_
        rintro e w5 ⟨rfl, hb5⟩
        have HB5 := Lib.hid (HB4.out.trans (hb5.mono HB4.out.size))
        clear hb5
        go_wp2_with fail
        go_ret
        exact ⟨rfl, HA.out.trans (HB5.out.mono HA.out.size)⟩
    have hGn := nilG_no
    have HG := Lib.hid hG
    have HMK := Lib.hid hmk
    have HAC := Lib.hid hac
    clear hG hmk hac
    clear z1 z2
    obtain ⟨kk, hkk, hkl⟩ : ∃ kk : Nat, (n0 : Int) % (L.length : Int) = (kk : Int) ∧ kk < L.length := ⟨n0 % L.length, by simp, Nat.mod_lt _ (by omega)⟩
    have hx := List.getElem?_eq_getElem hkl
    have hsE := HSM.out _ (List.getElem_mem hkl)
    generalize L[kk] = ed at *
    obtain ⟨ge, off, ce, v0, v1, v2, v3, e1, hge, hE, r0, r1, r2, r3, r4, r5⟩ := (HL.out.below HB3.out).at hx
    cases e1
    obtain ⟨y0, z0, y1, z1, y2, z2, y3, z3, rfl, rfl, rfl, rfl⟩ := hE.sl
    have q0 : (0 : Int) ≤ (kk : Int) := by omega
    have q1 : (kk : Int) < (L.length : Int) := by omega
    by_cases hol : ed.outs.length = 0
    · rw [hol] at r0
      clear hE hx
      go_wp2_with fail
      refine (awake_c w3).mono ?_
      rintro e w4 ⟨rfl, hb4⟩
      have HB4 := Lib.hid (HB3.out.trans (hb4.mono HB3.out.size))
      clear hb4
      go_wp2_with fail
      go_ret
      exact ⟨rfl, HA.out.trans (HB4.out.mono HA.out.size)⟩
    have o1 : ¬ ((ed.outs.length : Nat) : Int) = 0 := by omega
    have o2 : (((ed.outs.length : Nat) : Int) == 0) = false := by simpa using o1
    have hKt := strs_take hE.o (show 1 ≤ ed.outs.length by omega)
    obtain ⟨_, _, eZ, hz0, -⟩ := id hE.o
    cases eZ
    have o3 : (1 : Int) ≤ (z0 : Int) := by omega
    have hplan := plan_c HG.out hKt (fun s hs => by have := hsE.xo s (List.mem_of_mem_take hs); unfold maxLen; omega) (by rw [List.length_take]; omega)
    have hmo : ∀ s ∈ ed.outs, mkr s = some kk := fun s hs => (makers_iff HMK.out s kk).2 ⟨ed, hx, hs⟩
    have HMO := Lib.hid hmo
    have HX := Lib.hid hx
    have HSE := Lib.hid hsE
    clear hE hx hsE hKt hmo hz0
    go_wp2_with fail
    clear hGn
    rw [hkk]
    clear hkk
    refine hplan.mono ?_
    rintro e w4 ⟨hb4, hres⟩
    obtain ⟨o, ho⟩ : ∃ o, o ∈ ed.outs.take 1 := List.exists_mem_of_length_pos (by rw [List.length_take]; omega)
    rcases hres with ⟨⟨s, hs, hk⟩, -⟩ | ⟨-, vP, M, rfl, hMp, hMm, hrow⟩
    · exact absurd (.inr (by rw [HMO.out s (List.mem_of_mem_take hs)]; rfl)) hk
    have HB4 := Lib.hid (HB3.out.trans (hb4.mono HB3.out.size))
    have HG4 := Lib.hid (HG.out.below hb4)
    have hMT : ∀ x, x ∈ M ↔ x = kk ∨ Tc (depsL mkr L) kk x := fun x => by
      rw [hMm]
      constructor
      · intro hr
        induction hr with
        | base hs he =>
          rw [HMO.out _ (List.mem_of_mem_take hs)] at he
          cases he
          exact .inl rfl
        | step _ hd ih =>
          rcases ih with rfl | ih
          · exact .inr (.one hd)
          · exact .inr (ih.trans (.one hd))
      · have hk : Reach mkr L (ed.outs.take 1) kk := .base ho (HMO.out o (List.mem_of_mem_take ho))
        rintro (rfl | hc)
        · exact hk
        · have key : ∀ i j, Tc (depsL mkr L) i j → Reach mkr L (ed.outs.take 1) i → Reach mkr L (ed.outs.take 1) j := fun i j h => by
            induction h with
            | one h => exact fun hr => .step hr h
            | more h _ ih => exact fun hr => ih (.step hr h)
          exact key _ _ hc hk
    have hcM : ∀ u ∈ M, ∀ d ∈ depsL mkr L u, d ∈ M := fun u hu d hd => (hMm d).2 (.step ((hMm u).1 hu) hd)
    have hlM : ∀ u ∈ M, u < L.length := fun u hu => ((hMm u).1 hu).lt HG.out.to
    have hacM : ∀ u ∈ M, ¬ Tc (depsL mkr L) u u := fun u hu => HAC.out u (hlM u hu)
    have hmP := mem_order hMp hcM hacM
    have hgd := order_gd (deps := depsL mkr L) hMp
    obtain ⟨P0, hP0, hP0m⟩ := last_of hgd ((hmP kk).2 ((hMT kk).2 (.inl rfl))) (HAC.out kk hkl) fun x hx => (hMT x).1 ((hmP x).1 hx)
    rw [hP0] at hrow hmP hgd
    have HPL : Hid (∀ x ∈ P0, x < L.length) := Lib.hid fun x hx => hlM x ((hmP x).1 (by simp [hx]))
    have hPl : P0.length ≤ 30 := by
      have := sub_len (A := P0) (B := List.range L.length) (List.nodup_append.1 hgd.nd).1 fun x hx => List.mem_range.2 (HPL.out x hx)
      rw [List.length_range] at this
      omega
    have HP0M := Lib.hid hP0m
    have HRP := Lib.hid hrow
    obtain ⟨⟨aP, cP, rfl⟩, -⟩ := id hrow
    obtain ⟨np, hnp⟩ : ∃ np, P0.length = np := ⟨_, rfl⟩
    have hlen1 : (P0 ++ [kk]).length = np + 1 := by rw [List.length_append, hnp]; rfl
    rw [hlen1]
    obtain ⟨_, _, eR, hRr⟩ := hrow.read
    rw [hlen1] at eR
    cases eR
    rcases hRr with h | ⟨gP, oP, rfl, hgP, hcP⟩
    · simp at h
    have m0 : w4.cell? ⟨gP, oP + np, none⟩ = some (.int .i64 (kk : Int)) := hcP np kk (by rw [← hnp]; simp)
    have HCP : Hid (∀ W, Below w4.heap.size w4 W → ∀ (t x : Nat), P0[t]? = some x → W.cell? ⟨gP, oP + t, none⟩ = some (.int .i64 (x : Int))) := Lib.hid fun W hW t x hx => by
      have ht := (List.getElem?_eq_some_iff.1 hx).1
      exact (cell_of_block (hW.block gP hgP)).trans (hcP t x (by rw [List.getElem?_append_left ht]; exact hx))
    have HGP := Lib.hid hgP
    clear hplan hb4 ho hMp hMm hrow hMT hcM hlM hacM hmP hgd hP0 hP0m hlen1 hcP c0 c1 r0 r1 r2 r3 r4 r5 o1 o2 o3
    have p1 : ¬ (((np + 1 : Nat) : Int)) = 0 := by omega
    have p2 : ((((np + 1 : Nat) : Int)) == 0) = false := by simpa using p1
    have p3 : (((np + 1 : Nat) : Int)) - 1 = (np : Int) := by omega
    have p4 : (0 : Int) ≤ (np : Int) := by omega
    have p5 : ((kk : Int) != (kk : Int)) = false := by simp
    have p6 : (np : Int) < ((np + 1 : Nat) : Int) := by omega
    go_upto_region 12 with fail
    have p7 : ((np : Int) + 1 == 0) = false := by simp; omega
    clear m0 p1 p2 p5 p6
    go_wp2_with fail
    try simp only [p7]
    clear p7
    go_loopw [10, 11, 12] (fun v i _ W => ∃ (t : Nat) (A : List Bs) (aA : Option Addr) (cA : Nat), t ≤ np ∧ i = .int .i64 t ∧ v = .slice aA A.length cA ∧ Hid (Rising A (fun s => ∃ x ∈ P0.take t, ∃ e, L[x]? = some e ∧ s ∈ e.outs)) ∧ A.length ≤ 10 * t ∧ Hid (StrsT W (.slice aA A.length cA) A) ∧ Hid (A = [] → aA = none ∧ cA = 0) ∧ Hid (Below w4.heap.size w4 W)) (fun _ i _ _ => np - (intOf i).toNat)
    case atStart => exact ⟨0, [], none, 0, Nat.zero_le _, rfl, rfl, Lib.hid ⟨List.nodup_nil, List.Pairwise.nil, fun s => by simp⟩, by simp, Lib.hid ⟨strs_none _, .inl rfl⟩, Lib.hid (fun _ => ⟨rfl, rfl⟩), Lib.hid (Below.refl _ _)⟩
    case round =>
      obtain ⟨t, A, aA, cA, ht, rfl, rfl, HRI, hAl, HST, HNI, HB⟩ := hrel
      have HBWB := Lib.hid (HB4.out.trans (HB.out.mono HB4.out.size))
      by_cases hlt : t < np
      · have hx := List.getElem?_eq_getElem (show t < P0.length by omega)
        have hxl := HPL.out _ (List.getElem_mem (show t < P0.length by omega))
        generalize P0[t] = x at *
        have hxe := List.getElem?_eq_getElem hxl
        have hsd := HSM.out _ (List.getElem_mem hxl)
        generalize L[x] = e2 at *
        have m0 := HCP.out wr HB.out t x hx
        obtain ⟨c0, c1⟩ := HC.out wr HBWB.out
        obtain ⟨_, _, _, v0, v1, v2, v3, e1, hge2, hE, r0, r1, r2, r3, r4, r5⟩ := (HL.out.below HBWB.out).at hxe
        cases e1
        obtain ⟨y0, zz, y1, z1, y2, z2, y3, z3, rfl, rfl, rfl, rfl⟩ := hE.sl
        have i0 : (0 : Int) ≤ (t : Int) := by omega
        have i1 : (t : Int) < ((np + 1 : Nat) : Int) := by omega
        have i1' : (t : Int) < (np : Int) + 1 := by omega
        have i2 : (t : Int) < (np : Int) := by omega
        have x0 : (0 : Int) ≤ (x : Int) := by omega
        have x1 : (x : Int) < (L.length : Int) := by omega
        have x2 : ¬ (x : Int) < 0 := by omega
        have x3 : ¬ (L.length : Int) ≤ (x : Int) := by omega
        have x4 : decide ((x : Int) < 0) = false := decide_eq_false x2
        have x5 : decide ((L.length : Int) ≤ (x : Int)) = false := decide_eq_false x3
        have hol2 := hsd.o
        have HX2 := Lib.hid hx
        have HXE := Lib.hid hxe
        clear hx hxe hsd hE r1 r2 r3 r4 r5
        go_wp2_with fail
        go_quiet (fail)
        clear m0 c0 c1 r0
        have HBQ := Lib.hid (bel_drawn HB.out nq)
        have HSTQ : Hid (StrsT (wr.drewN nq) (.slice aA A.length cA) A) := Lib.hid (HST.out.keepT fun g C fr hc => rfl)
        have x6 : decide (L.length ≤ x) = false := decide_eq_false (by omega)
        go_wp2_with fail
        try simp only [x6]
        clear x6
        go_loopw [10, 12] (fun v i W => ∃ (q : Nat) (A2 : List Bs) (aB : Option Addr) (cB : Nat), q ≤ e2.outs.length ∧ i = .int .i64 q ∧ v = .slice aB A2.length cB ∧ Hid (Rising A2 (fun s => (∃ x ∈ P0.take t, ∃ e, L[x]? = some e ∧ s ∈ e.outs) ∨ s ∈ e2.outs.take q)) ∧ A2.length ≤ 10 * t + q ∧ Hid (StrsT W (.slice aB A2.length cB) A2) ∧ Hid (A2 = [] → aB = none ∧ cB = 0) ∧ Hid (Below w4.heap.size w4 W)) (fun _ i _ => e2.outs.length - (intOf i).toNat)
        case atStart => exact ⟨0, A, aA, cA, Nat.zero_le _, rfl, rfl, Lib.hid (HRI.out.congr fun s => by simp), by omega, HSTQ, HNI, HBQ⟩
        case round =>
          clear HBQ HSTQ HST HRI HNI HB HBWB hAl
          obtain ⟨q, A2, aB, cB, hq, rfl, rfl, HRI, hAl, HST, HNI, HB⟩ := hrel
          have HBWB := Lib.hid (HB4.out.trans (HB.out.mono HB4.out.size))
          have m0 := HCP.out wr HB.out t x HX2.out
          obtain ⟨c0, c1⟩ := HC.out wr HBWB.out
          obtain ⟨_, _, _, v0, v1, v2, v3, e1, hge2, hE, r0, r1, r2, r3, r4, r5⟩ := (HL.out.below HBWB.out).at HXE.out
          cases e1
          obtain ⟨y0, zz, y1, z1, y2, z2, y3, z3, rfl, rfl, rfl, rfl⟩ := hE.sl
          clear r1 r2 r3 r4 r5
          by_cases hlq : q < e2.outs.length
          · have hx3 := List.getElem?_eq_getElem hlq
            generalize e2.outs[q] = s at *
            have htk : ∀ y, y ∈ e2.outs.take (q + 1) ↔ y ∈ e2.outs.take q ∨ y = s := fun y => by rw [List.take_add_one, hx3]; simp
            obtain ⟨_, _, eS, _, hSr⟩ := hE.o
            cases eS
            rcases hSr with h | ⟨gS, oS, rfl, hgS, hcS⟩
            · rw [h] at hlq; simp at hlq
            have s0 := hcS q s hx3
            have b0 : (0 : Int) ≤ (q : Int) := by omega
            have b1 : (q : Int) < (e2.outs.length : Int) := by omega
            have b2 : decide ((q : Int) < (e2.outs.length : Int)) = true := decide_eq_true b1
            have hgPl : gP < wr.heap.size := Nat.lt_of_lt_of_le HGP.out HB.out.size
            have hput := fun (W7 : World) (h7 : W7.heap = wr.heap) => putR_c (w := W7) (s := s) (HST.out.keepT (w' := W7) fun g C fr hc => by rw [h7]) HRI.out (by omega) (fun h => by obtain ⟨h1, h2⟩ := HNI.out h; rw [h1, h2, h]; rfl)
            have HTK := Lib.hid htk
            clear hx3 hE hcS htk
            go_wp2_with fail
            go_quiet (fail)
            go_wp2_with fail
            obtain ⟨W7, hW7⟩ : ∃ W7, wr.drewN nq = W7 := ⟨_, rfl⟩
            have h7h : W7.heap = wr.heap := by rw [← hW7]; rfl
            have hb7 : Below wr.heap.size wr W7 := by rw [← hW7]; exact bel_drawn (Below.refl _ _) nq
            have hput2 := (hput W7.drew h7h).mono (R' := fun e w' => (∃ (aC : Option Addr) (cC : Nat) (K' : List Bs), e = .returned (.slice aC K'.length cC) ∧ Hid (StrsT w' (.slice aC K'.length cC) K') ∧ Hid (Rising K' (fun x_1 => ((∃ x ∈ P0.take t, ∃ e, L[x]? = some e ∧ x_1 ∈ e.outs) ∨ x_1 ∈ e2.outs.take q) ∨ x_1 = s)) ∧ K'.length ≤ A2.length + 1 ∧ Below wr.heap.size wr w') ∧ (w'.cell? ⟨bb, 0, none⟩ = some (.slice (some ⟨ge, off, none⟩) L.length k0) ∧ w'.cell? ⟨gP, oP + t, none⟩ = some (.int .i64 (x : Int)) ∧ w'.cell? ⟨ge, off + x * 6, none⟩ = some (.slice (some ⟨gS, oS, none⟩) e2.outs.length zz) ∧ w'.cell? ⟨gS, oS + q, none⟩ = some (.string (mk s)))) fun e w' ⟨v', K', h1, h2, h3, h4, h5⟩ => by
              obtain ⟨⟨aC, cC, e3, -, -⟩, -⟩ := id h2
              have h6 : Below wr.heap.size wr w' := hb7.trans ⟨h5.os, h5.tape, h5.output, by have := h5.size; exact this, fun k hk => h5.block k (by show k < W7.heap.size; rw [h7h]; exact hk)⟩
              subst e3
              exact ⟨⟨aC, cC, K', h1, Lib.hid h2, Lib.hid h3, h4, h6⟩, (cell_of_block (h6.block bb (lt_cellW c0))).trans c0, (cell_of_block (h6.block gP hgPl)).trans m0, (cell_of_block (h6.block ge hge2)).trans r0, (cell_of_block (h6.block gS hgS)).trans s0⟩
            have k0' : W7.drew.cell? ⟨bb, 0, none⟩ = some (.slice (some ⟨ge, off, none⟩) L.length k0) ∧ W7.drew.cell? ⟨gP, oP + t, none⟩ = some (.int .i64 (x : Int)) ∧ W7.drew.cell? ⟨ge, off + x * 6, none⟩ = some (.slice (some ⟨gS, oS, none⟩) e2.outs.length zz) ∧ W7.drew.cell? ⟨gS, oS + q, none⟩ = some (.string (mk s)) := by
              have hc : ∀ p, W7.drew.cell? p = wr.cell? p := fun p => by
                show World.cell? W7 p = _
                unfold World.cell?
                rw [h7h]
              exact ⟨(hc _).trans c0, (hc _).trans m0, (hc _).trans r0, (hc _).trans s0⟩
            rw [hW7]
            clear hput hW7 m0 c0 c1 r0 s0
            go_region_held3 (fun w' => w'.cell? ⟨bb, 0, none⟩ = some (.slice (some ⟨ge, off, none⟩) L.length k0) ∧ w'.cell? ⟨gP, oP + t, none⟩ = some (.int .i64 (x : Int)) ∧ w'.cell? ⟨ge, off + x * 6, none⟩ = some (.slice (some ⟨gS, oS, none⟩) e2.outs.length zz) ∧ w'.cell? ⟨gS, oS + q, none⟩ = some (.string (mk s)))
              (first | exact k0' | exact k1)
              (first
                | (go_at_call 34; (with_reducible refine hput2.mono ?_); rintro e w8 ⟨⟨aC, cC, K', rfl, hS8, hR8, hK8, hb8⟩, k1⟩))
            clear hput2 k0' k1
            have HB8 := Lib.hid (HB.out.trans (hb8.mono HB.out.size))
            have HR8 : Hid (Rising K' (fun s => (∃ x ∈ P0.take t, ∃ e, L[x]? = some e ∧ s ∈ e.outs) ∨ s ∈ e2.outs.take (q + 1))) := Lib.hid (hR8.out.congr fun y => by rw [HTK.out y, or_assoc])
            have HN8 : Hid (K' = [] → aC = none ∧ cC = 0) := Lib.hid fun h => by
              have := (hR8.out.mem s).2 (.inr rfl)
              rw [h] at this
              cases this
            clear hR8 hb8 h7h hb7
            go_wp2_with fail
            go_roundw
            case rel => exact ⟨q + 1, K', aC, cC, by omega, by go_num, rfl, HR8, by omega, hS8, HN8, HB8⟩
            case measure => simp [intOf]; omega
          · obtain rfl : q = e2.outs.length := by omega
            have b2 : decide (((e2.outs.length : Nat) : Int) < (e2.outs.length : Int)) = false := by simp
            have HR8 : Hid (Rising A2 (fun s => ∃ x ∈ P0.take (t + 1), ∃ e, L[x]? = some e ∧ s ∈ e.outs)) := Lib.hid (HRI.out.congr fun y => by
              rw [List.take_length, List.take_add_one, HX2.out]
              constructor
              · rintro (⟨z, hz, e, he, hy⟩ | hy)
                · exact ⟨z, List.mem_append.2 (.inl hz), e, he, hy⟩
                · exact ⟨x, by simp, e2, HXE.out, hy⟩
              · rintro ⟨z, hz, e, he, hy⟩
                rcases List.mem_append.1 hz with hz | hz
                · exact .inl ⟨z, hz, e, he, hy⟩
                · simp at hz
                  subst hz
                  rw [HXE.out] at he
                  cases he
                  exact .inr hy)
            clear hE
            go_wp2_with fail
            go_quiet (fail)
            go_wp2_with fail
            go_roundw
            case rel => exact ⟨t + 1, A2, aB, cB, by omega, by go_num, rfl, HR8, by omega, Lib.hid (HST.out.keepT fun g C fr hc => rfl), HNI, Lib.hid (bel_drawn HB.out _)⟩
            case measure => simp [intOf]; omega
      · obtain rfl : t = np := by omega
        have hab := above_c (HG4.out.below (HB.out.mono (Nat.le_refl _))) HMK.out HX.out
        have HRF : Hid (Rising A (fun s => ∃ i e, Tc (depsL mkr L) kk i ∧ L[i]? = some e ∧ s ∈ e.outs)) := Lib.hid (HRI.out.congr fun y => by
          rw [← hnp, List.take_length]
          constructor
          · rintro ⟨z, hz, e, he, hy⟩
            exact ⟨z, e, (HP0M.out z).1 hz, he, hy⟩
          · rintro ⟨z, e, hz, he, hy⟩
            exact ⟨z, (HP0M.out z).2 hz, e, he, hy⟩)
        clear HRI
        go_wp2_with fail
        refine hab.mono ?_
        rintro e w8 ⟨vB, KB, rfl, hRB, hSB, hKBl, hb8⟩
        have hnm := rows_c hSB.1 (HST.out.1.below hb8) (by omega)
        rw [decide_eq_true (hRB.eq HRF.out)] at hnm
        have HB8 := Lib.hid (HBWB.out.trans (hb8.mono HBWB.out.size))
        clear hab hRB hSB hb8
        go_wp2_with fail
        refine hnm.mono ?_
        rintro e w9 ⟨rfl, hb9⟩
        have HB9 := Lib.hid (HB8.out.trans (hb9.mono HB8.out.size))
        clear hnm hb9
        go_wp2_with fail
        refine (awake_c w9).mono ?_
        rintro e w10 ⟨rfl, hb10⟩
        have HB10 := Lib.hid (HB9.out.trans (hb10.mono HB9.out.size))
        clear hb10
        go_wp2_with fail
        go_ret
        exact ⟨rfl, HA.out.trans (HB10.out.mono HA.out.size)⟩
end Go.Proofs.Ytbflodefmookiaa.Gr
