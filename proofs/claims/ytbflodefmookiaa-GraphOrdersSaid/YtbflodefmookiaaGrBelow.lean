/-
  THE DOCUMENT's Below: who stands below whom.
-/
import Derived.Test.YtbflodefmookiaaGrBelM
import Derived.Deep.RegionHeld3
namespace Go.Proofs.Ytbflodefmookiaa.Gr
open Go.RowKit Go.Maps Go.Proofs.Ytbflodefmookiaa Go.Proofs.Ytbflodefmookiaa.Pr

set_option maxRecDepth 100000 in
set_option maxHeartbeats 32000000 in
theorem belowR_c {w : World} {u0 u1 : Value} {L : List Ed} {mkr : Bs → Option Nat} (hL : Eds w u0 L) (hm : makers L = some mkr) (hs : ∀ e ∈ L, Sm e) (hl : L.length ≤ 1000) :
    Calls Try.prog 39 #[.agg #[u0, u1]] w fun e w' => ∃ (g bb : Nat) (C : Array Value) (ty : TypeId) (r : Nat → Nat) (B : Nat → Nat → Bool), e = .returned (.slice (some ⟨g, 0, none⟩) L.length L.length) ∧
      Mx w w' bb C ty g L.length L.length r B ∧ ty ≠ 4 ∧ ∀ a b, a < L.length → b < L.length → (B a b = true ↔ Tc (depsL mkr L) a b) := by
  have hA := below_alloc w (.cells #[u0, u1] 25)
  have hb := heap_alloc_new w (.cells #[u0, u1] 25)
  obtain ⟨wB, hwB⟩ : ∃ wB, w.alloc (.cells #[u0, u1] 25) = wB := ⟨_, rfl⟩
  rw [hwB] at hA hb
  obtain ⟨a0, k0, rfl, -, -⟩ := id hL
  have c0 : wB.cell? ⟨w.heap.size, 0, none⟩ = some (.slice a0 L.length k0) := by rw [Lib.cell_of_heap hb]; rfl
  obtain ⟨hmk, hown⟩ := run_boolss L.length hl w.heap.size wB hA.size
  have hA1 := below_alloc wB (.cells (madeCells #[.slice none 0 0] L.length) 58)
  have hM0 : ∀ r B, Mx w (wB.alloc (.cells (madeCells #[.slice none 0 0] L.length) 58)) w.heap.size #[.slice a0 L.length k0, u1] 25 wB.heap.size L.length 0 r B := fun r B =>
    ⟨by
      have e : oV r L.length 0 = List.replicate L.length (.slice none 0 0) := by
        unfold oV
        simp [List.map_const']
      rw [e]
      exact hown, fun i hi => by omega, fun i j hi => by omega, Nat.zero_le _, (hA1.block _ (lt_some hb)).trans hb, hA.trans (hA1.mono hA.size)⟩
  have HM0 := Lib.hid (hM0 (fun _ => 0) (fun _ _ => false))
  have HL := Lib.hid hL
  have HMK := Lib.hid hm
  have HS := Lib.hid hs
  have HWB := Lib.hid hwB
  obtain ⟨n, hn⟩ : ∃ n, L.length = n := ⟨_, rfl⟩
  have HN := Lib.hid hn
  have HDL : Hid (∀ i, ∀ j ∈ depsL mkr L i, j < n) := Lib.hid (hn ▸ deps_lt hm)
  rw [hn] at hmk c0 HM0 hl HWB ⊢
  obtain ⟨bb, hbb⟩ : ∃ bb, w.heap.size = bb := ⟨_, rfl⟩
  rw [hbb] at HM0 c0
  obtain ⟨g, hg⟩ : ∃ g, wB.heap.size = g := ⟨_, rfl⟩
  rw [hg] at HM0 hmk
  clear hA hb hwB hown hA1 hM0 hL hm hs hn
  go_enter Try.func39, Try.ntmps39
  go_upto_region 1 with fail
  rw [HWB.out]
  clear HWB
  go_wp2_with fail
  obtain ⟨W1, hW1⟩ : ∃ W1, wB.alloc (.cells (madeCells #[.slice none 0 0] n) 58) = W1 := ⟨_, rfl⟩
  rw [hW1] at HM0 ⊢
  clear hmk hW1 c0
  go_loopw [5, 6, 7, 8] (fun i _ _ _ W => ∃ (t : Nat) (r : Nat → Nat) (B : Nat → Nat → Bool), t ≤ n ∧ i = .int .i64 t ∧ Hid (Mx w W bb #[.slice a0 n k0, u1] 25 g n t r B) ∧ Hid (Wl (depsL mkr L) t B)) (fun i _ _ _ _ => n - (intOf i).toNat)
  case atStart => exact ⟨0, _, _, Nat.zero_le _, rfl, HM0, Lib.hid fun a b h => by omega⟩
  case round =>
    clear HM0 W1
    obtain ⟨t, r, B, ht, rfl, HM, HW⟩ := hrel
    by_cases hlt : t < n
    · have hlt2 : t < L.length := by rw [HN.out]; exact hlt
      have hx := List.getElem?_eq_getElem hlt2
      have hsE := HS.out _ (List.getElem_mem hlt2)
      generalize L[t] = x at *
      obtain ⟨hrun, ⟨u, hu⟩, hfz, hM2⟩ := HM.out.add (by decide) hl hlt
      obtain ⟨W1, hW1⟩ : ∃ W1, wr.alloc (.cells (madeCells #[.bool false] n) 4) = W1 := ⟨_, rfl⟩
      rw [hW1] at hrun hu hfz hM2
      obtain ⟨W2, hW2⟩ : ∃ W2, W1.setCell ⟨g, t, none⟩ (.slice (some ⟨wr.heap.size, 0, none⟩) n n) = W2 := ⟨_, rfl⟩
      rw [hW2] at hM2
      have HW2 := Lib.hid hW2
      have c0 : W2.cell? ⟨bb, 0, none⟩ = some (.slice a0 n k0) := by rw [Lib.cell_of_heap hM2.bx]; rfl
      obtain ⟨ge, off, ce, v0, v1, v2, v3, e1, hge, hE, r0, r1, r2, r3, r4, r5⟩ := (HL.out.below hM2.bel).at hx
      rw [HN.out] at e1
      cases e1
      have hnd := needsR_c hE (by have := hsE.i; omega) (by have := hsE.m; omega) (by have := hsE.r; omega)
      obtain ⟨y0, z0, y1, z1, y2, z2, y3, z3, rfl, rfl, rfl, rfl⟩ := hE.sl
      have hi0 : (0 : Int) ≤ (t : Int) := by omega
      have hi1 : (t : Int) < (n : Int) := by omega
      have HSX : Hid ((needsL x).length ≤ 30 ∧ ∀ y ∈ needsL x, y.length ≤ 200) := Lib.hid (by
        refine ⟨by have := hsE.i; have := hsE.m; have := hsE.r; simp [needsL]; omega, fun y hy => ?_⟩
        simp only [needsL, List.mem_append] at hy
        rcases hy with (hy | hy) | hy
        · exact hsE.xi y hy
        · exact hsE.xm y hy
        · exact hsE.xr y hy)
      obtain ⟨K, hK⟩ : ∃ K, needsL x = K := ⟨_, rfl⟩
      have HK := Lib.hid hK
      rw [hK] at hnd HSX
      have HX := Lib.hid hx
      have HM2 := Lib.hid hM2
      have HWm := Lib.hid (Wm.start (mkr := mkr) (K := K) HW.out)
      generalize (fun i => if i = t then wr.heap.size else r i) = rf at *
      generalize (fun a b => if a = t then false else B a b) = B2 at *
      clear hlt2 hsE hE hge hK hx hM2 hW2 HM HW
      go_upto_region 7 with fail
      rw [HW2.out]
      clear HW2 hrun hu hfz hW1
      go_wp2_with fail
      refine hnd.mono ?_
      rintro e w3 ⟨vN, rfl, hS, -, hb3⟩
      have HM3 := Lib.hid (HM2.out.below hb3)
      have HSt := Lib.hid hS
      obtain ⟨⟨aN, cN, rfl, -, -⟩, -⟩ := id hS
      clear hnd hS hb3 c0 r0 r1 r2 r3 r4 r5 HM2
      go_wp2_with fail
      go_loopw [7, 8] (fun i _ W => ∃ (m : Nat) (B3 : Nat → Nat → Bool), m ≤ K.length ∧ i = .int .i64 m ∧ Hid (Mx w W bb #[.slice (some ⟨ge, off, none⟩) n k0, u1] 25 g n (t + 1) rf B3) ∧ Hid (Wm (depsL mkr L) mkr t K m B3) ∧ Hid (KeepT w3 W) ∧ Hid (w3.heap.size ≤ W.heap.size)) (fun i _ _ => K.length - (intOf i).toNat)
      case atStart => exact ⟨0, B2, Nat.zero_le _, rfl, HM3, HWm, Lib.hid (KeepT.refl _), Lib.hid (Nat.le_refl _)⟩
      case round =>
        clear HM3 HWm
        obtain ⟨m, B3, hm, rfl, HM, HWm, HKT, HSZ⟩ := hrel
        by_cases hlm : m < K.length
        · have hx2 := List.getElem?_eq_getElem hlm
          have hsl := HSX.out.2 _ (List.getElem_mem hlm)
          have hKl := HSX.out.1
          generalize K[m] = s at *
          have hSr := (HSt.out.keepT fun g C fr hc => HKT.out g C fr hc).1
          obtain ⟨_, _, eS, _, hSr⟩ := hSr
          cases eS
          rcases hSr with h | ⟨gS, oS, rfl, hgS, hcS⟩
          · rw [h] at hlm; simp at hlm
          have s0 := hcS m s hx2
          have c0 : wr.cell? ⟨bb, 0, none⟩ = some (.slice (some ⟨ge, off, none⟩) n k0) := by rw [Lib.cell_of_heap HM.out.bx]; rfl
          have c1 : wr.cell? ⟨bb, 1, none⟩ = some u1 := by rw [Lib.cell_of_heap HM.out.bx]; rfl
          have hLr := HL.out.below HM.out.bel
          have hmr := makerR_c (w := wr.drew) (u1 := u1) (s := s) (hLr.below ⟨rfl, rfl, rfl, Nat.le_refl _, fun _ _ => rfl⟩) HMK.out (by rw [HN.out]; omega) (fun e he => by have := (HS.out e he).o; omega)
          rw [HN.out] at hmr
          have hmr2 := hmr.mono (R' := fun e w' => (e = .returned (mkV (mkr s)) ∧ Below wr.heap.size wr w') ∧ (w'.cell? ⟨bb, 0, none⟩ = some (.slice (some ⟨ge, off, none⟩) n k0) ∧ w'.cell? ⟨bb, 1, none⟩ = some u1 ∧ w'.cell? ⟨gS, oS + m, none⟩ = some (.string (mk s)))) fun e w' ⟨h1, h2⟩ => by
            have h5 : Below wr.heap.size wr w' := ⟨h2.os, h2.tape, h2.output, h2.size, h2.block⟩
            exact ⟨⟨h1, h5⟩, (cell_of_block (h5.block bb (lt_some HM.out.bx))).trans c0, (cell_of_block (h5.block bb (lt_some HM.out.bx))).trans c1, (cell_of_block (h5.block gS hgS)).trans s0⟩
          have k0' : wr.drew.cell? ⟨bb, 0, none⟩ = some (.slice (some ⟨ge, off, none⟩) n k0) ∧ wr.drew.cell? ⟨bb, 1, none⟩ = some u1 ∧ wr.drew.cell? ⟨gS, oS + m, none⟩ = some (.string (mk s)) := ⟨c0, c1, s0⟩
          have hj0 : (0 : Int) ≤ (m : Int) := by omega
          have hj1 : (m : Int) < (K.length : Int) := by omega
          have HX2 := Lib.hid hx2
          clear hx2 hcS hLr hmr
          go_wp2_with fail
          go_region_held3 (fun w' => w'.cell? ⟨bb, 0, none⟩ = some (.slice (some ⟨ge, off, none⟩) n k0) ∧ w'.cell? ⟨bb, 1, none⟩ = some u1 ∧ w'.cell? ⟨gS, oS + m, none⟩ = some (.string (mk s)))
            (first | exact k0' | exact k1)
            (first
              | (go_at_call 18; (with_reducible refine hmr2.mono ?_); rintro e w4 ⟨⟨rfl, hb4⟩, k1⟩))
          clear hmr2 k0' k1 c0 c1 s0
          have HM4 := Lib.hid (HM.out.below hb4)
          have HKT4 := Lib.hid (HKT.out.trans (KeepC.below hb4).t)
          have HSZ4 := Lib.hid (Nat.le_trans HSZ.out hb4.size)
          clear hb4 HM HKT HSZ
          cases hms : mkr s with
          | none =>
            have HW2 := Lib.hid (HWm.out.skip HX2.out hms)
            simp only [hms, mkV]
            clear hms HWm
            go_wp2_with fail
            go_roundw
            case rel => exact ⟨m + 1, B3, by omega, by go_num, HM4, HW2, HKT4, HSZ4⟩
            case measure => simp [intOf]; omega
          | some d =>
            have HW2 := Lib.hid (HWm.out.put HX2.out hms)
            have hdn : d < n := HDL.out t d (by
              unfold depsL
              rw [HX.out]
              exact List.mem_filterMap.2 ⟨s, by rw [HK.out]; exact List.mem_of_getElem? HX2.out, hms⟩)
            simp only [hms, mkV]
            have t0 := HM4.out.cell0 (i := t) (by omega)
            have t1 := HM4.out.cell1 (i := t) (j := d) (by omega) hdn
            have tf := HM4.out.frz1 (i := t) (j := d) (by omega)
            obtain ⟨hM5, hkt5⟩ := HM4.out.set (i := t) (j := d) (by decide) (by omega)
            obtain ⟨W5, hW5⟩ : ∃ W5, w4.setCell ⟨rf t, d, none⟩ (.bool true) = W5 := ⟨_, rfl⟩
            rw [hW5] at hM5 hkt5
            have HM5 := Lib.hid hM5
            have HKT5 := Lib.hid (HKT4.out.trans hkt5)
            have HSZ5 : Hid (w3.heap.size ≤ W5.heap.size) := Lib.hid (Nat.le_trans HSZ4.out (by rw [← hW5]; simp [World.setCell]))
            have HW5 := Lib.hid hW5
            have hd0 : (0 : Int) ≤ (d : Int) := by omega
            have hd1 : (d : Int) < (n : Int) := by omega
            clear hms HWm hM5 hkt5 hW5
            go_upto_region 10 with fail
            rw [HW5.out]
            clear HW5 t0 t1 tf
            go_wp2_with fail
            go_roundw
            case rel => exact ⟨m + 1, _, by omega, by go_num, HM5, HW2, HKT5, HSZ5⟩
            case measure => simp [intOf]; omega
        · obtain rfl : m = K.length := by omega
          have HWl : Hid (Wl (depsL mkr L) (t + 1) B3) := Lib.hid (by
            have := HWm.out
            rw [← HK.out] at this
            exact this.fin HX.out)
          go_wp2_with fail
          go_roundw
          case rel => exact ⟨t + 1, rf, B3, by omega, by go_num, HM, HWl⟩
          case measure => simp [intOf]; omega
    · obtain rfl : t = n := by omega
      have HQ := Lib.hid (Wq.start HW.out)
      clear HW
      go_wp2_with fail
      go_loopw [9, 10, 11] (fun i _ _ W => ∃ (k : Nat) (B : Nat → Nat → Bool), k ≤ t ∧ i = .int .i64 k ∧ Hid (Mx w W bb #[.slice a0 t k0, u1] 25 g t t r B) ∧ Hid (Wq (depsL mkr L) t k 0 0 B)) (fun i _ _ _ => t - (intOf i).toNat)
      case atStart => exact ⟨0, B, Nat.zero_le _, rfl, HM, HQ⟩
      case round =>
        clear HM HQ
        clear B
        obtain ⟨k, B, hk, rfl, HM, HQ⟩ := hrel
        by_cases hlk : k < t
        · go_wp2_with fail
          go_loopw [10, 11] (fun i _ W => ∃ (i1 : Nat) (B : Nat → Nat → Bool), i1 ≤ t ∧ i = .int .i64 i1 ∧ Hid (Mx w W bb #[.slice a0 t k0, u1] 25 g t t r B) ∧ Hid (Wq (depsL mkr L) t k i1 0 B)) (fun i _ _ => t - (intOf i).toNat)
          case atStart => exact ⟨0, B, Nat.zero_le _, rfl, HM, HQ⟩
          case round =>
            clear HM HQ
            clear B
            obtain ⟨i1, B, hi1, rfl, HM, HQ⟩ := hrel
            by_cases hli : i1 < t
            · go_wp2_with fail
              go_loopw [11] (fun i W => ∃ (j1 : Nat) (B : Nat → Nat → Bool), j1 ≤ t ∧ i = .int .i64 j1 ∧ Hid (Mx w W bb #[.slice a0 t k0, u1] 25 g t t r B) ∧ Hid (Wq (depsL mkr L) t k i1 j1 B)) (fun i _ => t - (intOf i).toNat)
              case atStart => exact ⟨0, B, Nat.zero_le _, rfl, HM, HQ⟩
              case round =>
                clear HM HQ
                clear B
                obtain ⟨j1, B, hj1, rfl, HM, HQ⟩ := hrel
                by_cases hlj : j1 < t
                · have t0 := HM.out.cell0 hli
                  have t1 := HM.out.cell0 hlk
                  have t2 := HM.out.cell1 hli hlk
                  have t3 := HM.out.cell1 hlk hlj
                  have t4 := HM.out.cell1 hli hlj
                  have tf := HM.out.frz1 (j := j1) hli
                  have q0 : (0 : Int) ≤ (i1 : Int) := by omega
                  have q1 : (i1 : Int) < (t : Int) := by omega
                  have q2 : (0 : Int) ≤ (j1 : Int) := by omega
                  have q3 : (j1 : Int) < (t : Int) := by omega
                  have q4 : (0 : Int) ≤ (k : Int) := by omega
                  have q5 : (k : Int) < (t : Int) := by omega
                  cases h1 : B i1 k with
                  | false =>
                    have HQ2 := Lib.hid (HQ.out.skip (j := j1) hlk (by rw [h1]; rfl))
                    rw [h1] at t2
                    clear h1 HQ t4 tf t3 t1
                    go_wp2_with fail
                    go_roundw
                    case rel => exact ⟨j1 + 1, B, by omega, by go_num, HM, HQ2⟩
                    case measure => simp [intOf]; omega
                  | true =>
                    cases h2 : B k j1 with
                    | false =>
                      have HQ2 := Lib.hid (HQ.out.skip (j := j1) hlk (by rw [h1, h2]; rfl))
                      rw [h1] at t2
                      rw [h2] at t3
                      clear h1 h2 HQ t4 tf
                      go_wp2_with fail
                      go_roundw
                      case rel => exact ⟨j1 + 1, B, by omega, by go_num, HM, HQ2⟩
                      case measure => simp [intOf]; omega
                    | true =>
                      have HQ2 := Lib.hid (HQ.out.put (j := j1) hlk hli hlj h1 h2)
                      rw [h1] at t2
                      rw [h2] at t3
                      obtain ⟨hM5, -⟩ := HM.out.set (i := i1) (j := j1) (by decide) hli
                      obtain ⟨W5, hW5⟩ : ∃ W5, wr.setCell ⟨r i1, j1, none⟩ (.bool true) = W5 := ⟨_, rfl⟩
                      rw [hW5] at hM5
                      have HM5 := Lib.hid hM5
                      have HW5 := Lib.hid hW5
                      clear h1 h2 HQ hM5 hW5
                      go_upto_region 22 with fail
                      rw [HW5.out]
                      clear HW5 t0 t1 t2 t3 t4 tf
                      go_wp2_with fail
                      go_roundw
                      case rel => exact ⟨j1 + 1, _, by omega, by go_num, HM5, HQ2⟩
                      case measure => simp [intOf]; omega
                · obtain rfl : j1 = t := by omega
                  have HQ2 := Lib.hid HQ.out.line
                  go_wp2_with fail
                  go_roundw
                  case rel => exact ⟨i1 + 1, B, by omega, by go_num, HM, HQ2⟩
                  case measure => simp [intOf]; omega
            · obtain rfl : i1 = t := by omega
              have HQ2 := Lib.hid HQ.out.phase
              go_wp2_with fail
              go_roundw
              case rel => exact ⟨k + 1, B, by omega, by go_num, HM, HQ2⟩
              case measure => simp [intOf]; omega
        · obtain rfl : k = t := by omega
          go_wp2_with fail
          go_ret
          exact ⟨g, bb, _, _, r, B, rfl, HM.out, by decide, fun a b ha hb => HQ.out.fin HDL.out a b ha hb⟩
end Go.Proofs.Ytbflodefmookiaa.Gr
