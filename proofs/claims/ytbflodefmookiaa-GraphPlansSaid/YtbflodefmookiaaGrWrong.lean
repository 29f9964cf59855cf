/-
  THE DOCUMENT's Wrong.
-/
import Derived.Test.YtbflodefmookiaaGrBelow
import Derived.Test.YtbflodefmookiaaGrLit
import Derived.Test.YtbflodefmookiaaGwFew
namespace Go.Proofs.Ytbflodefmookiaa.Gr
open Go.RowKit Go.Maps Go.Proofs.Ytbflodefmookiaa Go.Proofs.Ytbflodefmookiaa.Pr

theorem allOuts_take {L : List Ed} {j : Nat} {x : Ed} (h : L[j]? = some x) : allOuts (L.take (j + 1)) = allOuts (L.take j) ++ x.outs := by
  unfold allOuts
  rw [List.take_add_one, h]
  simp
theorem nodup_pre {A B : List Bs} (h : (A ++ B).Nodup) : A.Nodup := (List.nodup_append.1 h).1

theorem nq_push {w W : World} {b : Nat} {C : Array Value} {t : TypeId} {a : Option Addr} {c q : Nat} {K : List Bs} {s : Bs} (ht : t ≠ 9) (h : Nq w W b C t (.slice a K.length c) K) (hq : W.heap[q]? = some (.cells #[.string (mk s)] 9 (0, 0))) (hl : K.length + 1 ≤ 1000000) :
    ∃ a' c' W', (Builtin.append_ #[23, 23] 23 #[.slice a K.length c, .slice (some ⟨q, 0, none⟩) 1 1]).run Try.prog W = .ok (.slice a' (K ++ [s]).length c') W' ∧ Nq w W' b C t (.slice a' (K ++ [s]).length c') (K ++ [s]) := by
  obtain ⟨a', c', W', hr, h2, h3⟩ := run_appK (M := [s]) h.own h.bel.size (strs_blk (K := [s]) hq rfl) hl
  refine ⟨a', c', W', hr, ⟨h2, ?_, h.bel.trans ⟨h3.os, h3.tape, h3.output, h3.size, fun q hq => h3.block q (by have := h.bel.size; omega) fun e => ?_⟩⟩⟩
  · rw [h3.block b (lt_some h.bx) fun e => ?_]
    · exact h.bx
    · obtain ⟨_, C2, h2⟩ := owns_block h.own e.symm
      rw [h.bx] at h2
      cases h2
      exact ht rfl
  · have := (owns_block h.own e.symm).1
    omega
theorem Nq.below {w W W' : World} {b : Nat} {C : Array Value} {t : TypeId} {v : Value} {K : List Bs} (h : Nq w W b C t v K) (hb : Below W.heap.size W W') : Nq w W' b C t v K :=
  ⟨owns_below h.own hb, (hb.block _ (lt_some h.bx)).trans h.bx, h.bel.trans (hb.mono h.bel.size)⟩

set_option maxRecDepth 100000 in
set_option maxHeartbeats 32000000 in
theorem wrongR_c {w : World} {u0 u1 : Value} {L : List Ed} (hL : Eds w u0 L) (hs : ∀ e ∈ L, Sm e) (hl : L.length ≤ 1000) :
    Calls Try.prog 13 #[.agg #[u0, u1]] w fun e w' => (∃ n : Nat, e = .returned (.int .i64 (n : Int)) ∧ Wr L n) ∧ Below w.heap.size w w' := by
  have hA := below_alloc w (.cells #[u0, u1] 25)
  have hb := heap_alloc_new w (.cells #[u0, u1] 25)
  obtain ⟨wB, hwB⟩ : ∃ wB, w.alloc (.cells #[u0, u1] 25) = wB := ⟨_, rfl⟩
  rw [hwB] at hA hb
  obtain ⟨a0, k0, rfl, -, -⟩ := id hL
  have hN0 : Nq w wB w.heap.size #[.slice a0 L.length k0, u1] 25 (.slice none ([] : List Bs).length 0) [] := ⟨World.ownsRow_nil _ _ _ _, hb, hA⟩
  have HN0 := Lib.hid hN0
  have HL := Lib.hid hL
  have HS := Lib.hid hs
  have HWB := Lib.hid hwB
  obtain ⟨n, hn⟩ : ∃ n, L.length = n := ⟨_, rfl⟩
  have HN := Lib.hid hn
  rw [hn] at HN0 hl HWB
  obtain ⟨bb, hbb⟩ : ∃ bb, w.heap.size = bb := ⟨_, rfl⟩
  rw [hbb] at HN0
  clear hA hb hwB hN0 hL hs
  go_enter Try.func13, Try.ntmps13
  go_upto_region 1 with fail
  rw [hn, HWB.out]
  clear HWB hn
  go_wp2_with fail
  go_loopw [3, 4, 5] (fun v i _ W => ∃ (t : Nat) (va : Option Addr) (vc : Nat) (A : List Bs), t ≤ n ∧ i = .int .i64 t ∧ v = .slice va A.length vc ∧ Hid (A = allOuts (L.take t)) ∧ Hid (A.Nodup) ∧ A.length ≤ 10 * t ∧ Hid (Nq w W bb #[.slice a0 n k0, u1] 25 (.slice va A.length vc) A)) (fun _ i _ _ => n - (intOf i).toNat)
  case atStart => exact ⟨0, _, _, [], Nat.zero_le _, rfl, rfl, Lib.hid rfl, Lib.hid List.nodup_nil, by simp, HN0⟩
  case round =>
    clear HN0
    obtain ⟨t, va, vc, A, ht, rfl, rfl, HA, HND, hAl, HQ⟩ := hrel
    have c0 : wr.cell? ⟨bb, 0, none⟩ = some (.slice a0 n k0) := by rw [Lib.cell_of_heap HQ.out.bx]; rfl
    by_cases hlt : t < n
    · have hlt2 : t < L.length := by rw [HN.out]; exact hlt
      have hx := List.getElem?_eq_getElem hlt2
      have hsE := HS.out _ (List.getElem_mem hlt2)
      generalize L[t] = x at *
      have hol := hsE.o
      have HX := Lib.hid hx
      have HSE := Lib.hid hsE
      clear hlt2 hsE
      go_wp2_with fail
      clear c0
      go_loopw [3, 5] (fun v i W => ∃ (m : Nat) (va : Option Addr) (vc : Nat) (A2 : List Bs), m ≤ x.outs.length ∧ i = .int .i64 m ∧ v = .slice va A2.length vc ∧ Hid (A2 = A ++ x.outs.take m) ∧ Hid (A2.Nodup) ∧ A2.length ≤ 10 * t + m ∧ Hid (Nq w W bb #[.slice a0 n k0, u1] 25 (.slice va A2.length vc) A2)) (fun _ i _ => x.outs.length - (intOf i).toNat)
      case atStart => exact ⟨0, va, vc, A, Nat.zero_le _, rfl, rfl, Lib.hid (by simp), HND, by omega, HQ⟩
      case round =>
        clear HQ HND
        obtain ⟨m, va, vc, A2, hm, rfl, rfl, HA2, HND, hAl2, HQ⟩ := hrel
        have c0 : wr.cell? ⟨bb, 0, none⟩ = some (.slice a0 n k0) := by rw [Lib.cell_of_heap HQ.out.bx]; rfl
        obtain ⟨ge, off, ce, v0, v1, v2, v3, e1, hge, hE, r0, r1, r2, r3, r4, r5⟩ := (HL.out.below HQ.out.bel).at HX.out
        rw [HN.out] at e1
        cases e1
        have hi0 : (0 : Int) ≤ (t : Int) := by omega
        have hi1 : (t : Int) < (n : Int) := by omega
        obtain ⟨y0, z0, y1, z1, y2, z2, y3, z3, rfl, rfl, rfl, rfl⟩ := hE.sl
        by_cases hlm : m < x.outs.length
        · have hx2 := List.getElem?_eq_getElem hlm
          have htk : x.outs.take (m + 1) = x.outs.take m ++ [x.outs[m]] := by rw [List.take_add_one, hx2]; rfl
          generalize x.outs[m] = s at *
          have hrow := hE.o
          obtain ⟨_, _, eS, _, hSr⟩ := hrow
          cases eS
          rcases hSr with h | ⟨gS, oS, rfl, hgS, hcS⟩
          · rw [h] at hlm; simp at hlm
          have s0 := hcS m s hx2
          have hj0 : (0 : Int) ≤ (m : Int) := by omega
          have hj1 : (m : Int) < (x.outs.length : Int) := by omega
          have hin := in_c (s := s) (owns_strsT HQ.out.own).1 (by omega)
          by_cases hs : s ∈ A2
          · rw [decide_eq_true hs] at hin
            have HW : Hid (Wr L 11) := Lib.hid (.inl ⟨by
              cases hmk : makers L with
              | none => rfl
              | some mkr =>
                exfalso
                have hnd := makers_nd hmk
                have e : allOuts L = allOuts (L.take t) ++ (x.outs.take m ++ [s]) ++ (x.outs.drop (m + 1) ++ allOuts (L.drop (t + 1))) := by
                  have e1 : L = L.take (t + 1) ++ L.drop (t + 1) := (List.take_append_drop _ _).symm
                  have e2 : allOuts L = allOuts (L.take (t + 1)) ++ allOuts (L.drop (t + 1)) := by
                    conv => lhs; rw [e1]
                    unfold allOuts
                    rw [List.flatMap_append]
                  rw [e2, allOuts_take HX.out, ← htk]
                  have e3 : x.outs = x.outs.take (m + 1) ++ x.outs.drop (m + 1) := (List.take_append_drop _ _).symm
                  conv => lhs; rw [e3]
                  simp only [List.append_assoc]
                rw [e] at hnd
                have h2 := nodup_pre hnd
                rw [← List.append_assoc] at h2
                rw [HA2.out, HA.out] at hs
                exact (List.nodup_append.1 h2).2.2 s hs s (by simp) rfl, rfl⟩)
            have HBL := Lib.hid HQ.out.bel
            clear hx2 hcS htk hs hE hge HQ
            go_wp2_with fail
            refine hin.mono ?_
            rintro e w2 ⟨rfl, hb2⟩
            go_wp2_with fail
            go_ret
            exact ⟨⟨11, rfl, HW.out⟩, HBL.out.trans (hb2.mono HBL.out.size)⟩
          · rw [decide_eq_false hs] at hin
            have HA3 : Hid (A2 ++ [s] = A ++ x.outs.take (m + 1)) := Lib.hid (by rw [htk, HA2.out, List.append_assoc])
            have HND3 : Hid (A2 ++ [s]).Nodup := Lib.hid (List.nodup_append.2 ⟨HND.out, by simp, fun a ha b hb => by
              rw [List.mem_singleton.1 hb]
              exact fun e => hs (e ▸ ha)⟩)
            clear hx2 htk hs HND HA2 hcS
            go_wp2_with fail
            refine hin.mono ?_
            rintro e w2 ⟨rfl, hb2⟩
            have hQ2 := HQ.out.below hb2
            have hgS2 := Nat.lt_of_lt_of_le hgS hb2.size
            have c0' : w2.cell? ⟨bb, 0, none⟩ = some (.slice (some ⟨ge, off, none⟩) n k0) := by rw [Lib.cell_of_heap hQ2.bx]; rfl
            have r0' := (cell_of_block (j := off + t * 6) (hb2.block ge hge)).trans r0
            have s0' := (cell_of_block (j := oS + m) (hb2.block gS hgS)).trans s0
            have hA4 := below_alloc w2 (.cells #[.string (mk s)] 9)
            obtain ⟨a', c', W4, hrun, hQ4⟩ := nq_push (by decide) (hQ2.below hA4) (heap_alloc_new w2 (.cells #[.string (mk s)] 9)) (by omega)
            have HQ4 := Lib.hid hQ4
            have HLN : Hid ((A2 ++ [s]).length = A2.length + 1) := Lib.hid (by simp)
            clear hQ2 hA4 hQ4 hin hb2 c0 r0 r1 r2 r3 r4 r5 s0 HQ hE hge hgS
            go_wp2_with (at_builtin; refine wpList_run rfl (.tmp 37) (.tmp 47) rfl rfl rfl hrun ?_)
            clear hrun c0' r0' s0'
            go_roundw
            case rel => exact ⟨m + 1, a', c', A2 ++ [s], by omega, by go_num, by rw [HLN.out], HA3, HND3, by have := HLN.out; omega, HQ4⟩
            case measure => simp [intOf]; omega
        · obtain rfl : m = x.outs.length := by omega
          have HA3 : Hid (A2 = allOuts (L.take (t + 1))) := Lib.hid (by rw [HA2.out, HA.out, List.take_length, allOuts_take HX.out])
          clear hge hE
          go_wp2_with fail
          go_roundw
          case rel => exact ⟨t + 1, va, vc, A2, by omega, by go_num, rfl, HA3, HND, by omega, HQ⟩
          case measure => simp [intOf]; omega
    · obtain rfl : t = n := by omega
      have hndL : (allOuts L).Nodup := by
        have := HND.out
        rw [HA.out, ← HN.out, List.take_length] at this
        exact this
      obtain ⟨mkr, hmk⟩ := makers_ex hndL
      have c1 : wr.cell? ⟨bb, 1, none⟩ = some u1 := by rw [Lib.cell_of_heap HQ.out.bx]; rfl
      have hbl := belowR_c (u1 := u1) (HL.out.below HQ.out.bel) hmk HS.out (by rw [HN.out]; exact hl)
      rw [HN.out] at hbl
      have HBL := Lib.hid HQ.out.bel
      have HMK := Lib.hid hmk
      clear HQ hndL hmk
      go_wp2_with fail
      refine hbl.mono ?_
      rintro e w2 ⟨g, b2, C2, ty2, rf, B, rfl, hM, -, hB⟩
      have HM := Lib.hid hM
      have HBB := Lib.hid hB
      have HBL2 := Lib.hid (HBL.out.trans (hM.bel.mono HBL.out.size))
      clear hbl hM hB c0 c1
      go_wp2_with fail
      go_loopw [7] (fun i W => ∃ j : Nat, j ≤ t ∧ i = .int .i64 j ∧ Hid (∀ a, a < j → B a a = false) ∧ Hid (Below w2.heap.size w2 W)) (fun i _ => t - (intOf i).toNat)
      case atStart => exact ⟨0, Nat.zero_le _, rfl, Lib.hid (fun a h => by omega), Lib.hid (Below.refl _ _)⟩
      case round =>
        obtain ⟨j, hj, rfl, HF, HB2⟩ := hrel
        by_cases hlj : j < t
        · have hMr := HM.out.below HB2.out
          have t0 := hMr.cell0 hlj
          have t1 := hMr.cell1 hlj hlj
          have q0 : (0 : Int) ≤ (j : Int) := by omega
          have q1 : (j : Int) < (t : Int) := by omega
          have HBW := Lib.hid (HBL2.out.trans (HB2.out.mono HBL2.out.size))
          cases h1 : B j j with
          | true =>
            have HW : Hid (Wr L 12) := Lib.hid (.inr ⟨mkr, HMK.out, .inl ⟨rfl, j, by rw [HN.out]; exact hlj, (HBB.out j j hlj hlj).1 h1⟩⟩)
            rw [h1] at t1
            clear h1 hMr
            go_wp2_with fail
            go_ret
            exact ⟨⟨12, rfl, HW.out⟩, HBW.out⟩
          | false =>
            have HF2 : Hid (∀ a, a < j + 1 → B a a = false) := Lib.hid fun a ha => by
              by_cases e : a = j
              · rw [e]; exact h1
              · exact HF.out a (by omega)
            rw [h1] at t1
            clear h1 hMr
            go_wp2_with fail
            go_roundw
            case rel => exact ⟨j + 1, by omega, by go_num, HF2, HB2⟩
            case measure => simp [intOf]; omega
        · obtain rfl : j = t := by omega
          have HW : Hid (Wr L 0) := Lib.hid (.inr ⟨mkr, HMK.out, .inr ⟨rfl, fun i hi hc => by
            have hi : i < j := by rw [← HN.out]; exact hi
            have := (HBB.out i i hi hi).2 hc
            rw [HF.out i hi] at this
            cases this⟩⟩)
          have HBW := Lib.hid (HBL2.out.trans (HB2.out.mono HBL2.out.size))
          go_wp2_with fail
          go_ret
          exact ⟨⟨0, rfl, HW.out⟩, HBW.out⟩
end Go.Proofs.Ytbflodefmookiaa.Gr
