/-
  THE DOCUMENT's FOLD, WALKED.
-/
import Derived.Test.YtdijpoemimebmaaRefFold
namespace Go.Proofs.Ytdijpoemimebmaa.Rn
open Go.RowKit
open Go.Proofs.Ytdijpoemimebmaa.Cr

theorem less_yes {x y : Run} (h : nmOf x < nmOf y) : Op.bytesLess x.out.toList y.out.toList = true := by
  rw [bytesLess_eq, ByteArray.toList_eq, ByteArray.toList_eq]
  exact decide_eq_true h
theorem less_no {x y : Run} (h : ¬ nmOf x < nmOf y) : Op.bytesLess x.out.toList y.out.toList = false := by
  rw [bytesLess_eq, ByteArray.toList_eq, ByteArray.toList_eq]
  exact decide_eq_false h

set_option maxRecDepth 100000 in
set_option maxHeartbeats 8000000 in
theorem refFold_c {w : World} {v : Value} {L : List Run} (h : RunRow w v L) (hL : L.length ≤ 1000) :
    Calls Try.prog 22 #[v] w fun e W => ∃ v' G, e = .returned v' ∧ DF w.heap.size w W v' G ∧ Fo L (G.map (·.1)) := by
  obtain ⟨a, c, rfl, hnil, hle, hrow⟩ := h.at
  have HROW := Lib.hid hrow
  have D0 : Hid (DF w.heap.size w w (.slice Option.none 0 0) []) := Lib.hid ⟨World.ownsRow_nil _ _ _ _, by simp, Nat.le_refl _, Nat.le_refl _, Below.refl _ _⟩
  clear hrow h hnil
  go_enter Try.func22, Try.ntmps22
  go_wp2_with fail
  go_loopw [3, 4, 5, 6] (fun v3 i _ _ wr => ∃ j : Nat, j ≤ L.length ∧ i = .int .i64 j ∧ ∃ (a1 : Option Addr) (c1 : Nat) (G : List Gr), v3 = .slice a1 G.length c1 ∧ Hid (DF w.heap.size w wr (.slice a1 G.length c1) G) ∧ Hid (Fo (L.take j) (G.map (·.1)))) (fun _ i _ _ _ => L.length - (intOf i).toNat)
  case atStart => exact ⟨0, Nat.zero_le _, rfl, Option.none, 0, [], rfl, D0, Lib.hid fo_nil⟩
  case round =>
    obtain ⟨j, hj, rfl, a1, c1, G, rfl, hD, hF⟩ := hrel
    clear D0
    have hG1 : G.length ≤ 1000 := by have := fo_le hF.out; rw [List.length_map, List.length_take] at this; omega
    have HG1 := Lib.hid hG1
    clear hG1
    by_cases hlt : j < L.length
    · have hx := List.getElem?_eq_getElem hlt
      rcases HROW.out with h | ⟨b, off, rfl, hb, hcell⟩
      · rw [h] at hlt; simp at hlt
      obtain ⟨ai, ni, ci, af, nf, cf, hAt0⟩ := hcell j _ hx
      have htk : L.take (j + 1) = L.take j ++ [L[j]] := by
        rw [List.take_add_one, hx]
        generalize L[j] = y
        rfl
      generalize L[j] = x at *
      have HTK := Lib.hid htk
      have HX := Lib.hid hAt0
      have HB := Lib.hid hb
      have hi0 : (0 : Int) ≤ (j : Int) := by omega
      have hi1 : (j : Int) < (L.length : Int) := by omega
      have H0 : Hid (∀ y ∈ (G.map (·.1)).take 0, nmOf y < nmOf x) := Lib.hid (by simp)
      have XG : Hid ((∃ ai' ni' ci' af' nf' cf', ((x, (Value.slice ai ni ci, Value.slice af nf cf)) : Gr).2 = (Value.slice ai' ni' ci', Value.slice af' nf' cf')) ∧ InRow w (.slice ai ni ci) x.ins ∧ FdRow w (.slice af nf cf) x.found) := Lib.hid ⟨⟨_, _, _, _, _, _, rfl⟩, hAt0.ins, hAt0.fds⟩
      clear htk hcell hx hAt0 hb
      obtain ⟨wo, rfl⟩ : ∃ wo, wo = wr := ⟨_, rfl⟩
      go_wp2_with fail
      go_loopw [5] (fun k wi => ∃ m : Nat, m ≤ G.length ∧ k = .int .i64 m ∧ Hid (DF w.heap.size w wi (.slice a1 G.length c1) G) ∧ Hid (∀ y ∈ (G.map (·.1)).take m, nmOf y < nmOf x)) (fun k _ => G.length - (intOf k).toNat)
      case atStart => exact ⟨0, Nat.zero_le _, rfl, hD, H0⟩
      case round =>
        obtain ⟨m, hm, rfl, hDi, hlo⟩ := hrel
        clear H0 hD
        have hm0 : (0 : Int) ≤ (m : Int) := by omega
        have hmb : m ≤ 1000 := by have := HG1.out; omega
        by_cases hml : m < G.length
        · obtain ⟨q, hq⟩ : ∃ q, G[m]? = some q := ⟨_, List.getElem?_eq_getElem hml⟩
          obtain ⟨_, _, e1, hgc, hc1⟩ := hDi.out.at
          obtain ⟨rfl, -, rfl⟩ := Value.slice.inj e1
          rcases hc1 with ⟨-, h0, -⟩ | ⟨g, rfl, hgl, hc⟩
          · rw [h0] at hq; simp at hq
          obtain ⟨_, _, _, _, _, _, -, -, hAq⟩ := hc m q hq
          have y0 := hAq.c0
          have x0 := (HX.out.below HB.out hDi.out.bel).c0
          have hm1 : (m : Int) < (G.length : Int) := by omega
          have hym : (G.map (·.1))[m]? = some q.1 := by rw [List.getElem?_map, hq]; rfl
          have HYM := Lib.hid hym
          have HQ := Lib.hid hq
          obtain ⟨y, yi, yf⟩ := q
          clear hc hAq e1 hym hq
          by_cases hless : nmOf y < nmOf x
          · have t0 := less_yes hless
            have HLO := Lib.hid (fo_lo hlo.out HYM.out hless)
            clear hless
            go_wp2_with fail
            go_quiet (fail)
            go_wp2_with fail
            go_roundw
            case rel => exact ⟨m + 1, by omega, by go_num, Lib.hid (hDi.out.keep (below_drawn (Below.refl _ _) _)), HLO⟩
            case measure => simp [intOf]; omega
          · have t0 := less_no hless
            have HNL := Lib.hid hless
            clear hless
            go_wp2_with fail
            go_quiet (fail)
            go_wp2_with fail
            have hDj := Lib.hid (hDi.out.keep (below_drawn (Below.refl wr.heap.size wr) nq))
            have hglq : g < (wr.drewN nq).heap.size := hgl
            generalize wr.drewN nq = wj at *
            obtain ⟨_, _, e1, -, hc1⟩ := hDj.out.at
            obtain ⟨e2, -, rfl⟩ := Value.slice.inj e1
            rcases hc1 with ⟨h1, -, -⟩ | ⟨g', h1, -, hc⟩
            · rw [← e2] at h1; cases h1
            rw [← e2] at h1
            cases h1
            obtain ⟨_, _, _, _, _, _, -, -, hAq⟩ := hc m _ HQ.out
            have y0 := hAq.c0
            have x0 := (HX.out.below HB.out hDj.out.bel).c0
            clear hc hAq e1 e2 hDi
            by_cases heq : y.out = x.out
            · have t1 : (y.out.toList == x.out.toList) = true := by rw [heq]; simp
              have HEQ := Lib.hid heq
              clear heq t0
              obtain ⟨_, _, e1, -, hc1⟩ := hDj.out.at
              obtain ⟨e2, -, rfl⟩ := Value.slice.inj e1
              rcases hc1 with ⟨h1, -, -⟩ | ⟨g', h1, -, hc⟩
              · rw [← e2] at h1; cases h1
              rw [← e2] at h1
              cases h1
              obtain ⟨_, _, _, _, _, _, -, -, hAq⟩ := hc m _ HQ.out
              clear y0 x0
              obtain ⟨y0, y1, y2, y3, y4, y5, -, -⟩ := hAq
              obtain ⟨x0, x1, x2, x3, x4, x5, -, -⟩ := HX.out.below HB.out hDj.out.bel
              have f0 := hDj.out.own.frozenAt (m * 6)
              have f1 := hDj.out.own.frozenAt (m * 6 + 1)
              have f2 := hDj.out.own.frozenAt (m * 6 + 2)
              have f3 := hDj.out.own.frozenAt (m * 6 + 3)
              have f4 := hDj.out.own.frozenAt (m * 6 + 4)
              have f5 := hDj.out.own.frozenAt (m * 6 + 5)
              have SET := Lib.hid (fun nq => (hDj.out.keep (below_drawn (Below.refl wj.heap.size wj) nq)).set (k := m) (x := (x, (Value.slice ai ni ci, Value.slice af nf cf))) (by omega) XG.out)
              have FSET : Hid (Fo (L.take (j + 1)) ((G.set m (x, (Value.slice ai ni ci, Value.slice af nf cf))).map (·.1))) := Lib.hid (by
                rw [HTK.out, List.map_set]
                exact fo_set hF.out HYM.out (by unfold nmOf; rw [HEQ.out]))
              clear hc e1 e2
              go_upto_region 8 with fail
              go_quiet (fail)
              go_wp2_with fail
              go_roundw
              case rel => exact ⟨j + 1, by omega, by go_num, _, _, G.set m (x, (Value.slice ai ni ci, Value.slice af nf cf)), by rw [List.length_set], Lib.hid (by rw [List.length_set]; exact SET.out _), FSET⟩
              case measure => simp [intOf]; omega
            · have t1 : (y.out.toList == x.out.toList) = false := Pk.toList_ne heq
              have HHI := Lib.hid (fo_hi hF.out HYM.out HNL.out (fun e => heq (bsOf_inj e)))
              clear heq t0
              go_upto_region 8 with fail
              go_quiet (fail)
              go_wp2_with fail
              have hDk := Lib.hid (hDj.out.keep (below_drawn (Below.refl wj.heap.size wj) nq))
              generalize wj.drewN nq = wk at *
              have HMG : Hid (m < c1) := Lib.hid (by omega)
              clear hDj hglq hgl
              have hfi := Lib.hid (fo_ins (r := x) hF.out hlo.out HHI.out)
              have HM : Hid (m ≤ (G).length) := Lib.hid (by first | omega | exact Nat.le_refl _)
              have OB : Hid (∀ z, Value.ownBlock (.slice (some ⟨g, 0, Option.none⟩) G.length c1) = some z → z < wk.heap.size) := Lib.hid (fun z hz => (hDk.out.own.lt z hz).2)
              have O0 := Lib.hid (hDk.out.keep (below_drew (Below.refl wk.heap.size wk)))
              have E0 := df_empty (w := w) (W := wk) (B := wk.heap.size) hDk.out.bel (Nat.le_refl _) hDk.out.bel.size
              have EA := Lib.hid (E0.keep (below_drew (Below.refl _ _)))
              have EB := Lib.hid ((E0.keep (Pk.below_alloc _ (.cells #[.string x.out, .string x.cmd, .int .i64 x.time, .int .i64 x.mark, .slice ai ni ci, .slice af nf cf] 25))).keep (below_drew (Below.refl _ _)))
              have P0 := hDk.out.keep (Pk.below_alloc wk (.cells #[] 25))
              have P1 := hDk.out.keep (Pk.below_alloc wk (.cells #[.string x.out, .string x.cmd, .int .i64 x.time, .int .i64 x.mark, .slice ai ni ci, .slice af nf cf] 25))
              have OA := Lib.hid (P0.keep (below_drew (Below.refl _ _)))
              have OBB := Lib.hid ((P0.keep (Pk.below_alloc _ (.cells #[.string x.out, .string x.cmd, .int .i64 x.time, .int .i64 x.mark, .slice ai ni ci, .slice af nf cf] 25))).keep (below_drew (Below.refl _ _)))
              have OX := Lib.hid (P1.keep (below_drew (Below.refl _ _)))
              have EC := Lib.hid ((df_empty (w := w) (W := wk.alloc (.cells #[.string x.out, .string x.cmd, .int .i64 x.time, .int .i64 x.mark, .slice ai ni ci, .slice af nf cf] 25)) (B := wk.heap.size) P1.bel (by rw [World.size_alloc]; exact Nat.le_succ _) hDk.out.bel.size).keep (below_drew (Below.refl _ _)))
              have OC := Lib.hid ((P1.keep (Pk.below_alloc _ (.cells #[] 25))).keep (below_drew (Below.refl _ _)))
              have NB : Hid (∀ j' u, [.string x.out, .string x.cmd, .int .i64 x.time, .int .i64 x.mark, .slice ai ni ci, .slice af nf cf][j']? = some u → ((wk.alloc (.cells #[] 25)).alloc (.cells #[.string x.out, .string x.cmd, .int .i64 x.time, .int .i64 x.mark, .slice ai ni ci, .slice af nf cf] 25)).drew.cell? ((⟨(wk.alloc (.cells #[] 25)).heap.size, 0, Option.none⟩ : Addr).add j') = some u) := Lib.hid (fun j' u hu => run_newsE (wk.alloc (.cells #[] 25)) x (.slice ai ni ci) (.slice af nf cf) j' u hu)
              have NC : Hid (∀ j' u, [.string x.out, .string x.cmd, .int .i64 x.time, .int .i64 x.mark, .slice ai ni ci, .slice af nf cf][j']? = some u → ((wk.alloc (.cells #[.string x.out, .string x.cmd, .int .i64 x.time, .int .i64 x.mark, .slice ai ni ci, .slice af nf cf] 25)).alloc (.cells #[] 25)).drew.cell? ((⟨wk.heap.size, 0, Option.none⟩ : Addr).add j') = some u) := Lib.hid (fun j' u hu => by
                have := run_newsE wk x (.slice ai ni ci) (.slice af nf cf) j' u hu
                rw [Go.WideShapes.add_plain] at this ⊢
                exact (cell_of_block (w' := ((wk.alloc (.cells #[.string x.out, .string x.cmd, .int .i64 x.time, .int .i64 x.mark, .slice ai ni ci, .slice af nf cf] 25)).alloc (.cells #[] 25)).drew) (Below.heap_alloc (wk.alloc (.cells #[.string x.out, .string x.cmd, .int .i64 x.time, .int .i64 x.mark, .slice ai ni ci, .slice af nf cf] 25)) _ _ (by rw [World.size_alloc]; exact Nat.lt_succ_self _))).trans this)
              clear E0 P0 P1
              have ONE := Lib.hid (run_oneE x ai af ni ci nf cf)
              have XS : Hid (∀ w', Below w.heap.size w w' → (w'.cell? ⟨b, off + j * 6, Option.none⟩ = some (.string x.out) ∧ w'.cell? ⟨b, off + j * 6 + 1, Option.none⟩ = some (.string x.cmd) ∧ w'.cell? ⟨b, off + j * 6 + 2, Option.none⟩ = some (.int .i64 x.time) ∧ w'.cell? ⟨b, off + j * 6 + 3, Option.none⟩ = some (.int .i64 x.mark) ∧ w'.cell? ⟨b, off + j * 6 + 4, Option.none⟩ = some (.slice ai ni ci) ∧ w'.cell? ⟨b, off + j * 6 + 5, Option.none⟩ = some (.slice af nf cf))) := Lib.hid (fun w' hb => by
                obtain ⟨x0, x1, x2, x3, x4, x5, -, -⟩ := HX.out.below HB.out hb
                exact ⟨x0, x1, x2, x3, x4, x5⟩)
              have q1 : (0 : Int) ≤ (m : Int) := by omega
              have q2 : (m : Int) ≤ (G.length : Int) := by omega
              have q3 : (m : Int) ≤ (c1 : Int) := by omega
              have q4 : (G.length : Int) ≤ (c1 : Int) := by omega
              have q5 : (m : Int) < (c1 : Int) := by omega
              go_region_held3 (fun w' => w'.cell? ⟨b, off + j * 6, Option.none⟩ = some (.string x.out) ∧ w'.cell? ⟨b, off + j * 6 + 1, Option.none⟩ = some (.string x.cmd) ∧ w'.cell? ⟨b, off + j * 6 + 2, Option.none⟩ = some (.int .i64 x.time) ∧ w'.cell? ⟨b, off + j * 6 + 3, Option.none⟩ = some (.int .i64 x.mark) ∧ w'.cell? ⟨b, off + j * 6 + 4, Option.none⟩ = some (.slice ai ni ci) ∧ w'.cell? ⟨b, off + j * 6 + 5, Option.none⟩ = some (.slice af nf cf))
                (first | with_reducible exact XS.out _ O0.out.bel | with_reducible exact XS.out _ OA.out.bel | with_reducible exact XS.out _ OX.out.bel | with_reducible exact XS.out _ OBB.out.bel | with_reducible exact XS.out _ OC.out.bel | with_reducible exact XS.out _ O3.out.bel | with_reducible exact XS.out _ O2.out.bel | with_reducible exact XS.out _ O9.out.bel | fail)
                (first
                  | (refine step_appD rfl (.tmp 56) (.tmp 59) rfl (by simp [Act.eval]) EA.out.own (by simp [Act.eval]) (news := runV (G.take m)) (m := m) (.inr ⟨⟨g, 0, Option.none⟩, c1, rfl, OA.out.cellsT⟩) (by rw [runV_length, List.length_take, Nat.min_eq_left HM.out]) (DF.one (DF.take OA.out.els)) (by (have := HM.out; have := HG1.out; show 0 + m ≤ 1000000; omega)) EA.out.low2 ?_; intro ta tc U hown2 hg2; obtain ⟨p1, p2⟩ := ins_one (m := m) (G := G) EA.out OA.out OB.out hg2 HM.out hown2; have M2 := Lib.hid p1; have O2 := Lib.hid p2; have M3 := Lib.hid (p1.keep (Pk.below_alloc U (.cells #[.string x.out, .string x.cmd, .int .i64 x.time, .int .i64 x.mark, .slice ai ni ci, .slice af nf cf] 25))); have O3 := Lib.hid (p2.keep (Pk.below_alloc U (.cells #[.string x.out, .string x.cmd, .int .i64 x.time, .int .i64 x.mark, .slice ai ni ci, .slice af nf cf] 25))); have NA := Lib.hid (run_newsE U x (.slice ai ni ci) (.slice af nf cf)); clear p1 p2 hown2 hg2)
                  | (refine step_appD rfl (.tmp 56) (.tmp 59) rfl (by simp [Act.eval]) EB.out.own (by simp [Act.eval]) (news := runV (G.take m)) (m := m) (.inr ⟨⟨g, 0, Option.none⟩, c1, rfl, OBB.out.cellsT⟩) (by rw [runV_length, List.length_take, Nat.min_eq_left HM.out]) (DF.one (DF.take OBB.out.els)) (by (have := HM.out; have := HG1.out; show 0 + m ≤ 1000000; omega)) EB.out.low2 ?_; intro ta tc U hown2 hg2; obtain ⟨p1, p2⟩ := ins_one (m := m) (G := G) EB.out OBB.out OB.out hg2 HM.out hown2; have M2 := Lib.hid p1; have O2 := Lib.hid p2; have N2 := Lib.hid (cells_kept NB.out lt_alloc2 ne_alloc hg2); clear p1 p2 hown2 hg2)
                  | (refine step_appD rfl (.tmp 56) (.tmp 59) rfl (by simp [Act.eval]) EC.out.own (by simp [Act.eval]) (news := runV (G.take m)) (m := m) (.inr ⟨⟨g, 0, Option.none⟩, c1, rfl, OC.out.cellsT⟩) (by rw [runV_length, List.length_take, Nat.min_eq_left HM.out]) (DF.one (DF.take OC.out.els)) (by (have := HM.out; have := HG1.out; show 0 + m ≤ 1000000; omega)) EC.out.low2 ?_; intro ta tc U hown2 hg2; obtain ⟨p1, p2⟩ := ins_one (m := m) (G := G) EC.out OC.out OB.out hg2 HM.out hown2; have M2 := Lib.hid p1; have O2 := Lib.hid p2; have N2 := Lib.hid (cells_kept NC.out lt_alloc3 ne_alloc2 hg2); clear p1 p2 hown2 hg2)
                  | (refine step_appD rfl (.tmp 60) (.tmp 65) rfl (by simp [Act.eval]) M3.out.own (by simp [Act.eval]) (news := [.string x.out, .string x.cmd, .int .i64 x.time, .int .i64 x.mark, .slice ai ni ci, .slice af nf cf]) (m := 1) (.inr ⟨⟨U.heap.size, 0, Option.none⟩, 1, rfl, NA.out⟩) rfl ONE.out (by (have := HM.out; have := HG1.out; rw [List.length_take]; omega)) M3.out.low2 ?_; intro ra rc W9 hown9 hg9; obtain ⟨p1, p2⟩ := ins_two (m := m) (x := (x, (Value.slice ai ni ci, Value.slice af nf cf))) M3.out (by (rw [List.length_take]; exact Nat.min_eq_left HM.out)) O3.out OB.out hg9 XG.out (by (rw [List.length_take, Nat.min_eq_left HM.out] at hown9; exact hown9)); have M9 := Lib.hid p1; have O9 := Lib.hid p2; clear p1 p2 hown9 hg9)
                  | (refine step_appD rfl (.tmp 60) (.tmp 65) rfl (by simp [Act.eval]) M2.out.own (by simp [Act.eval]) (news := [.string x.out, .string x.cmd, .int .i64 x.time, .int .i64 x.mark, .slice ai ni ci, .slice af nf cf]) (m := 1) (.inr ⟨⟨(wk.alloc (.cells #[] 25)).heap.size, 0, Option.none⟩, 1, rfl, N2.out⟩) rfl ONE.out (by (have := HM.out; have := HG1.out; rw [List.length_take]; omega)) M2.out.low2 ?_; intro ra rc W9 hown9 hg9; obtain ⟨p1, p2⟩ := ins_two (m := m) (x := (x, (Value.slice ai ni ci, Value.slice af nf cf))) M2.out (by (rw [List.length_take]; exact Nat.min_eq_left HM.out)) O2.out OB.out hg9 XG.out (by (rw [List.length_take, Nat.min_eq_left HM.out] at hown9; exact hown9)); have M9 := Lib.hid p1; have O9 := Lib.hid p2; clear p1 p2 hown9 hg9)
                  | (refine step_appD rfl (.tmp 60) (.tmp 65) rfl (by simp [Act.eval]) M2.out.own (by simp [Act.eval]) (news := [.string x.out, .string x.cmd, .int .i64 x.time, .int .i64 x.mark, .slice ai ni ci, .slice af nf cf]) (m := 1) (.inr ⟨⟨wk.heap.size, 0, Option.none⟩, 1, rfl, N2.out⟩) rfl ONE.out (by (have := HM.out; have := HG1.out; rw [List.length_take]; omega)) M2.out.low2 ?_; intro ra rc W9 hown9 hg9; obtain ⟨p1, p2⟩ := ins_two (m := m) (x := (x, (Value.slice ai ni ci, Value.slice af nf cf))) M2.out (by (rw [List.length_take]; exact Nat.min_eq_left HM.out)) O2.out OB.out hg9 XG.out (by (rw [List.length_take, Nat.min_eq_left HM.out] at hown9; exact hown9)); have M9 := Lib.hid p1; have O9 := Lib.hid p2; clear p1 p2 hown9 hg9))
              all_goals
                go_wp2_with (at_builtin; refine wpList_appD rfl (.tmp 67) (.tmp 70) rfl rfl (DF.own1 (m := m) (G := G) M9.out HM.out) rfl (news := runV (G.drop m)) (m := G.length - m) (.inr ⟨⟨g, m * 6, Option.none⟩, c1 - m, rfl, O9.out.cells⟩) (by rw [runV_length, List.length_drop]) (DF.one (DF.drop O9.out.els)) (by (have := HM.out; have := HG1.out; omega)) M9.out.low2 ?_; intro za zc W10 hown10 hg10; have M10 := Lib.hid (M9.out.app (M := G.drop m) (DF.drop O9.out.els) hg10 (by rw [List.length_append, List.length_take, List.length_drop, Nat.min_eq_left HM.out]; exact hown10)); clear hown10 hg10)
                go_roundw
                case rel => exact ⟨j + 1, by omega, by go_num, za, zc, (List.take m G ++ [(x, (Value.slice ai ni ci, Value.slice af nf cf))]) ++ List.drop m G, by rw [List.length_append, List.length_append, List.length_take, List.length_drop, Nat.min_eq_left HM.out]; rfl, Lib.hid (by rw [List.length_append, List.length_append, List.length_take, List.length_drop, Nat.min_eq_left HM.out]; exact M10.out.base), Lib.hid (by rw [HTK.out]; exact fo_gr (m := m) (G := G) (x := (x, (Value.slice ai ni ci, Value.slice af nf cf))) hfi.out)⟩
                case measure => simp [intOf]; omega
        · obtain rfl : m = G.length := by omega
          have HHI : Hid (∀ z ∈ (G.map (·.1)).drop G.length, nmOf x < nmOf z) := Lib.hid (by rw [List.drop_of_length_le (by simp)]; simp)
          go_wp2_with fail
          go_quiet (fail)
          go_wp2_with fail
          have hDj := Lib.hid (hDi.out.keep (below_drawn (Below.refl wr.heap.size wr) nq))
          generalize wr.drewN nq = wj at *
          clear hDi
          go_upto_region 8 with fail
          go_quiet (fail)
          go_wp2_with fail
          have hDk := Lib.hid (hDj.out.keep (below_drawn (Below.refl wj.heap.size wj) nq))
          generalize wj.drewN nq = wk at *
          clear hDj
          obtain ⟨_, _, e1, hgc, hc1⟩ := hDk.out.at
          obtain ⟨rfl, -, rfl⟩ := Value.slice.inj e1
          rcases hc1 with ⟨rfl, hG0, rfl⟩ | ⟨g, rfl, hgl, -⟩
          · subst hG0
            simp only [List.length_nil] at *
            clear e1 hgc
            have hfi := Lib.hid (fo_ins (r := x) hF.out hlo.out HHI.out)
            have HM : Hid (0 ≤ (([] : List Gr)).length) := Lib.hid (by first | omega | exact Nat.le_refl _)
            have OB : Hid (∀ z, Value.ownBlock (.slice Option.none 0 0) = some z → z < wk.heap.size) := Lib.hid (fun z hz => (hDk.out.own.lt z hz).2)
            have O0 := Lib.hid (hDk.out.keep (below_drew (Below.refl wk.heap.size wk)))
            have E0 := df_empty (w := w) (W := wk) (B := wk.heap.size) hDk.out.bel (Nat.le_refl _) hDk.out.bel.size
            have EA := Lib.hid (E0.keep (below_drew (Below.refl _ _)))
            have EB := Lib.hid ((E0.keep (Pk.below_alloc _ (.cells #[.string x.out, .string x.cmd, .int .i64 x.time, .int .i64 x.mark, .slice ai ni ci, .slice af nf cf] 25))).keep (below_drew (Below.refl _ _)))
            have P0 := hDk.out.keep (Pk.below_alloc wk (.cells #[] 25))
            have P1 := hDk.out.keep (Pk.below_alloc wk (.cells #[.string x.out, .string x.cmd, .int .i64 x.time, .int .i64 x.mark, .slice ai ni ci, .slice af nf cf] 25))
            have OA := Lib.hid (P0.keep (below_drew (Below.refl _ _)))
            have OBB := Lib.hid ((P0.keep (Pk.below_alloc _ (.cells #[.string x.out, .string x.cmd, .int .i64 x.time, .int .i64 x.mark, .slice ai ni ci, .slice af nf cf] 25))).keep (below_drew (Below.refl _ _)))
            have OX := Lib.hid (P1.keep (below_drew (Below.refl _ _)))
            have EC := Lib.hid ((df_empty (w := w) (W := wk.alloc (.cells #[.string x.out, .string x.cmd, .int .i64 x.time, .int .i64 x.mark, .slice ai ni ci, .slice af nf cf] 25)) (B := wk.heap.size) P1.bel (by rw [World.size_alloc]; exact Nat.le_succ _) hDk.out.bel.size).keep (below_drew (Below.refl _ _)))
            have OC := Lib.hid ((P1.keep (Pk.below_alloc _ (.cells #[] 25))).keep (below_drew (Below.refl _ _)))
            have NB : Hid (∀ j' u, [.string x.out, .string x.cmd, .int .i64 x.time, .int .i64 x.mark, .slice ai ni ci, .slice af nf cf][j']? = some u → ((wk.alloc (.cells #[] 25)).alloc (.cells #[.string x.out, .string x.cmd, .int .i64 x.time, .int .i64 x.mark, .slice ai ni ci, .slice af nf cf] 25)).drew.cell? ((⟨(wk.alloc (.cells #[] 25)).heap.size, 0, Option.none⟩ : Addr).add j') = some u) := Lib.hid (fun j' u hu => run_newsE (wk.alloc (.cells #[] 25)) x (.slice ai ni ci) (.slice af nf cf) j' u hu)
            have NC : Hid (∀ j' u, [.string x.out, .string x.cmd, .int .i64 x.time, .int .i64 x.mark, .slice ai ni ci, .slice af nf cf][j']? = some u → ((wk.alloc (.cells #[.string x.out, .string x.cmd, .int .i64 x.time, .int .i64 x.mark, .slice ai ni ci, .slice af nf cf] 25)).alloc (.cells #[] 25)).drew.cell? ((⟨wk.heap.size, 0, Option.none⟩ : Addr).add j') = some u) := Lib.hid (fun j' u hu => by
              have := run_newsE wk x (.slice ai ni ci) (.slice af nf cf) j' u hu
              rw [Go.WideShapes.add_plain] at this ⊢
              exact (cell_of_block (w' := ((wk.alloc (.cells #[.string x.out, .string x.cmd, .int .i64 x.time, .int .i64 x.mark, .slice ai ni ci, .slice af nf cf] 25)).alloc (.cells #[] 25)).drew) (Below.heap_alloc (wk.alloc (.cells #[.string x.out, .string x.cmd, .int .i64 x.time, .int .i64 x.mark, .slice ai ni ci, .slice af nf cf] 25)) _ _ (by rw [World.size_alloc]; exact Nat.lt_succ_self _))).trans this)
            clear E0 P0 P1
            have ONE := Lib.hid (run_oneE x ai af ni ci nf cf)
            have XS : Hid (∀ w', Below w.heap.size w w' → (w'.cell? ⟨b, off + j * 6, Option.none⟩ = some (.string x.out) ∧ w'.cell? ⟨b, off + j * 6 + 1, Option.none⟩ = some (.string x.cmd) ∧ w'.cell? ⟨b, off + j * 6 + 2, Option.none⟩ = some (.int .i64 x.time) ∧ w'.cell? ⟨b, off + j * 6 + 3, Option.none⟩ = some (.int .i64 x.mark) ∧ w'.cell? ⟨b, off + j * 6 + 4, Option.none⟩ = some (.slice ai ni ci) ∧ w'.cell? ⟨b, off + j * 6 + 5, Option.none⟩ = some (.slice af nf cf))) := Lib.hid (fun w' hb => by
              obtain ⟨x0, x1, x2, x3, x4, x5, -, -⟩ := HX.out.below HB.out hb
              exact ⟨x0, x1, x2, x3, x4, x5⟩)
            go_region_held3 (fun w' => w'.cell? ⟨b, off + j * 6, Option.none⟩ = some (.string x.out) ∧ w'.cell? ⟨b, off + j * 6 + 1, Option.none⟩ = some (.string x.cmd) ∧ w'.cell? ⟨b, off + j * 6 + 2, Option.none⟩ = some (.int .i64 x.time) ∧ w'.cell? ⟨b, off + j * 6 + 3, Option.none⟩ = some (.int .i64 x.mark) ∧ w'.cell? ⟨b, off + j * 6 + 4, Option.none⟩ = some (.slice ai ni ci) ∧ w'.cell? ⟨b, off + j * 6 + 5, Option.none⟩ = some (.slice af nf cf))
              (first | with_reducible exact XS.out _ O0.out.bel | with_reducible exact XS.out _ OA.out.bel | with_reducible exact XS.out _ OX.out.bel | with_reducible exact XS.out _ OBB.out.bel | with_reducible exact XS.out _ OC.out.bel | with_reducible exact XS.out _ O3.out.bel | with_reducible exact XS.out _ O2.out.bel | with_reducible exact XS.out _ O9.out.bel | fail)
              (first
                | (refine step_appD rfl (.tmp 56) (.tmp 59) rfl (by simp [Act.eval]) EA.out.own (by simp [Act.eval]) (news := []) (m := 0) (.inl ⟨rfl, rfl, rfl⟩) rfl (by simp) (by decide) EA.out.low2 ?_; intro ta tc U hown2 hg2; obtain ⟨p1, p2⟩ := ins_one (m := 0) (G := ([] : List Gr)) EA.out OA.out OB.out hg2 HM.out hown2; have M2 := Lib.hid p1; have O2 := Lib.hid p2; have M3 := Lib.hid (p1.keep (Pk.below_alloc U (.cells #[.string x.out, .string x.cmd, .int .i64 x.time, .int .i64 x.mark, .slice ai ni ci, .slice af nf cf] 25))); have O3 := Lib.hid (p2.keep (Pk.below_alloc U (.cells #[.string x.out, .string x.cmd, .int .i64 x.time, .int .i64 x.mark, .slice ai ni ci, .slice af nf cf] 25))); have NA := Lib.hid (run_newsE U x (.slice ai ni ci) (.slice af nf cf)); clear p1 p2 hown2 hg2)
                | (refine step_appD rfl (.tmp 56) (.tmp 59) rfl (by simp [Act.eval]) EB.out.own (by simp [Act.eval]) (news := []) (m := 0) (.inl ⟨rfl, rfl, rfl⟩) rfl (by simp) (by decide) EB.out.low2 ?_; intro ta tc U hown2 hg2; obtain ⟨p1, p2⟩ := ins_one (m := 0) (G := ([] : List Gr)) EB.out OBB.out OB.out hg2 HM.out hown2; have M2 := Lib.hid p1; have O2 := Lib.hid p2; have N2 := Lib.hid (cells_kept NB.out lt_alloc2 ne_alloc hg2); clear p1 p2 hown2 hg2)
                | (refine step_appD rfl (.tmp 56) (.tmp 59) rfl (by simp [Act.eval]) EC.out.own (by simp [Act.eval]) (news := []) (m := 0) (.inl ⟨rfl, rfl, rfl⟩) rfl (by simp) (by decide) EC.out.low2 ?_; intro ta tc U hown2 hg2; obtain ⟨p1, p2⟩ := ins_one (m := 0) (G := ([] : List Gr)) EC.out OC.out OB.out hg2 HM.out hown2; have M2 := Lib.hid p1; have O2 := Lib.hid p2; have N2 := Lib.hid (cells_kept NC.out lt_alloc3 ne_alloc2 hg2); clear p1 p2 hown2 hg2)
                | (refine step_appD rfl (.tmp 60) (.tmp 65) rfl (by simp [Act.eval]) M3.out.own (by simp [Act.eval]) (news := [.string x.out, .string x.cmd, .int .i64 x.time, .int .i64 x.mark, .slice ai ni ci, .slice af nf cf]) (m := 1) (.inr ⟨⟨U.heap.size, 0, Option.none⟩, 1, rfl, NA.out⟩) rfl ONE.out (by (have := HM.out; have := HG1.out; rw [List.length_take]; omega)) M3.out.low2 ?_; intro ra rc W9 hown9 hg9; obtain ⟨p1, p2⟩ := ins_two (m := 0) (x := (x, (Value.slice ai ni ci, Value.slice af nf cf))) M3.out (by (rw [List.length_take]; exact Nat.min_eq_left HM.out)) O3.out OB.out hg9 XG.out (by (rw [List.length_take, Nat.min_eq_left HM.out] at hown9; exact hown9)); have M9 := Lib.hid p1; have O9 := Lib.hid p2; clear p1 p2 hown9 hg9)
                | (refine step_appD rfl (.tmp 60) (.tmp 65) rfl (by simp [Act.eval]) M2.out.own (by simp [Act.eval]) (news := [.string x.out, .string x.cmd, .int .i64 x.time, .int .i64 x.mark, .slice ai ni ci, .slice af nf cf]) (m := 1) (.inr ⟨⟨(wk.alloc (.cells #[] 25)).heap.size, 0, Option.none⟩, 1, rfl, N2.out⟩) rfl ONE.out (by (have := HM.out; have := HG1.out; rw [List.length_take]; omega)) M2.out.low2 ?_; intro ra rc W9 hown9 hg9; obtain ⟨p1, p2⟩ := ins_two (m := 0) (x := (x, (Value.slice ai ni ci, Value.slice af nf cf))) M2.out (by (rw [List.length_take]; exact Nat.min_eq_left HM.out)) O2.out OB.out hg9 XG.out (by (rw [List.length_take, Nat.min_eq_left HM.out] at hown9; exact hown9)); have M9 := Lib.hid p1; have O9 := Lib.hid p2; clear p1 p2 hown9 hg9)
                | (refine step_appD rfl (.tmp 60) (.tmp 65) rfl (by simp [Act.eval]) M2.out.own (by simp [Act.eval]) (news := [.string x.out, .string x.cmd, .int .i64 x.time, .int .i64 x.mark, .slice ai ni ci, .slice af nf cf]) (m := 1) (.inr ⟨⟨wk.heap.size, 0, Option.none⟩, 1, rfl, N2.out⟩) rfl ONE.out (by (have := HM.out; have := HG1.out; rw [List.length_take]; omega)) M2.out.low2 ?_; intro ra rc W9 hown9 hg9; obtain ⟨p1, p2⟩ := ins_two (m := 0) (x := (x, (Value.slice ai ni ci, Value.slice af nf cf))) M2.out (by (rw [List.length_take]; exact Nat.min_eq_left HM.out)) O2.out OB.out hg9 XG.out (by (rw [List.length_take, Nat.min_eq_left HM.out] at hown9; exact hown9)); have M9 := Lib.hid p1; have O9 := Lib.hid p2; clear p1 p2 hown9 hg9))
            all_goals
              go_wp2_with (at_builtin; refine wpList_appD rfl (.tmp 67) (.tmp 70) rfl rfl (DF.own1 (m := 0) (G := ([] : List Gr)) M9.out HM.out) rfl (news := []) (m := 0) (.inl ⟨rfl, rfl, rfl⟩) rfl (by simp) (by decide) M9.out.low2 ?_; intro za zc W10 hown10 hg10; have M10 := Lib.hid (M9.out.app (M := []) (by simp) hg10 (by rw [List.length_append, List.length_take, Nat.min_eq_left HM.out]; simpa [runV] using hown10)); clear hown10 hg10)
              go_roundw
              case rel => exact ⟨j + 1, by omega, by go_num, za, zc, (List.take 0 ([] : List Gr) ++ [(x, (Value.slice ai ni ci, Value.slice af nf cf))]) ++ List.drop 0 ([] : List Gr), by rw [List.drop_of_length_le (show (([] : List Gr)).length ≤ 0 from Nat.le_refl _), List.length_append, List.length_append, List.length_take, Nat.min_eq_left HM.out]; rfl, Lib.hid (by rw [List.drop_of_length_le (show (([] : List Gr)).length ≤ 0 from Nat.le_refl _), List.length_append, List.length_append, List.length_take, Nat.min_eq_left HM.out]; exact M10.out.base), Lib.hid (by rw [HTK.out]; exact fo_gr (m := 0) (G := ([] : List Gr)) (x := (x, (Value.slice ai ni ci, Value.slice af nf cf))) hfi.out)⟩
              case measure => simp [intOf]; omega
          · clear e1
            by_cases hmc : G.length < c1
            · have HMG := Lib.hid hmc
              have HGM : Hid (G.length = G.length) := Lib.hid rfl
              have hfi := Lib.hid (fo_ins (r := x) hF.out hlo.out HHI.out)
              have HM : Hid (G.length ≤ (G).length) := Lib.hid (by first | omega | exact Nat.le_refl _)
              have OB : Hid (∀ z, Value.ownBlock (.slice (some ⟨g, 0, Option.none⟩) G.length c1) = some z → z < wk.heap.size) := Lib.hid (fun z hz => (hDk.out.own.lt z hz).2)
              have O0 := Lib.hid (hDk.out.keep (below_drew (Below.refl wk.heap.size wk)))
              have E0 := df_empty (w := w) (W := wk) (B := wk.heap.size) hDk.out.bel (Nat.le_refl _) hDk.out.bel.size
              have EA := Lib.hid (E0.keep (below_drew (Below.refl _ _)))
              have EB := Lib.hid ((E0.keep (Pk.below_alloc _ (.cells #[.string x.out, .string x.cmd, .int .i64 x.time, .int .i64 x.mark, .slice ai ni ci, .slice af nf cf] 25))).keep (below_drew (Below.refl _ _)))
              have P0 := hDk.out.keep (Pk.below_alloc wk (.cells #[] 25))
              have P1 := hDk.out.keep (Pk.below_alloc wk (.cells #[.string x.out, .string x.cmd, .int .i64 x.time, .int .i64 x.mark, .slice ai ni ci, .slice af nf cf] 25))
              have OA := Lib.hid (P0.keep (below_drew (Below.refl _ _)))
              have OBB := Lib.hid ((P0.keep (Pk.below_alloc _ (.cells #[.string x.out, .string x.cmd, .int .i64 x.time, .int .i64 x.mark, .slice ai ni ci, .slice af nf cf] 25))).keep (below_drew (Below.refl _ _)))
              have OX := Lib.hid (P1.keep (below_drew (Below.refl _ _)))
              have EC := Lib.hid ((df_empty (w := w) (W := wk.alloc (.cells #[.string x.out, .string x.cmd, .int .i64 x.time, .int .i64 x.mark, .slice ai ni ci, .slice af nf cf] 25)) (B := wk.heap.size) P1.bel (by rw [World.size_alloc]; exact Nat.le_succ _) hDk.out.bel.size).keep (below_drew (Below.refl _ _)))
              have OC := Lib.hid ((P1.keep (Pk.below_alloc _ (.cells #[] 25))).keep (below_drew (Below.refl _ _)))
              have NB : Hid (∀ j' u, [.string x.out, .string x.cmd, .int .i64 x.time, .int .i64 x.mark, .slice ai ni ci, .slice af nf cf][j']? = some u → ((wk.alloc (.cells #[] 25)).alloc (.cells #[.string x.out, .string x.cmd, .int .i64 x.time, .int .i64 x.mark, .slice ai ni ci, .slice af nf cf] 25)).drew.cell? ((⟨(wk.alloc (.cells #[] 25)).heap.size, 0, Option.none⟩ : Addr).add j') = some u) := Lib.hid (fun j' u hu => run_newsE (wk.alloc (.cells #[] 25)) x (.slice ai ni ci) (.slice af nf cf) j' u hu)
              have NC : Hid (∀ j' u, [.string x.out, .string x.cmd, .int .i64 x.time, .int .i64 x.mark, .slice ai ni ci, .slice af nf cf][j']? = some u → ((wk.alloc (.cells #[.string x.out, .string x.cmd, .int .i64 x.time, .int .i64 x.mark, .slice ai ni ci, .slice af nf cf] 25)).alloc (.cells #[] 25)).drew.cell? ((⟨wk.heap.size, 0, Option.none⟩ : Addr).add j') = some u) := Lib.hid (fun j' u hu => by
                have := run_newsE wk x (.slice ai ni ci) (.slice af nf cf) j' u hu
                rw [Go.WideShapes.add_plain] at this ⊢
                exact (cell_of_block (w' := ((wk.alloc (.cells #[.string x.out, .string x.cmd, .int .i64 x.time, .int .i64 x.mark, .slice ai ni ci, .slice af nf cf] 25)).alloc (.cells #[] 25)).drew) (Below.heap_alloc (wk.alloc (.cells #[.string x.out, .string x.cmd, .int .i64 x.time, .int .i64 x.mark, .slice ai ni ci, .slice af nf cf] 25)) _ _ (by rw [World.size_alloc]; exact Nat.lt_succ_self _))).trans this)
              clear E0 P0 P1
              have ONE := Lib.hid (run_oneE x ai af ni ci nf cf)
              have XS : Hid (∀ w', Below w.heap.size w w' → (w'.cell? ⟨b, off + j * 6, Option.none⟩ = some (.string x.out) ∧ w'.cell? ⟨b, off + j * 6 + 1, Option.none⟩ = some (.string x.cmd) ∧ w'.cell? ⟨b, off + j * 6 + 2, Option.none⟩ = some (.int .i64 x.time) ∧ w'.cell? ⟨b, off + j * 6 + 3, Option.none⟩ = some (.int .i64 x.mark) ∧ w'.cell? ⟨b, off + j * 6 + 4, Option.none⟩ = some (.slice ai ni ci) ∧ w'.cell? ⟨b, off + j * 6 + 5, Option.none⟩ = some (.slice af nf cf))) := Lib.hid (fun w' hb => by
                obtain ⟨x0, x1, x2, x3, x4, x5, -, -⟩ := HX.out.below HB.out hb
                exact ⟨x0, x1, x2, x3, x4, x5⟩)
              have q1 : (0 : Int) ≤ (G.length : Int) := by omega
              have q2 : (G.length : Int) ≤ (G.length : Int) := by omega
              have q3 : (G.length : Int) ≤ (c1 : Int) := by omega
              have q4 : (G.length : Int) ≤ (c1 : Int) := by omega
              have q5 : (G.length : Int) < (c1 : Int) := by omega
              go_region_held3 (fun w' => w'.cell? ⟨b, off + j * 6, Option.none⟩ = some (.string x.out) ∧ w'.cell? ⟨b, off + j * 6 + 1, Option.none⟩ = some (.string x.cmd) ∧ w'.cell? ⟨b, off + j * 6 + 2, Option.none⟩ = some (.int .i64 x.time) ∧ w'.cell? ⟨b, off + j * 6 + 3, Option.none⟩ = some (.int .i64 x.mark) ∧ w'.cell? ⟨b, off + j * 6 + 4, Option.none⟩ = some (.slice ai ni ci) ∧ w'.cell? ⟨b, off + j * 6 + 5, Option.none⟩ = some (.slice af nf cf))
                (first | with_reducible exact XS.out _ O0.out.bel | with_reducible exact XS.out _ OA.out.bel | with_reducible exact XS.out _ OX.out.bel | with_reducible exact XS.out _ OBB.out.bel | with_reducible exact XS.out _ OC.out.bel | with_reducible exact XS.out _ O3.out.bel | with_reducible exact XS.out _ O2.out.bel | with_reducible exact XS.out _ O9.out.bel | fail)
                (first
                  | (refine step_appD rfl (.tmp 56) (.tmp 59) rfl (by simp [Act.eval]) EA.out.own (by simp [Act.eval]) (news := runV (G.take G.length)) (m := G.length) (.inr ⟨⟨g, 0, Option.none⟩, c1, rfl, OA.out.cellsT⟩) (by rw [runV_length, List.length_take, Nat.min_eq_left HM.out]) (DF.one (DF.take OA.out.els)) (by (have := HM.out; have := HG1.out; show 0 + G.length ≤ 1000000; omega)) EA.out.low2 ?_; intro ta tc U hown2 hg2; obtain ⟨p1, p2⟩ := ins_one (m := G.length) (G := G) EA.out OA.out OB.out hg2 HM.out hown2; have M2 := Lib.hid p1; have O2 := Lib.hid p2; have M3 := Lib.hid (p1.keep (Pk.below_alloc U (.cells #[.string x.out, .string x.cmd, .int .i64 x.time, .int .i64 x.mark, .slice ai ni ci, .slice af nf cf] 25))); have O3 := Lib.hid (p2.keep (Pk.below_alloc U (.cells #[.string x.out, .string x.cmd, .int .i64 x.time, .int .i64 x.mark, .slice ai ni ci, .slice af nf cf] 25))); have NA := Lib.hid (run_newsE U x (.slice ai ni ci) (.slice af nf cf)); clear p1 p2 hown2 hg2)
                  | (refine step_appD rfl (.tmp 56) (.tmp 59) rfl (by simp [Act.eval]) EB.out.own (by simp [Act.eval]) (news := runV (G.take G.length)) (m := G.length) (.inr ⟨⟨g, 0, Option.none⟩, c1, rfl, OBB.out.cellsT⟩) (by rw [runV_length, List.length_take, Nat.min_eq_left HM.out]) (DF.one (DF.take OBB.out.els)) (by (have := HM.out; have := HG1.out; show 0 + G.length ≤ 1000000; omega)) EB.out.low2 ?_; intro ta tc U hown2 hg2; obtain ⟨p1, p2⟩ := ins_one (m := G.length) (G := G) EB.out OBB.out OB.out hg2 HM.out hown2; have M2 := Lib.hid p1; have O2 := Lib.hid p2; have N2 := Lib.hid (cells_kept NB.out lt_alloc2 ne_alloc hg2); clear p1 p2 hown2 hg2)
                  | (refine step_appD rfl (.tmp 56) (.tmp 59) rfl (by simp [Act.eval]) EC.out.own (by simp [Act.eval]) (news := runV (G.take G.length)) (m := G.length) (.inr ⟨⟨g, 0, Option.none⟩, c1, rfl, OC.out.cellsT⟩) (by rw [runV_length, List.length_take, Nat.min_eq_left HM.out]) (DF.one (DF.take OC.out.els)) (by (have := HM.out; have := HG1.out; show 0 + G.length ≤ 1000000; omega)) EC.out.low2 ?_; intro ta tc U hown2 hg2; obtain ⟨p1, p2⟩ := ins_one (m := G.length) (G := G) EC.out OC.out OB.out hg2 HM.out hown2; have M2 := Lib.hid p1; have O2 := Lib.hid p2; have N2 := Lib.hid (cells_kept NC.out lt_alloc3 ne_alloc2 hg2); clear p1 p2 hown2 hg2)
                  | (refine step_appD rfl (.tmp 60) (.tmp 65) rfl (by simp [Act.eval]) M3.out.own (by simp [Act.eval]) (news := [.string x.out, .string x.cmd, .int .i64 x.time, .int .i64 x.mark, .slice ai ni ci, .slice af nf cf]) (m := 1) (.inr ⟨⟨U.heap.size, 0, Option.none⟩, 1, rfl, NA.out⟩) rfl ONE.out (by (have := HM.out; have := HG1.out; rw [List.length_take]; omega)) M3.out.low2 ?_; intro ra rc W9 hown9 hg9; obtain ⟨p1, p2⟩ := ins_two (m := G.length) (x := (x, (Value.slice ai ni ci, Value.slice af nf cf))) M3.out (by (rw [List.length_take]; exact Nat.min_eq_left HM.out)) O3.out OB.out hg9 XG.out (by (rw [List.length_take, Nat.min_eq_left HM.out] at hown9; exact hown9)); have M9 := Lib.hid p1; have O9 := Lib.hid p2; clear p1 p2 hown9 hg9)
                  | (refine step_appD rfl (.tmp 60) (.tmp 65) rfl (by simp [Act.eval]) M2.out.own (by simp [Act.eval]) (news := [.string x.out, .string x.cmd, .int .i64 x.time, .int .i64 x.mark, .slice ai ni ci, .slice af nf cf]) (m := 1) (.inr ⟨⟨(wk.alloc (.cells #[] 25)).heap.size, 0, Option.none⟩, 1, rfl, N2.out⟩) rfl ONE.out (by (have := HM.out; have := HG1.out; rw [List.length_take]; omega)) M2.out.low2 ?_; intro ra rc W9 hown9 hg9; obtain ⟨p1, p2⟩ := ins_two (m := G.length) (x := (x, (Value.slice ai ni ci, Value.slice af nf cf))) M2.out (by (rw [List.length_take]; exact Nat.min_eq_left HM.out)) O2.out OB.out hg9 XG.out (by (rw [List.length_take, Nat.min_eq_left HM.out] at hown9; exact hown9)); have M9 := Lib.hid p1; have O9 := Lib.hid p2; clear p1 p2 hown9 hg9)
                  | (refine step_appD rfl (.tmp 60) (.tmp 65) rfl (by simp [Act.eval]) M2.out.own (by simp [Act.eval]) (news := [.string x.out, .string x.cmd, .int .i64 x.time, .int .i64 x.mark, .slice ai ni ci, .slice af nf cf]) (m := 1) (.inr ⟨⟨wk.heap.size, 0, Option.none⟩, 1, rfl, N2.out⟩) rfl ONE.out (by (have := HM.out; have := HG1.out; rw [List.length_take]; omega)) M2.out.low2 ?_; intro ra rc W9 hown9 hg9; obtain ⟨p1, p2⟩ := ins_two (m := G.length) (x := (x, (Value.slice ai ni ci, Value.slice af nf cf))) M2.out (by (rw [List.length_take]; exact Nat.min_eq_left HM.out)) O2.out OB.out hg9 XG.out (by (rw [List.length_take, Nat.min_eq_left HM.out] at hown9; exact hown9)); have M9 := Lib.hid p1; have O9 := Lib.hid p2; clear p1 p2 hown9 hg9))
              all_goals
                go_wp2_with (at_builtin; refine wpList_appD rfl (.tmp 67) (.tmp 70) rfl rfl (DF.own1 (m := G.length) (G := G) M9.out HM.out) rfl (news := []) (m := 0) (.inr ⟨⟨g, G.length * 6, Option.none⟩, c1 - G.length, rfl, (by simp)⟩) rfl (by simp) (by (have := HM.out; have := HG1.out; omega)) M9.out.low2 ?_; intro za zc W10 hown10 hg10; have M10 := Lib.hid (M9.out.app (M := []) (by simp) hg10 (by rw [List.length_append, List.length_take, Nat.min_eq_left HM.out]; simpa [runV] using hown10)); clear hown10 hg10)
                go_roundw
                case rel => exact ⟨j + 1, by omega, by go_num, za, zc, (List.take G.length G ++ [(x, (Value.slice ai ni ci, Value.slice af nf cf))]) ++ List.drop G.length G, by rw [List.drop_of_length_le (show (G).length ≤ G.length from Nat.le_of_eq HGM.out), List.length_append, List.length_append, List.length_take, Nat.min_eq_left HM.out]; rfl, Lib.hid (by rw [List.drop_of_length_le (show (G).length ≤ G.length from Nat.le_of_eq HGM.out), List.length_append, List.length_append, List.length_take, Nat.min_eq_left HM.out]; exact M10.out.base), Lib.hid (by rw [HTK.out]; exact fo_gr (m := G.length) (G := G) (x := (x, (Value.slice ai ni ci, Value.slice af nf cf))) hfi.out)⟩
                case measure => simp [intOf]; omega
            · have HGM : Hid (G.length = G.length) := Lib.hid rfl
              obtain rfl : c1 = G.length := by omega
              have hfi := Lib.hid (fo_ins (r := x) hF.out hlo.out HHI.out)
              have HM : Hid (G.length ≤ (G).length) := Lib.hid (by first | omega | exact Nat.le_refl _)
              have OB : Hid (∀ z, Value.ownBlock (.slice (some ⟨g, 0, Option.none⟩) G.length G.length) = some z → z < wk.heap.size) := Lib.hid (fun z hz => (hDk.out.own.lt z hz).2)
              have O0 := Lib.hid (hDk.out.keep (below_drew (Below.refl wk.heap.size wk)))
              have E0 := df_empty (w := w) (W := wk) (B := wk.heap.size) hDk.out.bel (Nat.le_refl _) hDk.out.bel.size
              have EA := Lib.hid (E0.keep (below_drew (Below.refl _ _)))
              have EB := Lib.hid ((E0.keep (Pk.below_alloc _ (.cells #[.string x.out, .string x.cmd, .int .i64 x.time, .int .i64 x.mark, .slice ai ni ci, .slice af nf cf] 25))).keep (below_drew (Below.refl _ _)))
              have P0 := hDk.out.keep (Pk.below_alloc wk (.cells #[] 25))
              have P1 := hDk.out.keep (Pk.below_alloc wk (.cells #[.string x.out, .string x.cmd, .int .i64 x.time, .int .i64 x.mark, .slice ai ni ci, .slice af nf cf] 25))
              have OA := Lib.hid (P0.keep (below_drew (Below.refl _ _)))
              have OBB := Lib.hid ((P0.keep (Pk.below_alloc _ (.cells #[.string x.out, .string x.cmd, .int .i64 x.time, .int .i64 x.mark, .slice ai ni ci, .slice af nf cf] 25))).keep (below_drew (Below.refl _ _)))
              have OX := Lib.hid (P1.keep (below_drew (Below.refl _ _)))
              have EC := Lib.hid ((df_empty (w := w) (W := wk.alloc (.cells #[.string x.out, .string x.cmd, .int .i64 x.time, .int .i64 x.mark, .slice ai ni ci, .slice af nf cf] 25)) (B := wk.heap.size) P1.bel (by rw [World.size_alloc]; exact Nat.le_succ _) hDk.out.bel.size).keep (below_drew (Below.refl _ _)))
              have OC := Lib.hid ((P1.keep (Pk.below_alloc _ (.cells #[] 25))).keep (below_drew (Below.refl _ _)))
              have NB : Hid (∀ j' u, [.string x.out, .string x.cmd, .int .i64 x.time, .int .i64 x.mark, .slice ai ni ci, .slice af nf cf][j']? = some u → ((wk.alloc (.cells #[] 25)).alloc (.cells #[.string x.out, .string x.cmd, .int .i64 x.time, .int .i64 x.mark, .slice ai ni ci, .slice af nf cf] 25)).drew.cell? ((⟨(wk.alloc (.cells #[] 25)).heap.size, 0, Option.none⟩ : Addr).add j') = some u) := Lib.hid (fun j' u hu => run_newsE (wk.alloc (.cells #[] 25)) x (.slice ai ni ci) (.slice af nf cf) j' u hu)
              have NC : Hid (∀ j' u, [.string x.out, .string x.cmd, .int .i64 x.time, .int .i64 x.mark, .slice ai ni ci, .slice af nf cf][j']? = some u → ((wk.alloc (.cells #[.string x.out, .string x.cmd, .int .i64 x.time, .int .i64 x.mark, .slice ai ni ci, .slice af nf cf] 25)).alloc (.cells #[] 25)).drew.cell? ((⟨wk.heap.size, 0, Option.none⟩ : Addr).add j') = some u) := Lib.hid (fun j' u hu => by
                have := run_newsE wk x (.slice ai ni ci) (.slice af nf cf) j' u hu
                rw [Go.WideShapes.add_plain] at this ⊢
                exact (cell_of_block (w' := ((wk.alloc (.cells #[.string x.out, .string x.cmd, .int .i64 x.time, .int .i64 x.mark, .slice ai ni ci, .slice af nf cf] 25)).alloc (.cells #[] 25)).drew) (Below.heap_alloc (wk.alloc (.cells #[.string x.out, .string x.cmd, .int .i64 x.time, .int .i64 x.mark, .slice ai ni ci, .slice af nf cf] 25)) _ _ (by rw [World.size_alloc]; exact Nat.lt_succ_self _))).trans this)
              clear E0 P0 P1
              have ONE := Lib.hid (run_oneE x ai af ni ci nf cf)
              have XS : Hid (∀ w', Below w.heap.size w w' → (w'.cell? ⟨b, off + j * 6, Option.none⟩ = some (.string x.out) ∧ w'.cell? ⟨b, off + j * 6 + 1, Option.none⟩ = some (.string x.cmd) ∧ w'.cell? ⟨b, off + j * 6 + 2, Option.none⟩ = some (.int .i64 x.time) ∧ w'.cell? ⟨b, off + j * 6 + 3, Option.none⟩ = some (.int .i64 x.mark) ∧ w'.cell? ⟨b, off + j * 6 + 4, Option.none⟩ = some (.slice ai ni ci) ∧ w'.cell? ⟨b, off + j * 6 + 5, Option.none⟩ = some (.slice af nf cf))) := Lib.hid (fun w' hb => by
                obtain ⟨x0, x1, x2, x3, x4, x5, -, -⟩ := HX.out.below HB.out hb
                exact ⟨x0, x1, x2, x3, x4, x5⟩)
              have q1 : (0 : Int) ≤ (G.length : Int) := by omega
              have q2 : (G.length : Int) ≤ (G.length : Int) := by omega
              have q3 : (G.length : Int) ≤ (G.length : Int) := by omega
              have q4 : (G.length : Int) ≤ (G.length : Int) := by omega
              go_region_held3 (fun w' => w'.cell? ⟨b, off + j * 6, Option.none⟩ = some (.string x.out) ∧ w'.cell? ⟨b, off + j * 6 + 1, Option.none⟩ = some (.string x.cmd) ∧ w'.cell? ⟨b, off + j * 6 + 2, Option.none⟩ = some (.int .i64 x.time) ∧ w'.cell? ⟨b, off + j * 6 + 3, Option.none⟩ = some (.int .i64 x.mark) ∧ w'.cell? ⟨b, off + j * 6 + 4, Option.none⟩ = some (.slice ai ni ci) ∧ w'.cell? ⟨b, off + j * 6 + 5, Option.none⟩ = some (.slice af nf cf))
                (first | with_reducible exact XS.out _ O0.out.bel | with_reducible exact XS.out _ OA.out.bel | with_reducible exact XS.out _ OX.out.bel | with_reducible exact XS.out _ OBB.out.bel | with_reducible exact XS.out _ OC.out.bel | with_reducible exact XS.out _ O3.out.bel | with_reducible exact XS.out _ O2.out.bel | with_reducible exact XS.out _ O9.out.bel | fail)
                (first
                  | (refine step_appD rfl (.tmp 56) (.tmp 59) rfl (by simp [Act.eval]) EA.out.own (by simp [Act.eval]) (news := runV (G.take G.length)) (m := G.length) (.inr ⟨⟨g, 0, Option.none⟩, G.length, rfl, OA.out.cellsT⟩) (by rw [runV_length, List.length_take, Nat.min_eq_left HM.out]) (DF.one (DF.take OA.out.els)) (by (have := HM.out; have := HG1.out; show 0 + G.length ≤ 1000000; omega)) EA.out.low2 ?_; intro ta tc U hown2 hg2; obtain ⟨p1, p2⟩ := ins_one (m := G.length) (G := G) EA.out OA.out OB.out hg2 HM.out hown2; have M2 := Lib.hid p1; have O2 := Lib.hid p2; have M3 := Lib.hid (p1.keep (Pk.below_alloc U (.cells #[.string x.out, .string x.cmd, .int .i64 x.time, .int .i64 x.mark, .slice ai ni ci, .slice af nf cf] 25))); have O3 := Lib.hid (p2.keep (Pk.below_alloc U (.cells #[.string x.out, .string x.cmd, .int .i64 x.time, .int .i64 x.mark, .slice ai ni ci, .slice af nf cf] 25))); have NA := Lib.hid (run_newsE U x (.slice ai ni ci) (.slice af nf cf)); clear p1 p2 hown2 hg2)
                  | (refine step_appD rfl (.tmp 56) (.tmp 59) rfl (by simp [Act.eval]) EB.out.own (by simp [Act.eval]) (news := runV (G.take G.length)) (m := G.length) (.inr ⟨⟨g, 0, Option.none⟩, G.length, rfl, OBB.out.cellsT⟩) (by rw [runV_length, List.length_take, Nat.min_eq_left HM.out]) (DF.one (DF.take OBB.out.els)) (by (have := HM.out; have := HG1.out; show 0 + G.length ≤ 1000000; omega)) EB.out.low2 ?_; intro ta tc U hown2 hg2; obtain ⟨p1, p2⟩ := ins_one (m := G.length) (G := G) EB.out OBB.out OB.out hg2 HM.out hown2; have M2 := Lib.hid p1; have O2 := Lib.hid p2; have N2 := Lib.hid (cells_kept NB.out lt_alloc2 ne_alloc hg2); clear p1 p2 hown2 hg2)
                  | (refine step_appD rfl (.tmp 56) (.tmp 59) rfl (by simp [Act.eval]) EC.out.own (by simp [Act.eval]) (news := runV (G.take G.length)) (m := G.length) (.inr ⟨⟨g, 0, Option.none⟩, G.length, rfl, OC.out.cellsT⟩) (by rw [runV_length, List.length_take, Nat.min_eq_left HM.out]) (DF.one (DF.take OC.out.els)) (by (have := HM.out; have := HG1.out; show 0 + G.length ≤ 1000000; omega)) EC.out.low2 ?_; intro ta tc U hown2 hg2; obtain ⟨p1, p2⟩ := ins_one (m := G.length) (G := G) EC.out OC.out OB.out hg2 HM.out hown2; have M2 := Lib.hid p1; have O2 := Lib.hid p2; have N2 := Lib.hid (cells_kept NC.out lt_alloc3 ne_alloc2 hg2); clear p1 p2 hown2 hg2)
                  | (refine step_appD rfl (.tmp 60) (.tmp 65) rfl (by simp [Act.eval]) M3.out.own (by simp [Act.eval]) (news := [.string x.out, .string x.cmd, .int .i64 x.time, .int .i64 x.mark, .slice ai ni ci, .slice af nf cf]) (m := 1) (.inr ⟨⟨U.heap.size, 0, Option.none⟩, 1, rfl, NA.out⟩) rfl ONE.out (by (have := HM.out; have := HG1.out; rw [List.length_take]; omega)) M3.out.low2 ?_; intro ra rc W9 hown9 hg9; obtain ⟨p1, p2⟩ := ins_two (m := G.length) (x := (x, (Value.slice ai ni ci, Value.slice af nf cf))) M3.out (by (rw [List.length_take]; exact Nat.min_eq_left HM.out)) O3.out OB.out hg9 XG.out (by (rw [List.length_take, Nat.min_eq_left HM.out] at hown9; exact hown9)); have M9 := Lib.hid p1; have O9 := Lib.hid p2; clear p1 p2 hown9 hg9)
                  | (refine step_appD rfl (.tmp 60) (.tmp 65) rfl (by simp [Act.eval]) M2.out.own (by simp [Act.eval]) (news := [.string x.out, .string x.cmd, .int .i64 x.time, .int .i64 x.mark, .slice ai ni ci, .slice af nf cf]) (m := 1) (.inr ⟨⟨(wk.alloc (.cells #[] 25)).heap.size, 0, Option.none⟩, 1, rfl, N2.out⟩) rfl ONE.out (by (have := HM.out; have := HG1.out; rw [List.length_take]; omega)) M2.out.low2 ?_; intro ra rc W9 hown9 hg9; obtain ⟨p1, p2⟩ := ins_two (m := G.length) (x := (x, (Value.slice ai ni ci, Value.slice af nf cf))) M2.out (by (rw [List.length_take]; exact Nat.min_eq_left HM.out)) O2.out OB.out hg9 XG.out (by (rw [List.length_take, Nat.min_eq_left HM.out] at hown9; exact hown9)); have M9 := Lib.hid p1; have O9 := Lib.hid p2; clear p1 p2 hown9 hg9)
                  | (refine step_appD rfl (.tmp 60) (.tmp 65) rfl (by simp [Act.eval]) M2.out.own (by simp [Act.eval]) (news := [.string x.out, .string x.cmd, .int .i64 x.time, .int .i64 x.mark, .slice ai ni ci, .slice af nf cf]) (m := 1) (.inr ⟨⟨wk.heap.size, 0, Option.none⟩, 1, rfl, N2.out⟩) rfl ONE.out (by (have := HM.out; have := HG1.out; rw [List.length_take]; omega)) M2.out.low2 ?_; intro ra rc W9 hown9 hg9; obtain ⟨p1, p2⟩ := ins_two (m := G.length) (x := (x, (Value.slice ai ni ci, Value.slice af nf cf))) M2.out (by (rw [List.length_take]; exact Nat.min_eq_left HM.out)) O2.out OB.out hg9 XG.out (by (rw [List.length_take, Nat.min_eq_left HM.out] at hown9; exact hown9)); have M9 := Lib.hid p1; have O9 := Lib.hid p2; clear p1 p2 hown9 hg9))
              all_goals
                go_wp2_with (at_builtin; refine wpList_appD rfl (.tmp 67) (.tmp 70) rfl rfl (DF.own1 (m := G.length) (G := G) M9.out HM.out) rfl (news := []) (m := 0) (.inr ⟨⟨g, 0, Option.none⟩, 0, rfl, (by simp)⟩) rfl (by simp) (by (have := HM.out; have := HG1.out; omega)) M9.out.low2 ?_; intro za zc W10 hown10 hg10; have M10 := Lib.hid (M9.out.app (M := []) (by simp) hg10 (by rw [List.length_append, List.length_take, Nat.min_eq_left HM.out]; simpa [runV] using hown10)); clear hown10 hg10)
                go_roundw
                case rel => exact ⟨j + 1, by omega, by go_num, za, zc, (List.take G.length G ++ [(x, (Value.slice ai ni ci, Value.slice af nf cf))]) ++ List.drop G.length G, by rw [List.drop_of_length_le (show (G).length ≤ G.length from Nat.le_of_eq HGM.out), List.length_append, List.length_append, List.length_take, Nat.min_eq_left HM.out]; rfl, Lib.hid (by rw [List.drop_of_length_le (show (G).length ≤ G.length from Nat.le_of_eq HGM.out), List.length_append, List.length_append, List.length_take, Nat.min_eq_left HM.out]; exact M10.out.base), Lib.hid (by rw [HTK.out]; exact fo_gr (m := G.length) (G := G) (x := (x, (Value.slice ai ni ci, Value.slice af nf cf))) hfi.out)⟩
                case measure => simp [intOf]; omega
    · obtain rfl : j = L.length := by omega
      rw [List.take_length] at hF
      go_wp2_with fail
      go_ret
      exact ⟨_, G, rfl, hD.out, hF.out⟩
end Go.Proofs.Ytdijpoemimebmaa.Rn
