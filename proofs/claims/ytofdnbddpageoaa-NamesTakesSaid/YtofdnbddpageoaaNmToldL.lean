/-
  BEHIND WHAT IS PLANNED IT IS TOLD: the law NamesTold, walked.
-/
import Derived.Test.YtofdnbddpageoaaNmLookW
import Derived.Test.YtofdnbddpageoaaNmToldW
namespace Go.Proofs.Ytofdnbddpageoaa.Nm
open Go.RowKit Go.Maps

/-- nothing of the same output is planned between j and m -/
def noneB (L : List Dp) (x : Dp) (j m : Nat) : Bool := ((L.take m).drop (j + 1)).all fun y => !(decide (dpE y = 0) && decide (y.out = x.out))

theorem noneB_start (L : List Dp) (x : Dp) (j : Nat) : noneB L x j (j + 1) = true := by
  unfold noneB
  rw [List.drop_eq_nil_of_le (by rw [List.length_take]; omega)]
  rfl
theorem noneB_next {L : List Dp} {x y : Dp} {j m : Nat} (hm : j + 1 ≤ m) (hy : L[m]? = some y) : noneB L x j (m + 1) = (noneB L x j m && !(decide (dpE y = 0) && decide (y.out = x.out))) := by
  unfold noneB
  have hml := (List.getElem?_eq_some_iff.1 hy).1
  rw [List.take_add_one, hy, Option.toList_some, List.drop_append_of_le_length (by rw [List.length_take]; omega), List.all_append]
  simp
theorem noneB_end {L : List Dp} {x : Dp} {j : Nat} (h : noneB L x j L.length = true) : ∀ k y, j < k → L[k]? = some y → ¬ (dpE y = 0 ∧ y.out = x.out) := fun k y hk hy hh => by
  unfold noneB at h
  rw [List.take_length, List.all_eq_true] at h
  have : y ∈ L.drop (j + 1) := by
    refine List.mem_iff_getElem?.2 ⟨k - (j + 1), ?_⟩
    rw [List.getElem?_drop, show j + 1 + (k - (j + 1)) = k by omega]
    exact hy
  have := h y this
  simp [hh.1, hh.2] at this

/-- an element of a row -/
structure ElD (w W : World) (b o : Nat) (x : Dp) (vd : Value) : Prop where
  c0 : W.cell? ⟨b, o, Option.none⟩ = some (.string x.out)
  c1 : W.cell? ⟨b, o + 1, Option.none⟩ = some (.int .i64 x.time)
  c2 : W.cell? ⟨b, o + 2, Option.none⟩ = some vd
  row : StrRow W vd x.deps
  lt : b < w.heap.size
section
variable {w W W1 : World} {b o : Nat} {x : Dp} {vd : Value}
theorem ElD.below (h : ElD w W b o x vd) (hw : w.heap.size ≤ W.heap.size) (hb : Below W.heap.size W W1) : ElD w W1 b o x vd := by
  have hk := hb.block b (Nat.lt_of_lt_of_le h.lt hw)
  exact ⟨(cell_of_block hk).trans h.c0, (cell_of_block hk).trans h.c1, (cell_of_block hk).trans h.c2, h.row.below hb, h.lt⟩
theorem ElD.cells (h : ElD w W b o x vd) : W.cell? ⟨b, o, Option.none⟩ = some (.string x.out) ∧ W.cell? ⟨b, o + 1, Option.none⟩ = some (.int .i64 x.time) ∧ W.cell? ⟨b, o + 2, Option.none⟩ = some vd := ⟨h.c0, h.c1, h.c2⟩
theorem ElD.drew (h : ElD w W b o x vd) : ElD w W.drew b o x vd := ⟨h.c0, h.c1, h.c2, h.row, h.lt⟩
end

set_option maxRecDepth 100000 in
set_option maxHeartbeats 8000000 in
theorem toldL_c {w : World} {v : Value} {L : List Dp} (h : DepRow w v L) (hL : L.length ≤ 9223372036854775807) :
    Calls Try.prog 5 #[v] w fun e w' => e = .returned (.bool true) ∧ Below w.heap.size w w' := by
  have ca := all_c h hL
  obtain ⟨a, c, rfl, hc, hrow⟩ := h
  have HROW := Lib.hid (show DepRow w (.slice a L.length c) L from ⟨a, c, rfl, hc, hrow⟩)
  clear hrow
  cases hz : allB L with
  | false =>
    rw [hz] at ca
    clear hz
    go_enter Try.func5, Try.ntmps5
    go_wp2_with fail
    refine ca.mono ?_
    rintro e w1 ⟨rfl, hb⟩
    clear ca
    go_wp2_with fail
    go_ret
    exact ⟨rfl, hb⟩
  | true =>
    rw [hz] at ca
    obtain ⟨hl30, hmem⟩ := all_mem hz
    have HM := Lib.hid hmem
    have HZ := Lib.hid hz
    clear hz hmem
    go_enter Try.func5, Try.ntmps5
    go_wp2_with fail
    refine ca.mono ?_
    rintro e w1 ⟨rfl, hb1⟩
    have ct := told_c (HROW.out.below hb1) HZ.out
    have HB1 := Lib.hid hb1
    clear ca hb1
    go_wp2_with fail
    refine ct.mono ?_
    rintro e w2 ⟨rfl, hO2, hb2⟩
    have HB2 := Lib.hid (HB1.out.trans (hb2.mono HB1.out.size))
    obtain ⟨p, hp⟩ : ∃ p, w1.heap.size = p := ⟨_, rfl⟩
    rw [hp] at hO2 ⊢
    have HO2 := Lib.hid hO2
    clear ct hO2 hb2 hp
    go_wp2_with fail
    go_loopw [5] (fun i wr => ∃ j : Nat, j ≤ L.length ∧ i = .int .i64 j ∧ Hid (Own p 0 0 wr p (toldB L)) ∧ Hid (Below w.heap.size w wr)) (fun i _ => L.length - (intOf i).toNat)
    case atStart => exact ⟨0, Nat.zero_le _, rfl, HO2, HB2⟩
    case round =>
      obtain ⟨j, hj, rfl, hO, hB⟩ := hrel
      clear HO2 HB2
      obtain ⟨wo, rfl⟩ : ∃ wo, wo = wr := ⟨_, rfl⟩
      by_cases hlt : j < L.length
      · have hx := List.getElem?_eq_getElem hlt
        obtain ⟨_, _, e, _, hrow⟩ := HROW.out
        cases e
        rcases hrow with h | ⟨b, off, rfl, hb, hcell⟩
        · rw [h] at hlt; simp at hlt
        have HCELL := Lib.hid hcell
        obtain ⟨vd, x0, x1, x2, hs, hno⟩ := hcell j _ hx
        have hel : ElD w w b (off + j * 3) L[j] vd := ⟨x0, x1, x2, hs, hb⟩
        have hxm := HM.out _ (List.getElem_mem hlt)
        have hlast : ∀ hn : noneB L L[j] j L.length = true, dpE L[j] = 0 → lookB (toldB L) L[j].out = some L[j] := fun hn hE => told_last (by omega) (fun d hd => (HM.out d hd).2.1) hx hE (noneB_end hn)
        generalize L[j] = x at *
        have HX := Lib.hid hx
        have HXM := Lib.hid hxm
        have HLAST := Lib.hid hlast
        obtain ⟨sa, sc, rfl, -, -⟩ := hs
        have E0 := Lib.hid (hel.below (Nat.le_refl _) hB.out)
        have HEL := Lib.hid hel
        have HNO := Lib.hid hno
        have hi0 : (0 : Int) ≤ (j : Int) := by omega
        have hi1 : (j : Int) < (L.length : Int) := by omega
        have K0 := E0.out.drew.cells
        have nw := newO_c wo.drew
        clear hcell hx hxm hlast hno x0 x1 x2 hel
        go_wp2_with fail
        go_region_held3 (fun w' => w'.cell? ⟨b, off + j * 3, Option.none⟩ = some (.string x.out) ∧ w'.cell? ⟨b, off + j * 3 + 1, Option.none⟩ = some (.int .i64 x.time) ∧ w'.cell? ⟨b, off + j * 3 + 2, Option.none⟩ = some (.slice sa x.deps.length sc))
          (first | with_reducible exact K0 | with_reducible exact K1 | with_reducible exact K2 | with_reducible exact K3 | fail)
          (first
            | (go_at_call 10; (with_reducible refine nw.mono ?_); rintro e V1 ⟨q, rfl, hq, hb1⟩; have B1 := Lib.hid (below_of_drew hb1); have C1 := Lib.hid (E0.out.below hB.out.size (below_of_drew hb1)); have K1 := C1.out.cells; have cg := given_c C1.out.row HNO.out (by have := HXM.out.2.1; omega); have O1 := Lib.hid hq; clear hq hb1 nw)
            | (go_at_call 21; (with_reducible refine cg.mono ?_); rintro e V2 ⟨ga, gc, rfl, hgs, hb2⟩; have B2 := Lib.hid (B1.out.trans (hb2.mono B1.out.size)); have C2 := Lib.hid (C1.out.below (Nat.le_trans hB.out.size B1.out.size) hb2); have K2 := C2.out.cells; have cp := plan_own (O1.out.below hb2) hgs (by have := HXM.out.2.1; omega) (by simp); clear hgs hb2 cg)
            | (go_at_call 20; (with_reducible refine cp.mono ?_); rintro e V3 ⟨vr, rfl, hrs, hb3⟩; have B3 := Lib.hid (B2.out.trans (hb3.mono B2.out.size)); have C3 := Lib.hid (C2.out.below (Nat.le_trans hB.out.size B2.out.size) hb3); have K3 := C3.out.cells; clear hrs hb3 cp))
        have HO3 := Lib.hid (hO.out.below B3.out)
        have HB3 := Lib.hid (hB.out.trans (B3.out.mono hB.out.size))
        obtain ⟨z0, hz0⟩ : ∃ z, decide (dpE x = 0) = z := ⟨_, rfl⟩
        have e0 : (((planE x.out x.time x.deps : Nat) : Int) == 0) = z0 := by
          rw [← hz0]
          show (((dpE x : Nat) : Int) == 0) = _
          generalize dpE x = n
          cases n <;> simp <;> omega
        have HZ0 := Lib.hid hz0
        have hst : (z0 && noneB L x j (j + 1)) = z0 := by rw [noneB_start, Bool.and_true]
        have HST := Lib.hid hst
        generalize planE x.out x.time x.deps = pe at *
        clear K0 K1 K2 K3 hz0 hst
        go_wp2_with fail
        clear e0
        go_loopw [8, 9] (fun vl k wr => ∃ m : Nat, j + 1 ≤ m ∧ m ≤ L.length ∧ k = .int .i64 m ∧ vl = .bool (z0 && noneB L x j m) ∧ Hid (Own p 0 0 wr p (toldB L)) ∧ Hid (Below w.heap.size w wr)) (fun _ k _ => L.length - (intOf k).toNat)
        case atStart => exact ⟨j + 1, Nat.le_refl _, hlt, by simp, by rw [HST.out], HO3, HB3⟩
        case round =>
          obtain ⟨m, hjm, hm, rfl, rfl, hOm, hBm⟩ := hrel
          obtain ⟨wm, rfl⟩ : ∃ wm, wm = wr := ⟨_, rfl⟩
          by_cases hlm : m < L.length
          · have hy := List.getElem?_eq_getElem hlm
            obtain ⟨vy, y0, y1, y2, hys, hyno⟩ := HCELL.out m _ hy
            have hel : ElD w w b (off + m * 3) L[m] vy := ⟨y0, y1, y2, hys, hb⟩
            have hym := HM.out _ (List.getElem_mem hlm)
            have hnx := noneB_next (x := x) hjm hy
            generalize L[m] = y at *
            have HYM := Lib.hid hym
            have HNX := Lib.hid hnx
            obtain ⟨ya, yc, rfl, -, -⟩ := hys
            have F0 := Lib.hid (hel.below (Nat.le_refl _) hBm.out)
            have HYNO := Lib.hid hyno
            have hm0 : (0 : Int) ≤ (m : Int) := by omega
            have hm1 : (m : Int) < (L.length : Int) := by omega
            have K0 := F0.out.drew.cells
            have nw := newO_c wm.drew
            obtain ⟨zn, hzn⟩ : ∃ z, (z0 && noneB L x j m) = z := ⟨_, rfl⟩
            have HZN := Lib.hid hzn
            rw [hzn]
            clear hy hym hnx hyno y0 y1 y2 hel hzn
            go_wp2_with fail
            go_region_held3 (fun w' => w'.cell? ⟨b, off + m * 3, Option.none⟩ = some (.string y.out) ∧ w'.cell? ⟨b, off + m * 3 + 1, Option.none⟩ = some (.int .i64 y.time) ∧ w'.cell? ⟨b, off + m * 3 + 2, Option.none⟩ = some (.slice ya y.deps.length yc))
              (first | with_reducible exact K0 | with_reducible exact K1 | with_reducible exact K2 | with_reducible exact K3 | fail)
              (first
                | (go_at_call 10; (with_reducible refine nw.mono ?_); rintro e U1 ⟨uq, rfl, hq, hb1⟩; have G1 := Lib.hid (below_of_drew hb1); have D1 := Lib.hid (F0.out.below hBm.out.size (below_of_drew hb1)); have K1 := D1.out.cells; have cg := given_c D1.out.row HYNO.out (by have := HYM.out.2.1; omega); have P1 := Lib.hid hq; clear hq hb1 nw)
                | (go_at_call 21; (with_reducible refine cg.mono ?_); rintro e U2 ⟨ha, hcc, rfl, hgs, hb2⟩; have G2 := Lib.hid (G1.out.trans (hb2.mono G1.out.size)); have D2 := Lib.hid (D1.out.below (Nat.le_trans hBm.out.size G1.out.size) hb2); have K2 := D2.out.cells; have cp := plan_own (P1.out.below hb2) hgs (by have := HYM.out.2.1; omega) (by simp); clear hgs hb2 cg)
                | (go_at_call 20; (with_reducible refine cp.mono ?_); rintro e U3 ⟨hr, rfl, hrs, hb3⟩; have G3 := Lib.hid (G2.out.trans (hb3.mono G2.out.size)); have D3 := Lib.hid (D2.out.below (Nat.le_trans hBm.out.size G2.out.size) hb3); have K3 := D3.out.cells; clear hrs hb3 cp))
            have HO4 := Lib.hid (hOm.out.below G3.out)
            have HB4 := Lib.hid (hBm.out.trans (G3.out.mono hBm.out.size))
            have HO5 : Hid (Own p 0 0 U3.drew p (toldB L)) := Lib.hid (HO4.out.below (below_drew (Below.refl _ _)))
            have HB5 := Lib.hid (below_drew HB4.out)
            have q0 := D3.out.c0
            have q1 := (E0.out.below hB.out.size (Below.refl _ _))
            have hx0 : U3.cell? ⟨b, off + j * 3, Option.none⟩ = some (.string x.out) := by
              obtain ⟨_, x0, _⟩ := HCELL.out j _ HX.out
              exact (cell_of_block (HB4.out.block b hb)).trans x0
            clear K0 K1 K2 K3 q1
            by_cases hE : dpE y = 0
            · have hE' : planE y.out y.time y.deps = 0 := hE
              by_cases ho : y.out = x.out
              · have t0 : (y.out.toList == x.out.toList) = true := by rw [ho]; simp
                have HN2 := Lib.hid (show (z0 && noneB L x j (m + 1)) = false by rw [HNX.out]; simp [hE, ho])
                rw [hE']
                clear hE hE' ho
                go_wp2_with fail
                go_quiet (fail)
                go_wp2_with fail
                go_roundw
                case rel => exact ⟨m + 1, by omega, by omega, by go_num, by rw [HN2.out], by first | exact HO5 | exact Lib.hid (HO4.out.below (below_drawn (Below.refl _ _) _)), by first | exact HB5 | exact Lib.hid (below_drawn HB4.out _)⟩
                case measure => simp [intOf]; omega
              · have t0 : (y.out.toList == x.out.toList) = false := Pk.toList_ne ho
                have HN2 := Lib.hid (show (z0 && noneB L x j (m + 1)) = zn by rw [HNX.out, ← HZN.out]; simp [ho])
                rw [hE']
                clear hE hE' ho
                go_wp2_with fail
                go_quiet (fail)
                go_wp2_with fail
                go_roundw
                case rel => exact ⟨m + 1, by omega, by omega, by go_num, by rw [HN2.out], by first | exact HO5 | exact Lib.hid (HO4.out.below (below_drawn (Below.refl _ _) _)), by first | exact HB5 | exact Lib.hid (below_drawn HB4.out _)⟩
                case measure => simp [intOf]; omega
            · have HN2 := Lib.hid (show (z0 && noneB L x j (m + 1)) = zn by rw [HNX.out, ← HZN.out]; simp [hE])
              have hp3 : planE y.out y.time y.deps = 1 ∨ planE y.out y.time y.deps = 3 := by
                rcases planE_cases y.out y.time y.deps with h | h | h
                · exact absurd h hE
                · exact .inl h
                · exact .inr h
              rcases hp3 with h | h
              all_goals
                rw [h]
                clear hE h
                go_wp2_with fail
                go_quiet (fail)
                go_wp2_with fail
                go_roundw
                case rel => exact ⟨m + 1, by omega, by omega, by go_num, by rw [HN2.out], by first | exact HO5 | exact Lib.hid (HO4.out.below (below_drawn (Below.refl _ _) _)), by first | exact HB5 | exact Lib.hid (below_drawn HB4.out _)⟩
                case measure => simp [intOf]; omega
          · obtain rfl : m = L.length := by omega
            have Em := HEL.out.below (Nat.le_refl _) hBm.out
            have cl := look_c (s := x.out) hOm.out (by have := HXM.out.1; omega)
            obtain ⟨m0, m1, m2⟩ := Em.cells
            have EM := Lib.hid Em
            obtain ⟨zl, hzl⟩ : ∃ z, (z0 && noneB L x j L.length) = z := ⟨_, rfl⟩
            rw [hzl]
            cases zl with
            | true =>
              rw [Bool.and_eq_true] at hzl
              have hlk := HLAST.out hzl.2 (by have := HZ0.out; rw [hzl.1] at this; exact of_decide_eq_true this)
              have cl2 : Calls Try.prog 15 #[.pointer (some ⟨p, 0, Option.none⟩), .string x.out] wm fun e w' => ∃ a c, e = .returned (.tuple #[.agg #[.string x.out, .int .i64 x.time, .slice a x.deps.length c], .bool true]) ∧ w'.ownsRow wm.heap.size 9 1 (.slice a x.deps.length c) x.deps.length (strV x.deps) ∧ Below wm.heap.size wm w' := cl.mono fun e w' hq => by
                unfold LoQ at hq
                rw [hlk] at hq
                obtain ⟨⟨a, c, he, ho⟩, hb⟩ := hq
                exact ⟨a, c, he, ho, hb⟩
              clear cl hzl hlk Em
              go_wp2_with fail
              refine cl2.mono ?_
              rintro e w3 ⟨la, lc, rfl, ho3, hb3⟩
              obtain ⟨W5, hW5⟩ : ∃ W, w3.alloc (.cells #[.string ⟨#[]⟩, .int .i64 0, .slice Option.none 0 0] 39) = W := ⟨_, rfl⟩
              have z5 : W5.heap[w3.heap.size]? = some (.cells #[.string ⟨#[]⟩, .int .i64 0, .slice Option.none 0 0] 39 (0, 0)) := by rw [← hW5]; exact heap_alloc_new _ _
              have b5 : Below w3.heap.size w3 W5 := by rw [← hW5]; exact Pk.below_alloc _ _
              obtain ⟨⟨y0, y1, y2⟩, f0, f1, f2⟩ := thr_cells z5
              have z6 := thr_same (v0 := .string x.out) (v1 := .int .i64 x.time) (v2 := .slice la x.deps.length lc) z5
              have b6 := thr_below (v0 := .string x.out) (v1 := .int .i64 x.time) (v2 := .slice la x.deps.length lc) b5 (Nat.le_refl _) (Nat.le_refl w3.heap.size)
              have bm6 := hb3.trans (b6.mono hb3.size)
              have ls := (strRow_of ho3).1.below b6
              have Em6 := EM.out.below hBm.out.size bm6
              have HO6 := Lib.hid (hOm.out.below bm6)
              have HB6 := Lib.hid (hBm.out.trans (bm6.mono hBm.out.size))
              have hnb : b ≠ w3.heap.size := by have := hB.out.size; have := hBm.out.size; have := hb3.size; omega
              obtain ⟨W6, hW6⟩ : ∃ W, thr W5 w3.heap.size (.string x.out) (.int .i64 x.time) (.slice la x.deps.length lc) = W := ⟨_, rfl⟩
              rw [hW6] at z6 ls Em6 HO6 HB6
              have LS := Lib.hid ls
              have EM6 := Lib.hid Em6
              have Z6 := Lib.hid z6
              obtain ⟨⟨s0, s1, s2⟩, -⟩ := thr_cells z6
              unfold thr at hW6
              clear cl2 ho3 hb3 z5 b5 b6 bm6 Em6 m0 m1 m2 z6 ls
              have K0 : (W6.drew.cell? ⟨w3.heap.size, 0, Option.none⟩ = some (.string x.out) ∧ W6.drew.cell? ⟨w3.heap.size, 1, Option.none⟩ = some (.int .i64 x.time) ∧ W6.drew.cell? ⟨w3.heap.size, 2, Option.none⟩ = some (.slice la x.deps.length lc)) ∧ (W6.drew.cell? ⟨b, off + j * 3, Option.none⟩ = some (.string x.out) ∧ W6.drew.cell? ⟨b, off + j * 3 + 1, Option.none⟩ = some (.int .i64 x.time) ∧ W6.drew.cell? ⟨b, off + j * 3 + 2, Option.none⟩ = some (.slice sa x.deps.length sc)) := ⟨⟨s0, s1, s2⟩, EM6.out.drew.cells⟩
              have KB := Lib.hid (fun (W : World) (hb : Below W6.heap.size W6 W) => (⟨(thr_cells ((hb.block _ (lt_some Z6.out)).trans Z6.out)).1, (EM6.out.below HB6.out.size hb).cells⟩ : (W.cell? ⟨w3.heap.size, 0, Option.none⟩ = some (.string x.out) ∧ W.cell? ⟨w3.heap.size, 1, Option.none⟩ = some (.int .i64 x.time) ∧ W.cell? ⟨w3.heap.size, 2, Option.none⟩ = some (.slice la x.deps.length lc)) ∧ (W.cell? ⟨b, off + j * 3, Option.none⟩ = some (.string x.out) ∧ W.cell? ⟨b, off + j * 3 + 1, Option.none⟩ = some (.int .i64 x.time) ∧ W.cell? ⟨b, off + j * 3 + 2, Option.none⟩ = some (.slice sa x.deps.length sc))))
              have cf := found_c W6.drew x.out x.time la x.deps.length lc
              have hdl : x.deps.length ≤ 1000000 := by have := HXM.out.2.1; omega
              go_wp2_with fail
              clear hW6 hW5 y0 y1 y2 f0 f1 f2 s0 s1 s2
              go_region_held3 (fun w' => (w'.cell? ⟨w3.heap.size, 0, Option.none⟩ = some (.string x.out) ∧ w'.cell? ⟨w3.heap.size, 1, Option.none⟩ = some (.int .i64 x.time) ∧ w'.cell? ⟨w3.heap.size, 2, Option.none⟩ = some (.slice la x.deps.length lc)) ∧ (w'.cell? ⟨b, off + j * 3, Option.none⟩ = some (.string x.out) ∧ w'.cell? ⟨b, off + j * 3 + 1, Option.none⟩ = some (.int .i64 x.time) ∧ w'.cell? ⟨b, off + j * 3 + 2, Option.none⟩ = some (.slice sa x.deps.length sc)))
                (first | with_reducible exact K0 | with_reducible exact KB.out _ C7.out | with_reducible exact KB.out _ C8.out | fail)
                (first
                  | (go_at_call 17; (with_reducible refine cf.mono ?_); rintro e V7 ⟨rfl, hb7⟩; have C7 := Lib.hid (below_of_drew hb7); have cs := same_c (d := x) (LS.out.below C7.out) (EM6.out.below HB6.out.size C7.out).row hdl; clear hb7 cf)
                  | (go_at_call 16; (with_reducible refine cs.mono ?_); rintro e V8 ⟨rfl, hb8⟩; have C8 := Lib.hid (C7.out.trans (hb8.mono C7.out.size)); clear hb8 cs))
              clear K0
              go_wp2_with fail
              go_roundw
              case rel => exact ⟨j + 1, by omega, by go_num, Lib.hid (HO6.out.below C8.out), Lib.hid (HB6.out.trans (C8.out.mono HB6.out.size))⟩
              case measure => simp [intOf]; omega
            | false =>
              have cl2 : Calls Try.prog 15 #[.pointer (some ⟨p, 0, Option.none⟩), .string x.out] wm fun e w' => ∃ (s : ByteArray) (t : Int) (a : Option Addr) (n c : Nat) (ok : Bool), e = .returned (.tuple #[.agg #[.string s, .int .i64 t, .slice a n c], .bool ok]) ∧ Below wm.heap.size wm w' := cl.mono fun e w' hq => by
                unfold LoQ at hq
                obtain ⟨hq, hb⟩ := hq
                split at hq
                · obtain ⟨a, c, he, -⟩ := hq
                  exact ⟨_, _, _, _, _, _, he, hb⟩
                · exact ⟨_, _, _, _, _, _, hq, hb⟩
              clear cl hzl Em
              go_wp2_with fail
              refine cl2.mono ?_
              rintro e w3 ⟨ls, lt, la, ln, lc, ok, rfl, hb3⟩
              obtain ⟨W5, hW5⟩ : ∃ W, w3.alloc (.cells #[.string ⟨#[]⟩, .int .i64 0, .slice Option.none 0 0] 39) = W := ⟨_, rfl⟩
              have z5 : W5.heap[w3.heap.size]? = some (.cells #[.string ⟨#[]⟩, .int .i64 0, .slice Option.none 0 0] 39 (0, 0)) := by rw [← hW5]; exact heap_alloc_new _ _
              have b5 : Below w3.heap.size w3 W5 := by rw [← hW5]; exact Pk.below_alloc _ _
              obtain ⟨⟨y0, y1, y2⟩, f0, f1, f2⟩ := thr_cells z5
              have b6 := thr_below (v0 := .string ls) (v1 := .int .i64 lt) (v2 := .slice la ln lc) b5 (Nat.le_refl _) (Nat.le_refl w3.heap.size)
              have bm6 := hb3.trans (b6.mono hb3.size)
              obtain ⟨W6, hW6⟩ : ∃ W, thr W5 w3.heap.size (.string ls) (.int .i64 lt) (.slice la ln lc) = W := ⟨_, rfl⟩
              rw [hW6] at bm6
              have HO6 := Lib.hid (hOm.out.below bm6)
              have HB6 := Lib.hid (hBm.out.trans (bm6.mono hBm.out.size))
              unfold thr at hW6
              clear cl2 hb3 z5 b5 b6 bm6 m0 m1 m2
              go_wp2_with fail
              clear hW6 hW5 y0 y1 y2 f0 f1 f2
              go_quiet (fail)
              go_wp2_with fail
              go_roundw
              case rel => exact ⟨j + 1, by omega, by go_num, Lib.hid (HO6.out.below (below_drawn (Below.refl _ _) _)), Lib.hid (below_drawn HB6.out _)⟩
              case measure => simp [intOf]; omega
      · obtain rfl : j = L.length := by omega
        go_wp2_with fail
        refine (awake_c _).mono ?_
        rintro e w10 ⟨rfl, hb10⟩
        go_wp2_with fail
        go_ret
        exact ⟨rfl, hB.out.trans (hb10.mono hB.out.size)⟩
end Go.Proofs.Ytofdnbddpageoaa.Nm
