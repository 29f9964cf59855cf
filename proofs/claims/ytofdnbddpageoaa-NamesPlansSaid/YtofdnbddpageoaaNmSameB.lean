/-
  IS A BOOK THE DOCUMENT's: the laws' same, walked where it is.
-/
import Derived.Test.YtofdnbddpageoaaNmRefT
import Derived.Test.YtofdnbddpageoaaNmAll
import Derived.Test.YtofdnbddpageoaaNmToldL
namespace Go.Proofs.Ytofdnbddpageoaa.Nm
open Go.RowKit Go.Maps

/-- an element of a row of what was found -/
structure ElS (w : World) (b off j : Nat) (x : Dp) (u : Value) : Prop where
  c0 : w.cell? ⟨b, off + j * 3, Option.none⟩ = some (.string x.out)
  c1 : w.cell? ⟨b, off + j * 3 + 1, Option.none⟩ = some (.int .i64 x.time)
  c2 : w.cell? ⟨b, off + j * 3 + 2, Option.none⟩ = some u
  row : StrRow w u x.deps
  lt : b < w.heap.size
theorem ElS.below {w w' : World} {b off j : Nat} {x : Dp} {u : Value} (h : ElS w b off j x u) (hb : Below w.heap.size w w') : ElS w' b off j x u :=
  ⟨(cell_of_block (hb.block b h.lt)).trans h.c0, (cell_of_block (hb.block b h.lt)).trans h.c1, (cell_of_block (hb.block b h.lt)).trans h.c2, h.row.below hb, Nat.lt_of_lt_of_le h.lt hb.size⟩

theorem dep_el {w : World} {a : Option Addr} {c : Nat} {L : List Dp} (h : DepRow w (.slice a L.length c) L) {j : Nat} {x : Dp} (hj : L[j]? = some x) : ∃ b off u, a = some ⟨b, off, Option.none⟩ ∧ ElS w b off j x u := by
  obtain ⟨a', c', e, -, h2⟩ := h
  cases e
  rcases h2 with h2 | ⟨b, off, rfl, hl, hc⟩
  · rw [h2] at hj; cases hj
  · obtain ⟨vd, c0, c1, c2, hs, -⟩ := hc j x hj
    exact ⟨b, off, vd, rfl, c0, c1, c2, hs, hl⟩

/-- .. of a row that begins its block -/
structure ElZ (w : World) (b j : Nat) (x : Dp) (u : Value) : Prop where
  c0 : w.cell? ⟨b, j * 3, Option.none⟩ = some (.string x.out)
  c1 : w.cell? ⟨b, j * 3 + 1, Option.none⟩ = some (.int .i64 x.time)
  c2 : w.cell? ⟨b, j * 3 + 2, Option.none⟩ = some u
  row : StrRow w u x.deps
  lt : b < w.heap.size
theorem ElZ.below {w w' : World} {b j : Nat} {x : Dp} {u : Value} (h : ElZ w b j x u) (hb : Below w.heap.size w w') : ElZ w' b j x u :=
  ⟨(cell_of_block (hb.block b h.lt)).trans h.c0, (cell_of_block (hb.block b h.lt)).trans h.c1, (cell_of_block (hb.block b h.lt)).trans h.c2, h.row.below hb, Nat.lt_of_lt_of_le h.lt hb.size⟩

theorem rb_el {S : Nat → Prop} {w : World} {p : Nat} {N : List ByteArray} {L : List Dp} {vN : Value} {a : Option Addr} {n c : Nat} {G : List Gd} (h : Rb S w p N L vN (.slice a n c) G) {j : Nat} {x : Dp} (hj : L[j]? = some x) : ∃ b u, a = some ⟨b, 0, Option.none⟩ ∧ ElZ w b j x u := by
  have hjG : ∃ g, G[j]? = some g ∧ g.1 = x := by
    rw [← h.eq, List.getElem?_map] at hj
    cases e : G[j]? with
    | none => rw [e] at hj; cases hj
    | some g => rw [e] at hj; exact ⟨g, rfl, Option.some.inj hj⟩
  obtain ⟨g, hg, rfl⟩ := hjG
  rcases own_at h.found with ⟨e, h9⟩ | ⟨b, cap, e, _, hl, _, hc⟩
  · have := (List.getElem?_eq_some_iff.1 hg).1
    omega
  · cases e
    obtain ⟨q0, q1, q2⟩ := depV_get G j g hg
    refine ⟨b, g.v, rfl, ?_, ?_, ?_, (h.els g (List.mem_of_getElem? hg)).row, hl⟩
    · exact hc _ _ q0
    · exact hc _ _ q1
    · exact hc _ _ q2

set_option maxRecDepth 100000 in
set_option maxHeartbeats 8000000 in
theorem sameB_c {b lo hi : Nat} {w : World} {p : Nat} {B : Bo} {S : Nat → Prop} {q : Nat} {vN vL : Value} {G : List Gd} (hO : Own b lo hi w p B) (hok : OkB B) (hnd : B.N.Nodup) (hR : Rb S w q B.N (allL B) vN vL G) (hsz : ∀ x ∈ allL B, x.out.size ≤ 1000000 ∧ x.deps.length ≤ 1000000) :
    Calls Try.prog 13 #[.pointer (some ⟨p, 0, Option.none⟩), .pointer (some ⟨q, 0, Option.none⟩)] w fun e w' => e = .returned (.bool true) ∧ Below w.heap.size w w' := by
  have houts := found_nodup hok.len hnd
  have hlk : ∀ x ∈ allL B, lookB B x.out = some x := fun x hx => (mem_found hok.len hnd x).1 ((sort_mem houts x).1 hx)
  have hfewA : (allL B).length ≤ 900000 := hR.fewL
  have hfewN := hR.few
  have hlen := hR.len
  obtain ⟨an, cn, rfl⟩ := own_slice hR.names
  obtain ⟨ga, gc, rfl⟩ := own_slice hR.found
  rw [hlen] at hR
  have HR := Lib.hid hR
  have HO := Lib.hid hO
  have HLK := Lib.hid hlk
  have HSZ := Lib.hid hsz
  have cn1 := names_c hO
  have HOUTS := Lib.hid houts
  clear hR hO hlk hsz hok hlen houts hnd
  go_enter Try.func13, Try.ntmps13
  go_wp2_with fail
  refine cn1.mono ?_
  rintro e w1 ⟨a1, c1, rfl, ho1, hb1⟩
  have cA := allD_c (HO.out.below hb1) HOUTS.out
  have HB1 := Lib.hid hb1
  have HO1 := Lib.hid ho1
  clear cn1 hb1 ho1
  go_wp2_with fail
  refine cA.mono ?_
  rintro e w2 ⟨a2, c2, rfl, hst, hb2⟩
  have HB2 := Lib.hid (HB1.out.trans (hb2.mono HB1.out.size))
  have HN1 := Lib.hid ((strRow_of HO1.out).1.below hb2)
  have HD2 := Lib.hid (hst w2 (Nat.le_refl _) (fun _ _ _ => rfl))
  have HR2 := Lib.hid (HR.out.below HB2.out)
  have HO2 := Lib.hid (HO.out.below HB2.out)
  obtain ⟨c0, c1', -, -⟩ := HR2.out.cells
  clear cA hst hb2 HO1
  generalize hAA : allL B = A at *
  go_wp2_with fail
  go_loopw [7] (fun i wr => ∃ j : Nat, j ≤ B.N.length ∧ i = .int .i64 j ∧ Hid (Below w2.heap.size w2 wr)) (fun i _ => B.N.length - (intOf i).toNat)
  case atStart => exact ⟨0, Nat.zero_le _, rfl, Lib.hid (Below.refl _ _)⟩
  case round =>
    obtain ⟨j, hj, rfl, hBe⟩ := hrel
    clear c0 c1'
    obtain ⟨c0, c1', -, -⟩ := (HR2.out.below hBe.out).cells
    by_cases hlt : j < B.N.length
    · have hx := List.getElem?_eq_getElem hlt
      obtain ⟨_, _, e1, _, r1⟩ := HN1.out.below hBe.out
      cases e1
      obtain ⟨_, _, e2, _, r2⟩ := (strRow_of (HR2.out.below hBe.out).names).1
      cases e2
      rcases r1 with h | ⟨b1, o1, rfl, _, hc1⟩
      · rw [h] at hlt; simp at hlt
      rcases r2 with h | ⟨b2, o2, rfl, _, hc2⟩
      · rw [h] at hlt; simp at hlt
      have x1 := hc1 j _ hx
      have x2 := hc2 j _ hx
      generalize B.N[j] = s at *
      have t0 : (s.toList == s.toList) = true := by simp
      have hi0 : (0 : Int) ≤ (j : Int) := by omega
      have hi1 : (j : Int) < (B.N.length : Int) := by omega
      clear hc1 hc2 hx
      go_wp2_with fail
      go_quiet (fail)
      go_wp2_with fail
      go_roundw
      case rel => exact ⟨j + 1, by omega, by go_num, Lib.hid (below_drawn hBe.out _)⟩
      case measure => simp [intOf]; omega
    · obtain rfl : j = B.N.length := by omega
      go_wp2_with fail
      go_loopw [8, 9, 10] (fun i _ _ wr => ∃ j : Nat, j ≤ A.length ∧ i = .int .i64 j ∧ Hid (Below w2.heap.size w2 wr)) (fun i _ _ _ => A.length - (intOf i).toNat)
      case atStart => exact ⟨0, Nat.zero_le _, rfl, hBe⟩
      case round =>
        obtain ⟨j, hj, rfl, hBm⟩ := hrel
        clear c0 c1' hBe
        obtain ⟨c0, c1', -, -⟩ := (HR2.out.below hBm.out).cells
        by_cases hlt : j < A.length
        · have hx := List.getElem?_eq_getElem hlt
          obtain ⟨b1, o1, u1, rfl, E1⟩ := dep_el (HD2.out.below hBm.out) hx
          obtain ⟨b2, u2, rfl, E2⟩ := rb_el (HR2.out.below hBm.out) hx
          have hmem := List.getElem_mem hlt
          generalize A[j] = x at *
          obtain ⟨ua, uc, rfl, -, -⟩ := E1.row
          obtain ⟨ub, uk, rfl, -, -⟩ := E2.row
          have cl := look_c (s := x.out) (HO2.out.below hBm.out) (HSZ.out x hmem).1
          have hlk := HLK.out x hmem
          have hdl := (HSZ.out x hmem).2
          have cl2 : Calls Try.prog 15 #[.pointer (some ⟨p, 0, Option.none⟩), .string x.out] wr fun e w' => ∃ a c, e = .returned (.tuple #[.agg #[.string x.out, .int .i64 x.time, .slice a x.deps.length c], .bool true]) ∧ w'.ownsRow wr.heap.size 9 1 (.slice a x.deps.length c) x.deps.length (strV x.deps) ∧ Below wr.heap.size wr w' := cl.mono fun e w' hq => by
            unfold LoQ at hq
            rw [hlk] at hq
            obtain ⟨⟨a, c, he, ho⟩, hb⟩ := hq
            exact ⟨a, c, he, ho, hb⟩
          obtain ⟨x0, x1, x2, -, -⟩ := id E1
          obtain ⟨y0', y1', y2', -, -⟩ := id E2
          have EA := Lib.hid E1
          have EB := Lib.hid E2
          have hi0 : (0 : Int) ≤ (j : Int) := by omega
          have hi1 : (j : Int) < (A.length : Int) := by omega
          have HDL := Lib.hid hdl
          clear cl hlk hx hmem E1 E2 hdl
          go_wp2_with fail
          refine cl2.mono ?_
          rintro e w3 ⟨la, lc, rfl, ho3, hb3⟩
          obtain ⟨W5, hW5⟩ : ∃ W, w3.alloc (.cells #[.string ⟨#[]⟩, .int .i64 0, .slice Option.none 0 0] 39) = W := ⟨_, rfl⟩
          have z5 : W5.heap[w3.heap.size]? = some (.cells #[.string ⟨#[]⟩, .int .i64 0, .slice Option.none 0 0] 39 (0, 0)) := by rw [← hW5]; exact heap_alloc_new _ _
          have b5 : Below w3.heap.size w3 W5 := by rw [← hW5]; exact Pk.below_alloc _ _
          obtain ⟨⟨y0, y1, y2⟩, f0, f1, f2⟩ := thr_cells z5
          have z6 := thr_same (v0 := .string x.out) (v1 := .int .i64 x.time) (v2 := .slice la x.deps.length lc) z5
          have b6 := thr_below (v0 := .string x.out) (v1 := .int .i64 x.time) (v2 := .slice la x.deps.length lc) b5 (Nat.le_refl _) (Nat.le_refl w3.heap.size)
          have bm6 := hb3.trans (b6.mono hb3.size)
          have ls := (strRow_of ho3).1.below b6
          obtain ⟨W6, hW6⟩ : ∃ W, thr W5 w3.heap.size (.string x.out) (.int .i64 x.time) (.slice la x.deps.length lc) = W := ⟨_, rfl⟩
          rw [hW6] at z6 ls bm6
          have LS := Lib.hid ls
          have Z6 := Lib.hid z6
          have HM6 := Lib.hid (hBm.out.trans (bm6.mono hBm.out.size))
          have EA6 := Lib.hid (EA.out.below bm6)
          have EB6 := Lib.hid (EB.out.below bm6)
          have q6 := (HR2.out.below HM6.out).cells.2.1
          obtain ⟨⟨s0, s1, s2⟩, -⟩ := thr_cells z6
          obtain ⟨e0, e1, e2, -, -⟩ := id EA6.out
          obtain ⟨g0, g1, g2, -, -⟩ := id EB6.out
          unfold thr at hW6
          have KB : Hid (∀ W : World, Below W6.heap.size W6 W → ((W.cell? ⟨w3.heap.size, 0, Option.none⟩ = some (.string x.out) ∧ W.cell? ⟨w3.heap.size, 1, Option.none⟩ = some (.int .i64 x.time) ∧ W.cell? ⟨w3.heap.size, 2, Option.none⟩ = some (.slice la x.deps.length lc)) ∧ (W.cell? ⟨b1, o1 + j * 3, Option.none⟩ = some (.string x.out) ∧ W.cell? ⟨b1, o1 + j * 3 + 1, Option.none⟩ = some (.int .i64 x.time) ∧ W.cell? ⟨b1, o1 + j * 3 + 2, Option.none⟩ = some (.slice ua x.deps.length uc)) ∧ (W.cell? ⟨b2, j * 3, Option.none⟩ = some (.string x.out) ∧ W.cell? ⟨b2, j * 3 + 1, Option.none⟩ = some (.int .i64 x.time) ∧ W.cell? ⟨b2, j * 3 + 2, Option.none⟩ = some (.slice ub x.deps.length uk)) ∧ W.cell? ⟨q, 1, Option.none⟩ = some (.slice (some ⟨b2, 0, Option.none⟩) A.length gc))) := Lib.hid (fun W hb => by
            have k1 := EA6.out.below hb
            have k2 := EB6.out.below hb
            have k3 := (thr_cells ((hb.block _ (lt_some Z6.out)).trans Z6.out)).1
            have k4 := (HR2.out.below (HM6.out.trans (hb.mono HM6.out.size))).cells.2.1
            exact ⟨k3, ⟨k1.c0, k1.c1, k1.c2⟩, ⟨k2.c0, k2.c1, k2.c2⟩, k4⟩)
          have K0 := Lib.hid (below_drew (Below.refl W6.heap.size W6))
          have cf := found_c W6.drew x.out x.time ua x.deps.length uc
          clear cl2 ho3 hb3 z5 b5 b6 bm6 z6 ls x0 x1 x2 y0' y1' y2' c0 c1'
          go_wp2_with fail
          clear hW6 hW5 y0 y1 y2 f0 f1 f2
          go_region_held3 (fun w' => (w'.cell? ⟨w3.heap.size, 0, Option.none⟩ = some (.string x.out) ∧ w'.cell? ⟨w3.heap.size, 1, Option.none⟩ = some (.int .i64 x.time) ∧ w'.cell? ⟨w3.heap.size, 2, Option.none⟩ = some (.slice la x.deps.length lc)) ∧ (w'.cell? ⟨b1, o1 + j * 3, Option.none⟩ = some (.string x.out) ∧ w'.cell? ⟨b1, o1 + j * 3 + 1, Option.none⟩ = some (.int .i64 x.time) ∧ w'.cell? ⟨b1, o1 + j * 3 + 2, Option.none⟩ = some (.slice ua x.deps.length uc)) ∧ (w'.cell? ⟨b2, j * 3, Option.none⟩ = some (.string x.out) ∧ w'.cell? ⟨b2, j * 3 + 1, Option.none⟩ = some (.int .i64 x.time) ∧ w'.cell? ⟨b2, j * 3 + 2, Option.none⟩ = some (.slice ub x.deps.length uk)) ∧ w'.cell? ⟨q, 1, Option.none⟩ = some (.slice (some ⟨b2, 0, Option.none⟩) A.length gc))
            (first | with_reducible exact KB.out _ K0.out | with_reducible exact KB.out _ C7.out | with_reducible exact KB.out _ C8.out | with_reducible exact KB.out _ C9.out | with_reducible exact KB.out _ C10.out | fail)
            (first
              | (go_at_call 17; (with_reducible refine cf.mono ?_); rintro e V7 ⟨rfl, hb7⟩; have C7 := Lib.hid (below_of_drew hb7); have cs := same_c (d := x) (EA6.out.below C7.out).row (EB6.out.below C7.out).row HDL.out; clear hb7 cf)
              | (go_at_call 16; (with_reducible refine cs.mono ?_); rintro e V8 ⟨rfl, hb8⟩; have C8 := Lib.hid (C7.out.trans (hb8.mono C7.out.size)); have cf2 := found_c V8 x.out x.time la x.deps.length lc; clear hb8 cs)
              | (go_at_call 17; (with_reducible refine cf2.mono ?_); rintro e V9 ⟨rfl, hb9⟩; have C9 := Lib.hid (C8.out.trans (hb9.mono C8.out.size)); have cs2 := same_c (d := x) (LS.out.below C9.out) (EB6.out.below C9.out).row HDL.out; clear hb9 cf2)
              | (go_at_call 16; (with_reducible refine cs2.mono ?_); rintro e V10 ⟨rfl, hb10⟩; have C10 := Lib.hid (C9.out.trans (hb10.mono C9.out.size)); clear hb10 cs2)
              | fail)
          go_wp2_with fail
          go_roundw
          case rel => exact ⟨j + 1, by omega, by go_num, Lib.hid (HM6.out.trans (C10.out.mono HM6.out.size))⟩
          case measure => simp [intOf]; omega
        · obtain rfl : j = A.length := by omega
          go_wp2_with fail
          go_ret
          exact ⟨rfl, HB2.out.trans (hBm.out.mono HB2.out.size)⟩
end Go.Proofs.Ytofdnbddpageoaa.Nm
