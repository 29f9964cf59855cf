/-
  ROWS OF EDGES, as they are read; whether an edge, whether a manifest may be printed.
-/
import Derived.Test.YtlhhpggjdbbcmaaDoorPrRight
import Derived.Deep.Cut
namespace Go.Proofs.YtlhhpggjdbbcmaaDoor.Pr
open Go.RowKit Go.Proofs.YtlhhpggjdbbcmaaDoor Go.Proofs.YtlhhpggjdbbcmaaDoor.Df

/-- the four rows of an edge -/
structure EdV (w : World) (e : Ed) (v0 v1 v2 v3 : Value) : Prop where
  o : Strs w v0 e.outs
  i : Strs w v1 e.ins
  m : Strs w v2 e.imp
  r : Strs w v3 e.ord
/-- a row of edges -/
def Eds (w : World) (v : Value) (L : List Ed) : Prop :=
  ∃ a c, v = .slice a L.length c ∧ L.length ≤ c ∧ (L = [] ∨ ∃ g off, a = some ⟨g, off, none⟩ ∧ g < w.heap.size ∧ ∀ (j : Nat) e, L[j]? = some e → ∃ v0 v1 v2 v3, EdV w e v0 v1 v2 v3 ∧
    w.cell? ⟨g, off + j * 6, none⟩ = some v0 ∧ w.cell? ⟨g, off + j * 6 + 1, none⟩ = some v1 ∧ w.cell? ⟨g, off + j * 6 + 2, none⟩ = some v2 ∧ w.cell? ⟨g, off + j * 6 + 3, none⟩ = some v3 ∧ w.cell? ⟨g, off + j * 6 + 4, none⟩ = some (.string (mk e.cmd)) ∧ w.cell? ⟨g, off + j * 6 + 5, none⟩ = some (.string (mk e.dep)))
section
variable {w w' : World} {e : Ed} {v0 v1 v2 v3 v : Value} {L : List Ed}
theorem EdV.below (h : EdV w e v0 v1 v2 v3) (hb : Below w.heap.size w w') : EdV w' e v0 v1 v2 v3 := ⟨h.o.below hb, h.i.below hb, h.m.below hb, h.r.below hb⟩
theorem EdV.sl (h : EdV w e v0 v1 v2 v3) : ∃ a0 c0 a1 c1 a2 c2 a3 c3, v0 = .slice a0 e.outs.length c0 ∧ v1 = .slice a1 e.ins.length c1 ∧ v2 = .slice a2 e.imp.length c2 ∧ v3 = .slice a3 e.ord.length c3 := by
  obtain ⟨a0, c0, h0, -⟩ := h.o
  obtain ⟨a1, c1, h1, -⟩ := h.i
  obtain ⟨a2, c2, h2, -⟩ := h.m
  obtain ⟨a3, c3, h3, -⟩ := h.r
  exact ⟨a0, c0, a1, c1, a2, c2, a3, c3, h0, h1, h2, h3⟩
theorem Eds.below (h : Eds w v L) (hb : Below w.heap.size w w') : Eds w' v L := by
  obtain ⟨a, c, e, hc, h⟩ := h
  refine ⟨a, c, e, hc, ?_⟩
  rcases h with h | ⟨g, off, e, hg, hat⟩
  · exact .inl h
  · refine .inr ⟨g, off, e, Nat.lt_of_lt_of_le hg hb.size, fun j x hx => ?_⟩
    obtain ⟨v0, v1, v2, v3, hE, h0, h1, h2, h3, h4, h5⟩ := hat j x hx
    have hB := hb.block g hg
    exact ⟨v0, v1, v2, v3, hE.below hb, (cell_of_block hB).trans h0, (cell_of_block hB).trans h1, (cell_of_block hB).trans h2, (cell_of_block hB).trans h3, (cell_of_block hB).trans h4, (cell_of_block hB).trans h5⟩
theorem Eds.at (h : Eds w v L) {j : Nat} (hx : L[j]? = some e) : ∃ g off c v0 v1 v2 v3, v = .slice (some ⟨g, off, none⟩) L.length c ∧ g < w.heap.size ∧ EdV w e v0 v1 v2 v3 ∧
    w.cell? ⟨g, off + j * 6, none⟩ = some v0 ∧ w.cell? ⟨g, off + j * 6 + 1, none⟩ = some v1 ∧ w.cell? ⟨g, off + j * 6 + 2, none⟩ = some v2 ∧ w.cell? ⟨g, off + j * 6 + 3, none⟩ = some v3 ∧ w.cell? ⟨g, off + j * 6 + 4, none⟩ = some (.string (mk e.cmd)) ∧ w.cell? ⟨g, off + j * 6 + 5, none⟩ = some (.string (mk e.dep)) := by
  obtain ⟨a, c, rfl, hc, h⟩ := h
  rcases h with rfl | ⟨g, off, rfl, hg, hat⟩
  · cases hx
  · obtain ⟨v0, v1, v2, v3, hE⟩ := hat j e hx
    exact ⟨g, off, c, v0, v1, v2, v3, rfl, hg, hE⟩
end

/-- may an edge be printed? -/
def rightE (e : Ed) : Bool := !e.outs.isEmpty && [e.outs, e.ins, e.imp, e.ord].all (fun K => K.all rightL) && comL e.cmd && (e.dep.isEmpty || rightL e.dep)
def badE (e : Ed) : Bool := !rightE e
def rightM (L : List Ed) (D : List Bs) : Bool := D.all rightL && L.all rightE

theorem box6 {w : World} {v0 v1 v2 v3 v4 v5 : Value} {t : TypeId} : let W := w.alloc (.cells #[v0, v1, v2, v3, v4, v5] t); W.cell? ⟨w.heap.size, 0, none⟩ = some v0 ∧ W.cell? ⟨w.heap.size, 1, none⟩ = some v1 ∧ W.cell? ⟨w.heap.size, 2, none⟩ = some v2 ∧ W.cell? ⟨w.heap.size, 3, none⟩ = some v3 ∧ W.cell? ⟨w.heap.size, 4, none⟩ = some v4 ∧ W.cell? ⟨w.heap.size, 5, none⟩ = some v5 := by
  have h := heap_alloc_new w (.cells #[v0, v1, v2, v3, v4, v5] t)
  intro W
  refine ⟨?_, ?_, ?_, ?_, ?_, ?_⟩ <;> (rw [Lib.cell_of_heap h]; rfl)

set_option maxRecDepth 100000 in
set_option maxHeartbeats 8000000 in
theorem isEdge_c {w : World} {e : Ed} {v0 v1 v2 v3 : Value} (h : EdV w e v0 v1 v2 v3) (hs : Sm e) :
    Calls Tryd.prog 19 #[.agg #[v0, v1, v2, v3, .string (mk e.cmd), .string (mk e.dep)]] w fun x w' => x = .returned (.bool (rightE e)) ∧ Below w.heap.size w w' := by
  have hA := below_alloc w (.cells #[v0, v1, v2, v3, .string (mk e.cmd), .string (mk e.dep)] 45)
  obtain ⟨wB, hwB⟩ : ∃ wB, w.alloc (.cells #[v0, v1, v2, v3, .string (mk e.cmd), .string (mk e.dep)] 45) = wB := ⟨_, rfl⟩
  have hQ : wB.heap[w.heap.size]? = some (.cells #[v0, v1, v2, v3, .string (mk e.cmd), .string (mk e.dep)] 45 (0, 0)) := by rw [← hwB]; exact heap_alloc_new w _
  rw [hwB] at hA
  -- the call with the four rows
  have hA2 := below_alloc wB (.cells #[v0, v1, v2, v3] 23)
  have hE2 := (h.below hA).below hA2
  have cP := arePaths_c (KK := [e.outs, e.ins, e.imp, e.ord]) (heap_alloc_new wB (.cells #[v0, v1, v2, v3] 23)) (by simp) (fun j K hj => by
    match j, hj with
    | 0, hj => cases hj; exact ⟨v0, rfl, hE2.o, by have := hs.o; omega, hs.xo⟩
    | 1, hj => cases hj; exact ⟨v1, rfl, hE2.i, by have := hs.i; omega, hs.xi⟩
    | 2, hj => cases hj; exact ⟨v2, rfl, hE2.m, by have := hs.m; omega, hs.xm⟩
    | 3, hj => cases hj; exact ⟨v3, rfl, hE2.r, by have := hs.r; omega, hs.xr⟩)
  have hsz : ([e.outs, e.ins, e.imp, e.ord] : List (List Bs)).length = 4 := rfl
  have cC := isCommand_c e.cmd (by have := hs.c; omega)
  have cR := right_c e.dep (by have := hs.d; omega)
  have hr : rightE e = (!e.outs.isEmpty && [e.outs, e.ins, e.imp, e.ord].all (fun K => K.all rightL) && comL e.cmd && (e.dep.isEmpty || rightL e.dep)) := rfl
  have hD1 : (mk e.dep).toList.isEmpty = e.dep.isEmpty := by rw [mk_toList]
  have hO : e.outs.isEmpty = decide (e.outs.length = 0) := by cases e.outs <;> simp
  obtain ⟨a0, k0, a1, k1, a2, k2, a3, k3, rfl, rfl, rfl, rfl⟩ := h.sl
  rw [hsz] at cP
  generalize [e.outs, e.ins, e.imp, e.ord].all (fun K => K.all rightL) = bP at *
  generalize comL e.cmd = bC at *
  generalize rightL e.dep = bR at *
  generalize e.dep.isEmpty = bD at *
  rw [hO] at hr
  have HR := Lib.hid hr
  have HA := Lib.hid hA
  have HA2 := Lib.hid hA2
  have HQ := Lib.hid hQ
  obtain ⟨c0, c1, c2, c3, c4, c5⟩ : wB.cell? ⟨w.heap.size, 0, none⟩ = some (.slice a0 e.outs.length k0) ∧ wB.cell? ⟨w.heap.size, 1, none⟩ = some (.slice a1 e.ins.length k1) ∧ wB.cell? ⟨w.heap.size, 2, none⟩ = some (.slice a2 e.imp.length k2) ∧ wB.cell? ⟨w.heap.size, 3, none⟩ = some (.slice a3 e.ord.length k3) ∧ wB.cell? ⟨w.heap.size, 4, none⟩ = some (.string (mk e.cmd)) ∧ wB.cell? ⟨w.heap.size, 5, none⟩ = some (.string (mk e.dep)) := by
    simp [World.cell?, hQ]
  have hnext : ∀ W, Below wB.heap.size wB W → W.cell? ⟨w.heap.size, 4, none⟩ = some (.string (mk e.cmd)) ∧ W.cell? ⟨w.heap.size, 5, none⟩ = some (.string (mk e.dep)) := fun W hW => by
    have hlt := lt_some HQ.out
    exact ⟨(cell_of_block (hW.block _ hlt)).trans c4, (cell_of_block (hW.block _ hlt)).trans c5⟩
  have HN := Lib.hid hnext
  clear hr hA hA2 hQ hE2 hnext hO h
  have HWB := Lib.hid hwB
  clear hwB
  generalize e.outs.length = n0 at *
  by_cases h0 : n0 = 0
  · have d0 : decide ((0 : Int) < (n0 : Int)) = false := decide_eq_false (by omega)
    have d1 : decide (0 < n0) = false := decide_eq_false (by omega)
    have d2 : ¬ 0 < n0 := by omega
    have d3 : ¬ (0 : Int) < (n0 : Int) := by omega
    have HF : Hid (rightE e = false) := Lib.hid (by rw [HR.out, decide_eq_true h0]; rfl)
    clear h0
    go_enter Tryd.func19, Tryd.ntmps19
    go_upto_region 1 with fail
    rw [HWB.out]
    go_wp2_with fail
    go_ret
    exact ⟨by rw [HF.out]; rfl, HA.out⟩
  have d0 : decide ((0 : Int) < (n0 : Int)) = true := decide_eq_true (by omega)
  have d1 : decide (0 < n0) = true := decide_eq_true (by omega)
  have d2 : 0 < n0 := by omega
  have d3 : (0 : Int) < (n0 : Int) := by omega
  have HR2 : Hid (rightE e = (bP && bC && (bD || bR))) := Lib.hid (by rw [HR.out, decide_eq_false h0]; simp)
  clear HR h0
  cases bP with
  | false =>
    go_enter Tryd.func19, Tryd.ntmps19
    go_upto_region 1 with fail
    rw [HWB.out]
    go_wp2_with fail
    refine cP.mono ?_
    rintro x w1 ⟨rfl, hb1⟩
    have HB1 := Lib.hid (HA.out.trans ((HA2.out.trans (hb1.mono HA2.out.size)).mono HA.out.size))
    clear hb1 cP
    go_wp2_with fail
    go_ret
    exact ⟨by rw [HR2.out]; rfl, HB1.out⟩
  | true =>
    cases bC with
    | false =>
      go_enter Tryd.func19, Tryd.ntmps19
      go_upto_region 1 with fail
      rw [HWB.out]
      go_wp2_with fail
      refine cP.mono ?_
      rintro x w1 ⟨rfl, hb1⟩
      obtain ⟨e4, e5⟩ := HN.out w1 (HA2.out.trans (hb1.mono HA2.out.size))
      have HB1 := Lib.hid (HA.out.trans ((HA2.out.trans (hb1.mono HA2.out.size)).mono HA.out.size))
      clear hb1 cP
      go_wp2_with fail
      refine (cC _).mono ?_
      rintro x w2 ⟨rfl, rfl⟩
      go_wp2_with fail
      go_ret
      exact ⟨by rw [HR2.out]; rfl, HB1.out⟩
    | true =>
      cases bD with
      | true =>
        go_enter Tryd.func19, Tryd.ntmps19
        go_upto_region 1 with fail
        rw [HWB.out]
        go_wp2_with fail
        refine cP.mono ?_
        rintro x w1 ⟨rfl, hb1⟩
        obtain ⟨e4, e5⟩ := HN.out w1 (HA2.out.trans (hb1.mono HA2.out.size))
        have HB1 := Lib.hid (HA.out.trans ((HA2.out.trans (hb1.mono HA2.out.size)).mono HA.out.size))
        clear hb1 cP
        go_wp2_with fail
        refine (cC _).mono ?_
        rintro x w2 ⟨rfl, rfl⟩
        go_wp2_with fail
        go_ret
        exact ⟨by rw [HR2.out]; rfl, HB1.out⟩
      | false =>
        go_enter Tryd.func19, Tryd.ntmps19
        go_upto_region 1 with fail
        rw [HWB.out]
        go_wp2_with fail
        refine cP.mono ?_
        rintro x w1 ⟨rfl, hb1⟩
        obtain ⟨e4, e5⟩ := HN.out w1 (HA2.out.trans (hb1.mono HA2.out.size))
        have HB1 := Lib.hid (HA.out.trans ((HA2.out.trans (hb1.mono HA2.out.size)).mono HA.out.size))
        clear hb1 cP
        go_wp2_with fail
        refine (cC _).mono ?_
        rintro x w2 ⟨rfl, rfl⟩
        go_wp2_with fail
        refine (cR _).mono ?_
        rintro x w3 ⟨rfl, hb3⟩
        have HB3 := Lib.hid (HB1.out.trans (hb3.mono HB1.out.size))
        clear hb3 cR
        go_wp2_with fail
        go_ret
        exact ⟨by rw [HR2.out]; simp, HB3.out⟩

set_option maxHeartbeats 4000000 in
theorem noEdge_c {w : World} {e : Ed} {v0 v1 v2 v3 : Value} (h : EdV w e v0 v1 v2 v3) (hs : Sm e) :
    Calls Tryd.prog 18 #[.agg #[v0, v1, v2, v3, .string (mk e.cmd), .string (mk e.dep)]] w fun x w' => x = .returned (.bool (badE e)) ∧ Below w.heap.size w w' := by
  have hA := below_alloc w (.cells #[v0, v1, v2, v3, .string (mk e.cmd), .string (mk e.dep)] 45)
  obtain ⟨c0, c1, c2, c3, c4, c5⟩ := box6 (w := w) (v0 := v0) (v1 := v1) (v2 := v2) (v3 := v3) (v4 := .string (mk e.cmd)) (v5 := .string (mk e.dep)) (t := 45)
  have hc := isEdge_c (h.below hA) hs
  have HA := Lib.hid hA
  obtain ⟨a0, k0, a1, k1, a2, k2, a3, k3, rfl, rfl, rfl, rfl⟩ := h.sl
  unfold badE
  generalize rightE e = z at *
  clear h hA
  go_enter Tryd.func18, Tryd.ntmps18
  go_wp2_with fail
  refine hc.mono ?_
  rintro x w1 ⟨rfl, hb1⟩
  have HB1 := Lib.hid (HA.out.trans (hb1.mono HA.out.size))
  clear hc hb1
  go_wp2_with fail
  go_ret
  exact ⟨rfl, HB1.out⟩

set_option maxRecDepth 100000 in
set_option maxHeartbeats 8000000 in
theorem indexE_c {w : World} {dv : Value} {L : List Ed} (h : Eds w dv L) (hl : L.length ≤ 1000000) (hx : ∀ x ∈ L, Sm x) :
    Calls Tryd.prog 34 #[dv, .func (.func 18) #[] #[]] w fun e w' => (∃ z : Int, e = .returned (.int .i64 z) ∧ decide (0 ≤ z) = L.any badE) ∧ Below w.heap.size w w' := by
  have H := Lib.hid h
  have HX := Lib.hid hx
  obtain ⟨a, c, rfl, -, -⟩ := h
  clear hx
  go_enter Tryd.func34, Tryd.ntmps34
  go_wp2_with fail
  go_loopw [5, 8] (fun _ i wr => ∃ j : Nat, j ≤ L.length ∧ i = .int .i64 j ∧ Hid ((L.take j).any badE = false) ∧ Hid (Below w.heap.size w wr)) (fun _ i _ => L.length - (intOf i).toNat)
  case atStart => exact ⟨0, Nat.zero_le _, rfl, Lib.hid (by simp), Lib.hid (Below.refl _ _)⟩
  case round =>
    obtain ⟨j, hj, rfl, hA, hB⟩ := hrel
    by_cases hlt : j < L.length
    · have hx := List.getElem?_eq_getElem hlt
      have htk : (L.take (j + 1)).any badE = ((L.take j).any badE || badE L[j]) := by
        rw [List.take_add_one, hx, List.any_append]
        generalize L[j] = y
        simp
      have hmem : L[j] ∈ L := List.getElem_mem hlt
      generalize L[j] = x at *
      obtain ⟨g, off, c2, v0, v1, v2, v3, e, hg, hE, c0, c1, c2, c3, c4, c5⟩ := (H.out.below hB.out).at hx
      cases e
      have cl := noEdge_c hE (HX.out _ hmem)
      obtain ⟨a0, k0, a1, k1, a2, k2, a3, k3, rfl, rfl, rfl, rfl⟩ := hE.sl
      have HTK := Lib.hid htk
      have HMEM := Lib.hid hmem
      have hi0 : (0 : Int) ≤ (j : Int) := by omega
      have hi1 : (j : Int) < (L.length : Int) := by omega
      clear hx htk hmem hE hg
      cases hz : badE x with
      | true =>
        rw [hz] at cl
        have HZ := Lib.hid hz
        clear hz
        go_wp2_with fail
        refine cl.mono ?_
        rintro e w1 ⟨rfl, hb1⟩
        have HB1 := Lib.hid (hB.out.trans (hb1.mono hB.out.size))
        clear cl hb1
        go_wp2_with fail
        go_ret
        refine ⟨⟨(j : Int), rfl, ?_⟩, HB1.out⟩
        rw [decide_eq_true (by omega)]
        symm
        rw [List.any_eq_true]
        exact ⟨x, HMEM.out, HZ.out⟩
      | false =>
        rw [hz] at cl
        have HZ := Lib.hid hz
        clear hz
        go_wp2_with fail
        refine cl.mono ?_
        rintro e w1 ⟨rfl, hb1⟩
        have HB1 := Lib.hid (hB.out.trans (hb1.mono hB.out.size))
        clear cl hb1
        go_wp2_with fail
        go_roundw
        case rel => exact ⟨j + 1, by omega, by go_num, Lib.hid (by rw [HTK.out, hA.out, HZ.out]; rfl), HB1⟩
        case measure => simp [intOf] <;> omega
    · obtain rfl : j = L.length := by omega
      rw [List.take_length] at hA
      go_wp2_with fail
      go_ret
      exact ⟨⟨-1, rfl, by rw [hA.out]; rfl⟩, hB.out⟩

theorem any_badE (L : List Ed) : L.any badE = !L.all rightE := by
  have h : (!L.any badE) = L.all rightE := by
    unfold badE
    rw [List.not_any_eq_all_not]
    simp
  rw [← h]
  simp
theorem containsE_c {w : World} {dv : Value} {L : List Ed} (h : Eds w dv L) (hl : L.length ≤ 1000000) (hx : ∀ x ∈ L, Sm x) :
    Calls Tryd.prog 21 #[dv, .func (.func 18) #[] #[]] w fun e w' => e = .returned (.bool (!L.all rightE)) ∧ Below w.heap.size w w' := by
  have hi := indexE_c h hl hx
  rw [any_badE] at hi
  obtain ⟨z0, hz0⟩ : ∃ z, L.all rightE = z := ⟨_, rfl⟩
  rw [hz0] at hi ⊢
  obtain ⟨a, c, rfl, -, -⟩ := h
  clear hz0 hx
  go_enter Tryd.func21, Tryd.ntmps21
  go_wp2_with fail
  refine hi.mono ?_
  rintro e w1 ⟨⟨z, rfl, hz⟩, hb⟩
  have HB := Lib.hid hb
  clear hi hb
  go_wp2_with fail
  go_ret
  exact ⟨rfl, HB.out⟩

set_option maxRecDepth 100000 in
set_option maxHeartbeats 8000000 in
/-- may a manifest be printed? -/
theorem rightM_c {w : World} {u0 u1 : Value} {L : List Ed} {D : List Bs} (hL : Eds w u0 L) (hD : Strs w u1 D) (hl : L.length ≤ 30) (hd : D.length ≤ 20) (hx : ∀ x ∈ L, Sm x) (hy : ∀ x ∈ D, x.length ≤ 200) :
    Calls Tryd.prog 8 #[.agg #[u0, u1]] w fun x w' => x = .returned (.bool (rightM L D)) ∧ Below w.heap.size w w' := by
  have hA := below_alloc w (.cells #[u0, u1] 32)
  obtain ⟨wB, hwB⟩ : ∃ wB, w.alloc (.cells #[u0, u1] 32) = wB := ⟨_, rfl⟩
  have hQ : wB.heap[w.heap.size]? = some (.cells #[u0, u1] 32 (0, 0)) := by rw [← hwB]; exact heap_alloc_new w _
  rw [hwB] at hA
  have hA2 := below_alloc wB (.cells #[u1] 23)
  have cP := arePaths_c (KK := [D]) (heap_alloc_new wB (.cells #[u1] 23)) (by simp) (fun j K hj => by
    match j, hj with
    | 0, hj => cases hj; exact ⟨u1, rfl, (hD.below hA).below hA2, by omega, hy⟩)
  have hsz : ([D] : List (List Bs)).length = 1 := rfl
  have hr : rightM L D = ([D].all (fun K => K.all rightL) && L.all rightE) := by simp [rightM]
  have cE := fun W (hW : Below w.heap.size w W) => containsE_c (hL.below hW) (by omega) hx
  obtain ⟨a0, k0, rfl, -, -⟩ := id hL
  obtain ⟨a1, k1, rfl, -, -⟩ := id hD
  rw [hsz] at cP
  generalize [D].all (fun K => K.all rightL) = bP at *
  generalize L.all rightE = bE at *
  have HR := Lib.hid hr
  have HA := Lib.hid hA
  have HA2 := Lib.hid hA2
  obtain ⟨c0, c1⟩ : wB.cell? ⟨w.heap.size, 0, none⟩ = some (.slice a0 L.length k0) ∧ wB.cell? ⟨w.heap.size, 1, none⟩ = some (.slice a1 D.length k1) := by
    simp [World.cell?, hQ]
  have hnext : ∀ W, Below wB.heap.size wB W → W.cell? ⟨w.heap.size, 0, none⟩ = some (.slice a0 L.length k0) := fun W hW => (cell_of_block (hW.block _ (lt_some hQ))).trans c0
  have HN := Lib.hid hnext
  have hle : (L.length : Int) ≤ 200 := by omega
  have HWB := Lib.hid hwB
  have HE := Lib.hid cE
  clear hr hA hA2 hQ hnext hL hD hwB cE
  cases bP with
  | false =>
    go_enter Tryd.func8, Tryd.ntmps8
    go_upto_region 1 with fail
    rw [HWB.out]
    go_wp2_with fail
    refine cP.mono ?_
    rintro x w1 ⟨rfl, hb1⟩
    have HB1 := Lib.hid (HA.out.trans ((HA2.out.trans (hb1.mono HA2.out.size)).mono HA.out.size))
    clear hb1 cP
    go_wp2_with fail
    go_ret
    exact ⟨by rw [HR.out]; rfl, HB1.out⟩
  | true =>
    go_enter Tryd.func8, Tryd.ntmps8
    go_upto_region 1 with fail
    rw [HWB.out]
    go_wp2_with fail
    refine cP.mono ?_
    rintro x w1 ⟨rfl, hb1⟩
    have e0 := HN.out w1 (HA2.out.trans (hb1.mono HA2.out.size))
    have HB1 := Lib.hid (HA.out.trans ((HA2.out.trans (hb1.mono HA2.out.size)).mono HA.out.size))
    clear hb1 cP
    go_wp2_with fail
    refine (HE.out w1 HB1.out).mono ?_
    rintro x w2 ⟨rfl, hb2⟩
    have HB2 := Lib.hid (HB1.out.trans (hb2.mono HB1.out.size))
    clear hb2
    go_wp2_with fail
    go_ret
    exact ⟨by rw [HR.out]; simp, HB2.out⟩
end Go.Proofs.YtlhhpggjdbbcmaaDoor.Pr
