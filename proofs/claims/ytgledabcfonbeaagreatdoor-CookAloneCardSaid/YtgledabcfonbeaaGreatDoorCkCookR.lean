/-
  The document's Cook, walked, where the command does not fail.
-/
import Derived.Test.YtgledabcfonbeaaGreatDoorCkShapeS
import Derived.Test.YtgledabcfonbeaaGreatDoorCkShapeR
import Derived.Test.YtgledabcfonbeaaGreatDoorCkJ12
import Derived.Deep.RegionHeld3
namespace Go.Proofs.YtgledabcfonbeaaGreatDoor.Df
open Go.RowKit Go.Maps Go.Proofs.YtgledabcfonbeaaGreatDoor

theorem shape_c {w : World} {s : Bs} (hs : s.length ≤ 900) {o : Cmd} (h : readL (words [] s) = some o) : Calls Tryz.prog 26 #[.string (mk s)] w (ShQ w o) := by
  obtain ⟨ws2, be, F⟩ := readL_form h
  cases hon : o.once with
  | true => exact shape_t hs F hon
  | false => exact shape_f hs F hon

/-- what the document's Cook makes -/
def DrV (W : World) (o : Cmd) (p : Bs × List Bs) (v : Value) : Prop :=
  ∃ (g c : Nat) (u : Option Addr) (k : Nat), v = .agg #[.slice (some ⟨g, 0, none⟩) o.outs.length c, .bool o.once, .string (mk o.dep), .string (mk (depsT o p.2))] ∧ o.outs.length ≤ c ∧ g < W.heap.size ∧ Byt W (.slice u p.1.length k) p.1 ∧
    ∀ (j : Nat) x, o.outs[j]? = some x → W.cell? ⟨g, j * 2, none⟩ = some (.string (mk x)) ∧ W.cell? ⟨g, j * 2 + 1, none⟩ = some (.slice u p.1.length k)
def DrQ (w : World) (o : Cmd) (p : Bs × List Bs) (e : Ending) (w' : World) : Prop :=
  (∃ C, e = .returned (.tuple #[.agg C, .bool true]) ∧ DrV w' o p (.agg C)) ∧ Below w.heap.size w w'

theorem depsT_good {o : Cmd} {f : List Bs} {x : Bs} (h0 : o.outs[0]? = some x) (hr : ∀ y ∈ o.outs, rightL y = true) (hf : ∀ y ∈ f, rightL y = true) (hd : o.dep ≠ []) : depsT o f = txt x f ++ [10] := by
  unfold depsT
  have hh : o.outs.headD [] = x := by
    cases ho : o.outs with
    | nil => rw [ho] at h0; cases h0
    | cons y r => rw [ho] at h0; exact Option.some.inj h0
  rw [if_neg hd, hh, if_neg]
  rw [Bool.or_eq_true]
  rintro (hb | hb)
  · unfold badL at hb
    rw [hr x (List.mem_of_getElem? h0)] at hb
    cases hb
  · obtain ⟨y, hy, hby⟩ := List.any_eq_true.1 hb
    unfold badL at hby
    rw [hf y hy] at hby
    cases hby
/-- the cells of the outputs, the first j with their bytes -/
def CI (outs : List Bs) (bv : Value) (C : Array Value) (j : Nat) : Prop := ∀ (q : Nat) x, outs[q]? = some x → C[q * 2]? = some (.string (mk x)) ∧ q * 2 + 1 < C.size ∧ (q < j → C[q * 2 + 1]? = some bv)
theorem CI.step {outs : List Bs} {bv : Value} {C : Array Value} {j : Nat} (h : CI outs bv C j) : CI outs bv (C.setIfInBounds (j * 2 + 1) bv) (j + 1) := fun q x hx => by
  obtain ⟨h1, h2, h3⟩ := h q x hx
  refine ⟨?_, by rw [Array.size_setIfInBounds]; exact h2, fun hq => ?_⟩
  · rw [Array.getElem?_setIfInBounds, if_neg (by omega)]
    exact h1
  · rw [Array.getElem?_setIfInBounds]
    by_cases e : j = q
    · subst e
      rw [if_pos rfl, if_pos h2]
    · rw [if_neg (by omega)]
      exact h3 (by omega)

set_option maxRecDepth 100000 in
set_option maxHeartbeats 16000000 in
theorem refCook_c {w : World} {s : Bs} {decl : List Bs} {dv fv : Value} {L : List Fl} {U : List Value} (hs : s.length ≤ 900) (hd : Strs w dv decl) (hdl : decl.length ≤ 1000000) (hf : Fls w fv L U) (hln : L.length ≤ 1000000) (hFb : ∀ x ∈ L, x.2.length ≤ 200) {o : Cmd} {b : Bs} {f : List Bs} (hr : readL (words [] s) = some o) (hdo : doneO hashT decl (fileL L) o.verb o.args = some (b, f)) :
    Calls Tryz.prog 17 #[.string (mk s), dv, fv] w (DrQ w o (b, f)) := by
  obtain ⟨w1, hw1⟩ : ∃ W, w.alloc (.cells #[.slice none 0 0, .bool false, .string ⟨#[]⟩, .string ⟨#[]⟩] 47) = W := ⟨_, rfl⟩
  have b1 : Below w.heap.size w w1 := by rw [← hw1]; exact below_alloc _ _
  have n1 : w1.heap[w.heap.size]? = some (.cells zRD 47 (0, 0)) := by rw [← hw1]; exact heap_alloc_new _ _
  have cs := shape_c (w := w1) hs hr
  have HD := Lib.hid hd
  have HF := Lib.hid hf
  obtain ⟨da, dc, rfl, -, -⟩ := hd
  obtain ⟨-, fa, fc, rfl, -, -⟩ := hf
  have HB1 := Lib.hid b1
  have HN1 := Lib.hid n1
  clear b1 n1
  go_enter Tryz.func17, Tryz.ntmps17
  go_wp2_with fail
  refine cs.mono ?_
  rintro e w2 ⟨ka, kc, LL, oa, oc, rfl, hkc2, hks, hLL, hown, hb2⟩
  go_upto_region 2 with fail
  have hne := (readL_ok hr).1
  obtain ⟨m, hm⟩ : ∃ m, o.outs.length = m := ⟨_, rfl⟩
  have hLm : LL.length = m := by rw [hLL, List.length_map, hm]
  have hm1 : 1 ≤ m := by rw [← hm]; exact List.length_pos_iff.2 hne
  obtain ⟨g, rfl⟩ : ∃ g, oa = some ⟨g, 0, none⟩ := by
    rcases hown.2 with ⟨e1, e2⟩ | ⟨g, cap, cur, e1, _⟩
    · omega
    · injection e1 with e1
      exact ⟨g, e1⟩
  have hoc : m ≤ oc ∧ oc ≤ 9223372036854775807 := by
    rcases hown.2 with ⟨e1, e2⟩ | ⟨g, cap, cur, e1, _, _, hle, hcap, _⟩
    · omega
    · cases e1
      unfold maxLen at hcap
      omega
  obtain ⟨hglo, C, hC⟩ := owns_block hown (g := g) rfl
  have hCe : ∀ (j : Nat) x, o.outs[j]? = some x → C[j * 2]? = some (.string (mk x)) ∧ C[j * 2 + 1]? = some (.slice none 0 0) := fun j x hx => by
    have hy : LL[j]? = some (x, Value.slice none 0 0) := by rw [hLL, List.getElem?_map, hx]; rfl
    have h1 := hown.cells (g := g) rfl (j * 2) _ (fcells_at LL j x _ hy).1
    have h2 := hown.cells (g := g) rfl (j * 2 + 1) _ (fcells_at LL j x _ hy).2
    rw [Go.WideShapes.add_plain, Nat.zero_add] at h1 h2
    have h3 : ∀ q, w2.cell? ⟨g, q, none⟩ = C[q]? := fun q => by simp [World.cell?, hC]
    rw [h3] at h1 h2
    exact ⟨h1, h2⟩
  rw [hLm] at hown
  rw [hm]
  obtain ⟨gk, offk, rfl, hgk, hkc, hkcell⟩ : ∃ gk offk, ka = some ⟨gk, offk, none⟩ ∧ gk < w2.heap.size ∧ o.args.length + 1 ≤ kc ∧ ∀ (j : Nat) x, (o.verb :: o.args)[j]? = some x → w2.cell? ⟨gk, offk + j, none⟩ = some (.string (mk x)) := by
    obtain ⟨a, c, e, hc, hrow⟩ := hks
    cases e
    rcases hrow with h | ⟨gk, offk, rfl, hgk, hcell⟩
    · cases h
    · exact ⟨gk, offk, rfl, hgk, hc, hcell⟩
  obtain ⟨V, hV⟩ : ∃ V, w2.alloc (.cells #[.slice (some ⟨g, 0, none⟩) m oc, .bool o.once, .string (mk o.dep), .string ⟨#[]⟩] 47) = V := ⟨_, rfl⟩
  rw [hV]
  have bV : Below w2.heap.size w2 V := by rw [← hV]; exact below_alloc _ _
  have nV : V.heap[w2.heap.size]? = some (.cells #[.slice (some ⟨g, 0, none⟩) m oc, .bool o.once, .string (mk o.dep), .string ⟨#[]⟩] 47 (0, 0)) := by rw [← hV]; exact heap_alloc_new _ _
  have hlo : w.heap.size < w1.heap.size := lt_some HN1.out
  have HB2 := Lib.hid (HB1.out.trans (hb2.mono HB1.out.size))
  have HBV := Lib.hid (HB2.out.trans (bV.mono HB2.out.size))
  have HDV := Lib.hid nV
  have HRV := Lib.hid ((bV.block _ (lt_some ((hb2.block _ hlo).trans HN1.out))).trans ((hb2.block _ hlo).trans HN1.out))
  have HGV := Lib.hid ((bV.block _ (lt_some hC)).trans hC)
  have HCE := Lib.hid hCe
  have HGK := Lib.hid (fun (j : Nat) x (hx : (o.verb :: o.args)[j]? = some x) => (cell_of_block (bV.block gk hgk)).trans (hkcell j x hx))
  have hgkV : gk < V.heap.size := Nat.lt_of_lt_of_le hgk bV.size
  have hord : w.heap.size < g ∧ g < w2.heap.size ∧ w2.heap.size < V.heap.size := ⟨by omega, lt_some hC, lt_some nV⟩
  have bd : Below V.heap.size V V.drew := ⟨rfl, rfl, rfl, Nat.le_refl _, fun _ _ => rfl⟩
  obtain ⟨-, -, -, q4, -, q6, -⟩ := readL_ok hr
  have hwl := words_len s []
  simp only [if_true] at hwl
  have hal : o.args.length ≤ 1000 := by omega
  have hax : ∀ x ∈ o.args, x.length ≤ 1000 := fun x hx => by
    have := words_lens s [] x (q4 x hx)
    simp at this
    omega
  have hok := doneO_ok (H := hashT) (fun _ r => by rw [hashT_len]; omega) hdo
  have HOK := Lib.hid hok
  have HRO := Lib.hid (readL_ok hr).2.1
  have hb65 : ¬ (65536 : Int) < (b.length : Int) := by have := hok.1; omega
  clear hok
  have k0 : V.cell? ⟨gk, offk, none⟩ = some (.string (mk o.verb)) := HGK.out 0 o.verb rfl
  have HM := Lib.hid hm
  have HNE := Lib.hid hne
  have HDO := Lib.hid hdo
  have HAB := Lib.hid (And.intro hal hax)
  have hk1 : (1 : Int) ≤ (o.args.length : Int) + 1 := by omega
  have hkk : (0 : Int) < (o.args.length : Int) + 1 := by omega
  clear cs hks hown hb2 hLL hLm hC hCe hkcell hV bV nV hw1 HN1 HB1 HB2 hglo hne hdo hr hal hax q4 q6 hwl hm
  have hkc1 : ¬ kc = 1 := by omega
  · have hav : Strs V.drew (.slice (some ⟨gk, offk + 1, none⟩) o.args.length (kc - 1)) o.args := ⟨_, _, rfl, by omega, .inr ⟨gk, offk + 1, rfl, hgkV, fun j x hx => by
      have h1 := HGK.out (j + 1) x (by rw [List.getElem?_cons_succ]; exact hx)
      rw [show offk + 1 + j = offk + (j + 1) by omega]
      exact h1⟩⟩
    have cm := made_all hav HAB.out.1 HAB.out.2 ((HD.out.below HBV.out).below bd) hdl ((HF.out.below HBV.out).below bd) hln hFb HDO.out
    have cm2 := cm.mono (R' := fun e w' => (∃ (u : Option Addr) (k : Nat) (fa : Option Addr) (fc : Nat), e = .returned (.tuple #[.slice u b.length k, .slice fa f.length fc, .bool true]) ∧ Hid (OV w' (.slice u b.length k) b ∧ OS w' fa fc f) ∧ Below V.heap.size V w') ∧ w'.cell? ⟨gk, offk, none⟩ = some (.string (mk o.verb))) fun e w' ⟨u, k, fa, fc, h1, h2, h3, h4⟩ => by
      have h5 := bd.trans h4
      exact ⟨⟨u, k, fa, fc, h1, Lib.hid ⟨h2, h3⟩, h5⟩, (cell_of_block (h5.block gk hgkV)).trans k0⟩
    clear hav cm bd
    go_wp2_with fail
    go_region_held3 (fun w' => w'.cell? ⟨gk, offk, none⟩ = some (.string (mk o.verb)))
      (first | exact k0 | exact k1)
      (first
        | (go_at_call 27; (with_reducible refine cm2.mono ?_); rintro e w6 ⟨⟨u, k, fa2, fc2, rfl, hbs, hb6⟩, k1⟩))
    clear cm2 k0 k1
    have HB6 := Lib.hid hb6
    have hVD : g < V.heap.size ∧ w.heap.size < V.heap.size := by omega
    have HD6 := Lib.hid ((hb6.block _ hord.2.2).trans HDV.out)
    have HR6 := Lib.hid ((hb6.block _ hVD.2).trans HRV.out)
    have HG6 := Lib.hid ((hb6.block _ hVD.1).trans HGV.out)
    have hs6 : V.heap.size ≤ w6.heap.size := hb6.size
    have HC0 : Hid (CI o.outs (.slice u b.length k) C 0) := Lib.hid fun q x hx => by
      obtain ⟨h1, h2⟩ := HCE.out q x hx
      exact ⟨h1, (Array.getElem?_eq_some_iff.1 h2).1, fun h => absurd h (by omega)⟩
    clear hb6
    go_wp2_with fail
    go_loopw [13] (fun i wr => ∃ (j : Nat) (C : Array Value), j ≤ m ∧ i = .int .i64 j ∧ Hid (wr.heap[g]? = some (.cells C 45 (0, 0)) ∧ CI o.outs (.slice u b.length k) C j) ∧ Hid (Md g w6 wr)) (fun i _ => m - (intOf i).toNat)
    case atStart => exact ⟨0, C, Nat.zero_le _, rfl, Lib.hid ⟨HG6.out, HC0.out⟩, Lib.hid ⟨rfl, rfl, rfl, Nat.le_refl _, fun _ _ _ => rfl⟩⟩
    case round =>
      obtain ⟨j, C1, hj, rfl, hCC, hMd⟩ := hrel
      have hDr := (hMd.out.2.2.2.2 w2.heap.size (by omega) (by omega)).trans HD6.out
      have d0 : wr.cell? ⟨w2.heap.size, 0, none⟩ = some (.slice (some ⟨g, 0, none⟩) m oc) := cell_of_heap hDr
      by_cases hlt : j < m
      · obtain ⟨x, hx⟩ : ∃ x, o.outs[j]? = some x := ⟨_, List.getElem?_eq_getElem (by rw [HM.out]; exact hlt)⟩
        obtain ⟨c1, c2, -⟩ := hCC.out.2 j x hx
        have hcg := hCC.out.1
        obtain ⟨v0, hv0⟩ : ∃ v0, C1[j * 2 + 1]? = some v0 := ⟨_, Array.getElem?_eq_getElem c2⟩
        have e0 : wr.cell? ⟨g, j * 2 + 1, none⟩ = some v0 := by
          have h3 : wr.cell? ⟨g, j * 2 + 1, none⟩ = C1[j * 2 + 1]? := by simp [World.cell?, hcg]
          rw [h3, hv0]
        have e1 : wr.frozen? ⟨g, j * 2 + 1, none⟩ = false := by simp [World.frozen?, hcg]
        have HCN : Hid ((wr.setCell ⟨g, j * 2 + 1, none⟩ (.slice u b.length k)).heap[g]? = some (.cells (C1.setIfInBounds (j * 2 + 1) (.slice u b.length k)) 45 (0, 0)) ∧ CI o.outs (.slice u b.length k) (C1.setIfInBounds (j * 2 + 1) (.slice u b.length k)) (j + 1)) := Lib.hid ⟨set_block hcg, hCC.out.2.step⟩
        have HMN : Hid (Md g w6 (wr.setCell ⟨g, j * 2 + 1, none⟩ (.slice u b.length k))) := Lib.hid ⟨hMd.out.1, hMd.out.2.1, hMd.out.2.2.1, by rw [World.size_setCell]; exact hMd.out.2.2.2.1, fun q hq hne => (set_other hne).trans (hMd.out.2.2.2.2 q hq hne)⟩
        have hi0 : (0 : Int) ≤ (j : Int) := by omega
        have hi1 : (j : Int) < (m : Int) := by omega
        clear hx hcg hDr c1 c2 hv0
        go_wp2_with fail
        go_roundw
        case rel => exact ⟨j + 1, _, by omega, by go_num, HCN, HMN⟩
        case measure => simp [intOf] <;> omega
      · obtain rfl : m = j := by omega
        have hcg := hCC.out.1
        have hRr := (hMd.out.2.2.2.2 w.heap.size (by omega) (by omega)).trans HR6.out
        have HDr := Lib.hid hDr
        have HRr := Lib.hid hRr
        have d1 : wr.cell? ⟨w2.heap.size, 1, none⟩ = some (.bool o.once) := cell_of_heap hDr
        have r0 : wr.cell? ⟨w.heap.size, 0, none⟩ = some (.slice none 0 0) := cell_of_heap hRr
        have r1 : wr.cell? ⟨w.heap.size, 1, none⟩ = some (.bool false) := cell_of_heap hRr
        have r2 : wr.cell? ⟨w.heap.size, 2, none⟩ = some (.string ⟨#[]⟩) := cell_of_heap hRr
        have r3 : wr.cell? ⟨w.heap.size, 3, none⟩ = some (.string ⟨#[]⟩) := cell_of_heap hRr
        have y0 : wr.frozen? ⟨w.heap.size, 0, none⟩ = false := by simp [World.frozen?, hRr, zRD]
        have y1 : wr.frozen? ⟨w.heap.size, 1, none⟩ = false := by simp [World.frozen?, hRr, zRD]
        have y2 : wr.frozen? ⟨w.heap.size, 2, none⟩ = false := by simp [World.frozen?, hRr, zRD]
        have y3 : wr.frozen? ⟨w.heap.size, 3, none⟩ = false := by simp [World.frozen?, hRr, zRD]
        have hgw : g < wr.heap.size := lt_some hcg
        have fin : ∀ (WE : World), (WE.os = wr.os ∧ WE.tape = wr.tape ∧ WE.output = wr.output) → WE.heap.size = wr.heap.size → (∀ q, q ≠ w.heap.size → q ≠ w2.heap.size → WE.heap[q]? = wr.heap[q]?) → Below w.heap.size w WE ∧ Byt WE (.slice u b.length k) b ∧ g < WE.heap.size ∧ ∀ (j : Nat) x, o.outs[j]? = some x → WE.cell? ⟨g, j * 2, none⟩ = some (.string (mk x)) ∧ WE.cell? ⟨g, j * 2 + 1, none⟩ = some (.slice u b.length k) := by
          intro WE ho hz hk
          have hm := hMd.out
          have h6 := HB6.out
          have hv := HBV.out
          have hR9 : w.heap.size < V.heap.size := hVD.2
          refine ⟨⟨ho.1.trans (hm.1.trans (h6.os.trans hv.os)), ho.2.1.trans (hm.2.1.trans (h6.tape.trans hv.tape)), ho.2.2.trans (hm.2.2.1.trans (h6.output.trans hv.output)), by rw [hz]; exact Nat.le_trans hv.size (Nat.le_trans hs6 hm.2.2.2.1), fun q hq => (hk q (by omega) (by omega)).trans ((hm.2.2.2.2 q (by omega) (by omega)).trans ((h6.block q (by omega)).trans (hv.block q hq)))⟩, ?_, by rw [hz]; exact hgw, fun j x hx => ?_⟩
          · refine (OV.kept hbs.out.1 fun q cur fz hq => ?_).1
            have hne : ∀ {p : Nat} {C : Array Value} {t : TypeId}, w6.heap[p]? = some (.cells C t (0, 0)) → t ≠ 5 → q ≠ p := fun hp ht e => by
              rw [e, hp] at hq
              injection hq with h1
              injection h1 with _ h2
              exact ht h2
            exact (hk q (hne HR6.out (by decide)) (hne HD6.out (by decide))).trans (hm.2.2.2.2 q (lt_some hq) (hne HG6.out (by decide)))
          · have hcE : WE.heap[g]? = some (.cells C1 45 (0, 0)) := (hk g (by omega) (by omega)).trans hcg
            obtain ⟨c1, -, c3⟩ := hCC.out.2 j x hx
            have h3 : ∀ q, WE.cell? ⟨g, q, none⟩ = C1[q]? := fun q => by simp [World.cell?, hcE]
            rw [h3, h3]
            exact ⟨c1, c3 (by rw [← HM.out]; exact (List.getElem?_eq_some_iff.1 hx).1)⟩
        by_cases hdep : o.dep = []
        · have d2 : wr.cell? ⟨w2.heap.size, 2, none⟩ = some (.string ⟨#[]⟩) := by
            have h1 : wr.cell? ⟨w2.heap.size, 2, none⟩ = some (.string (mk o.dep)) := cell_of_heap hDr
            rw [hdep] at h1
            exact h1
          have d3 : wr.cell? ⟨w2.heap.size, 3, none⟩ = some (.string ⟨#[]⟩) := cell_of_heap hDr
          have HDEP := Lib.hid hdep
          have FIN := Lib.hid fin
          clear hdep fin hcg hRr hDr
          go_wp2_with fail
          obtain ⟨WE, hWE⟩ : ∃ WE, ((((wr.setCell ⟨w.heap.size, 0, none⟩ (.slice (some ⟨g, 0, none⟩) m oc)).setCell ⟨w.heap.size, 1, none⟩ (.bool o.once)).setCell ⟨w.heap.size, 2, none⟩ (.string ⟨#[]⟩)).setCell ⟨w.heap.size, 3, none⟩ (.string ⟨#[]⟩)) = WE := ⟨_, rfl⟩
          have hP0 := set_block (j := 3) (u := .string ⟨#[]⟩) (set_block (j := 2) (u := .string ⟨#[]⟩) (set_block (j := 1) (u := .bool o.once) (set_block (j := 0) (u := .slice (some ⟨g, 0, none⟩) m oc) HRr.out)))
          have hP : WE.heap[w.heap.size]? = some (.cells #[.slice (some ⟨g, 0, none⟩) m oc, .bool o.once, .string ⟨#[]⟩, .string ⟨#[]⟩] 47 (0, 0)) := by rw [← hWE]; exact hP0
          have hoth : ∀ q, q ≠ w.heap.size → WE.heap[q]? = wr.heap[q]? := fun q hq => by
            rw [← hWE]
            exact (set_other hq).trans ((set_other hq).trans ((set_other hq).trans (set_other hq)))
          have hsz : WE.heap.size = wr.heap.size := by rw [← hWE, World.size_setCell, World.size_setCell, World.size_setCell, World.size_setCell]
          have hos : WE.os = wr.os ∧ WE.tape = wr.tape ∧ WE.output = wr.output := by rw [← hWE]; exact ⟨rfl, rfl, rfl⟩
          rw [hWE]
          have s0 : WE.cell? ⟨w.heap.size, 0, none⟩ = some (.slice (some ⟨g, 0, none⟩) m oc) := cell_of_heap hP
          have s1 : WE.cell? ⟨w.heap.size, 1, none⟩ = some (.bool o.once) := cell_of_heap hP
          have s2 : WE.cell? ⟨w.heap.size, 2, none⟩ = some (.string ⟨#[]⟩) := cell_of_heap hP
          have s3 : WE.cell? ⟨w.heap.size, 3, none⟩ = some (.string ⟨#[]⟩) := cell_of_heap hP
          clear hP0 d0 d1 d2 d3 r0 r1 r2 r3 y0 y1 y2 y3 hWE
          refine bodyPost_ret (v := .tuple #[.agg #[.slice (some ⟨g, 0, none⟩) m oc, .bool o.once, .string ⟨#[]⟩, .string ⟨#[]⟩], .bool true]) (by simp [results, Tryz.f17, go_sem, s0, s1, s2, s3]) rfl ?_
          obtain ⟨f1, f2, f3, f4⟩ := FIN.out WE hos hsz (fun q hq _ => hoth q hq)
          refine ⟨⟨_, rfl, g, oc, u, k, ?_, by rw [HM.out]; exact hoc.1, f3, f2, f4⟩, f1⟩
          have hdt : depsT o f = [] := by unfold depsT; rw [if_pos HDEP.out]
          show Value.agg _ = Value.agg #[_, _, .string (mk o.dep), .string (mk (depsT o f))]
          rw [hdt, HDEP.out, HM.out]
          rfl
        · have d2 : wr.cell? ⟨w2.heap.size, 2, none⟩ = some (.string (mk o.dep)) := cell_of_heap hDr
          have hde : (mk o.dep).toList.isEmpty = false := by
            rw [mk_toList]
            cases hdq : o.dep with
            | nil => exact absurd hdq hdep
            | cons a r => rfl
          obtain ⟨x0, hx0⟩ : ∃ x, o.outs[0]? = some x := ⟨_, List.getElem?_eq_getElem (by rw [HM.out]; omega)⟩
          have n0 : wr.cell? ⟨g, 0, none⟩ = some (.string (mk x0)) := by
            have h3 : wr.cell? ⟨g, 0, none⟩ = C1[0]? := by simp [World.cell?, hcg]
            rw [h3]
            exact (hCC.out.2 0 x0 hx0).1
          have hxr := HRO.out x0 (List.mem_of_getElem? hx0)
          have hst : Strs wr (.slice fa2 f.length fc2) f := by
            obtain ⟨⟨a, c, e, hc, hrow⟩, hty⟩ := hbs.out.2
            cases e
            refine ⟨fa2, fc2, rfl, hc, ?_⟩
            rcases hrow with h | ⟨g3, off3, e, hg3, hcell⟩
            · exact .inl h
            · rcases hty with h | ⟨g4, cur, fz, e4, hq⟩
              · exact .inl h
              · rw [e] at e4
                cases e4
                have hne : g3 ≠ g := fun e5 => by
                  rw [e5, HG6.out] at hq
                  injection hq with h1
                  injection h1 with _ h2
                  exact absurd h2 (by decide)
                have hk := hMd.out.2.2.2.2 g3 hg3 hne
                exact .inr ⟨g3, 0, e, Nat.lt_of_lt_of_le hg3 hMd.out.2.2.2.1, fun q y hy => (cell_of_block hk).trans (hcell q y hy)⟩
          have cp := refPrint_c x0 hst HOK.out.2.1 (by have := right_len hxr; omega) (fun y hy => right_len (HOK.out.2.2 y hy))
          have HDS : Hid (depsT o f = txt x0 f ++ [10]) := Lib.hid (depsT_good hx0 HRO.out HOK.out.2.2 hdep)
          have d3 : wr.cell? ⟨w2.heap.size, 3, none⟩ = some (.string ⟨#[]⟩) := cell_of_heap hDr
          have d4 : wr.frozen? ⟨w2.heap.size, 3, none⟩ = false := by simp [World.frozen?, hDr]
          have FIN := Lib.hid fin
          obtain ⟨tx, htx⟩ : ∃ tx, txt x0 f ++ [10] = tx := ⟨_, rfl⟩
          rw [htx] at cp HDS
          have hi9 : (0 : Int) < (m : Int) := by omega
          clear hdep fin hcg hRr hDr hx0 hxr hst htx
          go_wp2_with fail
          refine cp.mono ?_
          rintro e w9 ⟨rfl, rfl⟩
          clear cp
          go_wp2_with fail
          have hP3 := set_block (j := 3) (u := .string (mk tx)) HDr.out
          obtain ⟨WD, hWD⟩ : ∃ WD, wr.setCell ⟨w2.heap.size, 3, none⟩ (.string (mk tx)) = WD := ⟨_, rfl⟩
          have hRD : WD.heap[w.heap.size]? = some (.cells zRD 47 (0, 0)) := by rw [← hWD]; exact (set_other (by omega)).trans HRr.out
          rw [hWD]
          obtain ⟨WE, hWE⟩ : ∃ WE, ((((WD.setCell ⟨w.heap.size, 0, none⟩ (.slice (some ⟨g, 0, none⟩) m oc)).setCell ⟨w.heap.size, 1, none⟩ (.bool o.once)).setCell ⟨w.heap.size, 2, none⟩ (.string (mk o.dep))).setCell ⟨w.heap.size, 3, none⟩ (.string (mk tx))) = WE := ⟨_, rfl⟩
          have hP0 := set_block (j := 3) (u := .string (mk tx)) (set_block (j := 2) (u := .string (mk o.dep)) (set_block (j := 1) (u := .bool o.once) (set_block (j := 0) (u := .slice (some ⟨g, 0, none⟩) m oc) hRD)))
          have hP : WE.heap[w.heap.size]? = some (.cells #[.slice (some ⟨g, 0, none⟩) m oc, .bool o.once, .string (mk o.dep), .string (mk tx)] 47 (0, 0)) := by rw [← hWE]; exact hP0
          have hoth : ∀ q, q ≠ w.heap.size → q ≠ w2.heap.size → WE.heap[q]? = wr.heap[q]? := fun q hq hq2 => by
            rw [← hWE, ← hWD]
            exact (set_other hq).trans ((set_other hq).trans ((set_other hq).trans ((set_other hq).trans (set_other hq2))))
          have hsz : WE.heap.size = wr.heap.size := by rw [← hWE, World.size_setCell, World.size_setCell, World.size_setCell, World.size_setCell, ← hWD, World.size_setCell]
          have hos : WE.os = wr.os ∧ WE.tape = wr.tape ∧ WE.output = wr.output := by rw [← hWE, ← hWD]; exact ⟨rfl, rfl, rfl⟩
          rw [hWE]
          have s0 : WE.cell? ⟨w.heap.size, 0, none⟩ = some (.slice (some ⟨g, 0, none⟩) m oc) := cell_of_heap hP
          have s1 : WE.cell? ⟨w.heap.size, 1, none⟩ = some (.bool o.once) := cell_of_heap hP
          have s2 : WE.cell? ⟨w.heap.size, 2, none⟩ = some (.string (mk o.dep)) := cell_of_heap hP
          have s3 : WE.cell? ⟨w.heap.size, 3, none⟩ = some (.string (mk tx)) := cell_of_heap hP
          clear hP0 hP3 hRD d0 d1 d2 d3 d4 r0 r1 r2 r3 y0 y1 y2 y3 hWE hWD
          refine bodyPost_ret (v := .tuple #[.agg #[.slice (some ⟨g, 0, none⟩) m oc, .bool o.once, .string (mk o.dep), .string (mk tx)], .bool true]) (by simp [results, Tryz.f17, go_sem, s0, s1, s2, s3]) rfl ?_
          obtain ⟨f1, f2, f3, f4⟩ := FIN.out WE hos hsz hoth
          refine ⟨⟨_, rfl, g, oc, u, k, ?_, by rw [HM.out]; exact hoc.1, f3, f2, f4⟩, f1⟩
          show Value.agg _ = Value.agg #[_, _, _, .string (mk (depsT o f))]
          rw [HDS.out, HM.out]
end Go.Proofs.YtgledabcfonbeaaGreatDoor.Df
