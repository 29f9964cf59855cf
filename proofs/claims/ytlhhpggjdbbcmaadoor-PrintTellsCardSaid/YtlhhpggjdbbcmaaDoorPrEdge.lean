/-
  AN EDGE, added to a sheet.
-/
import Derived.Test.YtlhhpggjdbbcmaaDoorPrAdd
namespace Go.Proofs.YtlhhpggjdbbcmaaDoor.Pr
open Go.RowKit Go.Proofs.YtlhhpggjdbbcmaaDoor Go.Proofs.YtlhhpggjdbbcmaaDoor.Df

/-- an edge in a block of its own -/
def Bx (w : World) (q : Nat) (e : Ed) (v0 v1 v2 v3 : Value) : Prop := w.heap[q]? = some (.cells #[v0, v1, v2, v3, .string (mk e.cmd), .string (mk e.dep)] 45 (0, 0))
section
variable {w w' w0 : World} {q b : Nat} {e : Ed} {v0 v1 v2 v3 : Value} {T : Bs}
theorem Bx.below (h : Bx w q e v0 v1 v2 v3) (hb : Below w.heap.size w w') : Bx w' q e v0 v1 v2 v3 := (hb.block _ (lt_some h)).trans h
theorem Bx.keep (h : Bx w q e v0 v1 v2 v3) (hne : q ≠ b) (ho : Others b w w') : Bx w' q e v0 v1 v2 v3 :=
  ho q _ h (fun e => hne (Option.some.inj e)) (fun c fz e => by cases e)
theorem Bx.ne (h : Bx w q e v0 v1 v2 v3) (hs : Sht w0 b T w) : q ≠ b := by
  obtain ⟨C, hC⟩ := hs.block
  rintro rfl
  unfold Bx at h
  rw [hC] at h
  cases h
theorem Bx.cells (h : Bx w q e v0 v1 v2 v3) : w.cell? ⟨q, 0, none⟩ = some v0 ∧ w.cell? ⟨q, 1, none⟩ = some v1 ∧ w.cell? ⟨q, 2, none⟩ = some v2 ∧ w.cell? ⟨q, 3, none⟩ = some v3 ∧ w.cell? ⟨q, 4, none⟩ = some (.string (mk e.cmd)) ∧ w.cell? ⟨q, 5, none⟩ = some (.string (mk e.dep)) := by
  unfold Bx at h
  simp [World.cell?, h]
theorem others_below {w1 : World} (h : Others b w w1) (hb : Below w1.heap.size w1 w') : Others b w w' :=
  fun k o hk hkb ho => (hb.block k (lt_some (h k o hk hkb ho))).trans (h k o hk hkb ho)
end

set_option maxRecDepth 100000 in
set_option maxHeartbeats 16000000 in
theorem addEdge_c {w0 w : World} {b : Nat} {T r : Bs} {e : Ed} {v0 v1 v2 v3 : Value} (h : Sht w0 b T w) (hr : r.length ≤ 1000) (hsm : Sm e) (hn0 : Strs w0 v0 e.outs) (hn1 : Strs w0 v1 e.ins) (hn2 : Strs w0 v2 e.imp) (hn3 : Strs w0 v3 e.ord) :
    Calls Tryd.prog 11 #[.pointer (some ⟨b, 0, none⟩), .string (mk r), .agg #[v0, v1, v2, v3, .string (mk e.cmd), .string (mk e.dep)]] w fun x w' => (∃ z, x = .returned z) ∧ Sht w0 b (T ++ edgeT r e) w' ∧ Others b w w' := by
  have hA := below_alloc w (.cells #[v0, v1, v2, v3, .string (mk e.cmd), .string (mk e.dep)] 45)
  have HQ := Lib.hid (show Bx (w.alloc (.cells #[v0, v1, v2, v3, .string (mk e.cmd), .string (mk e.dep)] 45)) w.heap.size e v0 v1 v2 v3 from heap_alloc_new w _)
  have HS := Lib.hid (h.keep hA)
  have HO := Lib.hid ((Lib.OthersKept.refl 5 (some b) w).alloc (.cells #[v0, v1, v2, v3, .string (mk e.cmd), .string (mk e.dep)] 45))
  have hqb := HQ.out.ne HS.out
  have hc3 := hsm.c
  have hd2 := hsm.d
  have hel := esc_len e.cmd
  have hdl := esc_len e.dep
  clear h hA
  obtain ⟨a0, k0, rfl⟩ : ∃ a c, v0 = .slice a e.outs.length c := by obtain ⟨a, c, h, -⟩ := hn0; exact ⟨a, c, h⟩
  obtain ⟨a1, k1, rfl⟩ : ∃ a c, v1 = .slice a e.ins.length c := by obtain ⟨a, c, h, -⟩ := hn1; exact ⟨a, c, h⟩
  obtain ⟨a2, k2, rfl⟩ : ∃ a c, v2 = .slice a e.imp.length c := by obtain ⟨a, c, h, -⟩ := hn2; exact ⟨a, c, h⟩
  obtain ⟨a3, k3, rfl⟩ : ∃ a c, v3 = .slice a e.ord.length c := by obtain ⟨a, c, h, -⟩ := hn3; exact ⟨a, c, h⟩
  have hD1 : (mk e.dep).toList.isEmpty = e.dep.isEmpty := by rw [mk_toList]
  go_enter Tryd.func11, Tryd.ntmps11
  obtain ⟨c0, c1, c2, c3, c4, c5⟩ := HQ.out.cells
  have hesc := escape_c e.cmd (by omega) (w.alloc (.cells #[.slice a0 e.outs.length k0, .slice a1 e.ins.length k1, .slice a2 e.imp.length k2, .slice a3 e.ord.length k3, .string (mk e.cmd), .string (mk e.dep)] 45))
  go_wp2_with fail
  refine hesc.mono ?_
  rintro x w1 ⟨rfl, hb⟩
  clear hesc
  clear c0 c1 c2 c3 c4 c5
  have HQ := Lib.hid (HQ.out.below hb)
  have HO := Lib.hid (others_below HO.out hb)
  have HS := Lib.hid (HS.out.keep hb)
  clear hb
  obtain ⟨c0, c1, c2, c3, c4, c5⟩ := HQ.out.cells
  have hadd := add5_c [114, 117, 108, 101, 32] r [10, 32, 32, 99, 111, 109, 109, 97, 110, 100, 32, 61, 32] (esc e.cmd) [10] HS.out (by decide) (by omega) (by decide) (by omega) (by decide)
  go_wp2_with fail
  refine hadd.mono ?_
  rintro x w2 ⟨⟨z, rfl⟩, h, ho⟩
  clear hadd
  clear c0 c1 c2 c3 c4 c5
  have HQ := Lib.hid (HQ.out.keep hqb ho)
  have HO := Lib.hid (HO.out.trans ho)
  have HS := Lib.hid h
  clear h ho
  by_cases hd : e.dep = []
  · have HD := Lib.hid (show (e.dep = []) = True from eq_true hd)
    have hD2 : (mk e.dep).toList.isEmpty = true := by rw [hD1, hd]; rfl
    clear hd hD1
    obtain ⟨c0, c1, c2, c3, c4, c5⟩ := HQ.out.cells
    have hadd := add1_c [98, 117, 105, 108, 100] HS.out (by decide)
    go_wp2_with fail
    refine hadd.mono ?_
    rintro x w3 ⟨⟨z, rfl⟩, h, ho⟩
    clear hadd
    clear c0 c1 c2 c3 c4 c5
    have HQ := Lib.hid (HQ.out.keep hqb ho)
    have HO := Lib.hid (HO.out.trans ho)
    have HS := Lib.hid h
    clear h ho
    obtain ⟨c0, c1, c2, c3, c4, c5⟩ := HQ.out.cells
    have hadd := addNames_c HS.out hn0 (by have := hsm.o; omega) hsm.xo
    go_wp2_with fail
    refine hadd.mono ?_
    rintro x w4 ⟨⟨z, rfl⟩, h, ho⟩
    clear hadd
    clear c0 c1 c2 c3 c4 c5
    have HQ := Lib.hid (HQ.out.keep hqb ho)
    have HO := Lib.hid (HO.out.trans ho)
    have HS := Lib.hid h
    clear h ho
    obtain ⟨c0, c1, c2, c3, c4, c5⟩ := HQ.out.cells
    have hadd := add2_c [58, 32] r HS.out (by decide) (by omega)
    go_wp2_with fail
    refine hadd.mono ?_
    rintro x w5 ⟨⟨z, rfl⟩, h, ho⟩
    clear hadd
    clear c0 c1 c2 c3 c4 c5
    have HQ := Lib.hid (HQ.out.keep hqb ho)
    have HO := Lib.hid (HO.out.trans ho)
    have HS := Lib.hid h
    clear h ho
    obtain ⟨c0, c1, c2, c3, c4, c5⟩ := HQ.out.cells
    have hadd := addNames_c HS.out hn1 (by have := hsm.i; omega) hsm.xi
    go_wp2_with fail
    refine hadd.mono ?_
    rintro x w6 ⟨⟨z, rfl⟩, h, ho⟩
    clear hadd
    clear c0 c1 c2 c3 c4 c5
    have HQ := Lib.hid (HQ.out.keep hqb ho)
    have HO := Lib.hid (HO.out.trans ho)
    have HS := Lib.hid h
    clear h ho
    by_cases hi : e.imp = []
    · have HI := Lib.hid (show (e.imp = []) = True from eq_true hi)
      have hl2 : ¬ (0 : Int) < (e.imp.length : Int) := by rw [hi]; decide
      clear hi
      by_cases hr : e.ord = []
      · have HR := Lib.hid (show (e.ord = []) = True from eq_true hr)
        have hl3 : (e.ord.length : Int) = 0 := by rw [hr]; rfl
        have hl4 : ¬ (0 : Int) < (e.ord.length : Int) := by omega
        clear hr
        obtain ⟨c0, c1, c2, c3, c4, c5⟩ := HQ.out.cells
        have hadd := add1_c [10] HS.out (by decide)
        go_wp2_with fail
        refine hadd.mono ?_
        rintro x w7 ⟨⟨z, rfl⟩, h, ho⟩
        clear hadd
        clear c0 c1 c2 c3 c4 c5
        have HQ := Lib.hid (HQ.out.keep hqb ho)
        have HO := Lib.hid (HO.out.trans ho)
        have HS := Lib.hid h
        clear h ho
        go_wp2_with fail
        go_end0
        refine ⟨⟨_, rfl⟩, ?_, HO.out⟩
        have e0 := HS.out
        simp only [edgeT, headT, depT, barT, HD.out, HI.out, HR.out, if_true, if_false, List.append_assoc, List.append_nil, List.nil_append] at e0 ⊢
        exact e0
      · have HR := Lib.hid (show (e.ord = []) = False from eq_false hr)
        have hl4 : (0 : Int) < (e.ord.length : Int) := by have := List.length_pos_iff.2 hr; omega
        clear hr
        obtain ⟨c0, c1, c2, c3, c4, c5⟩ := HQ.out.cells
        have hadd := add1_c [32, 124, 124] HS.out (by decide)
        go_wp2_with fail
        refine hadd.mono ?_
        rintro x w8 ⟨⟨z, rfl⟩, h, ho⟩
        clear hadd
        clear c0 c1 c2 c3 c4 c5
        have HQ := Lib.hid (HQ.out.keep hqb ho)
        have HO := Lib.hid (HO.out.trans ho)
        have HS := Lib.hid h
        clear h ho
        obtain ⟨c0, c1, c2, c3, c4, c5⟩ := HQ.out.cells
        have hadd := addNames_c HS.out hn3 (by have := hsm.r; omega) hsm.xr
        go_wp2_with fail
        refine hadd.mono ?_
        rintro x w9 ⟨⟨z, rfl⟩, h, ho⟩
        clear hadd
        clear c0 c1 c2 c3 c4 c5
        have HQ := Lib.hid (HQ.out.keep hqb ho)
        have HO := Lib.hid (HO.out.trans ho)
        have HS := Lib.hid h
        clear h ho
        obtain ⟨c0, c1, c2, c3, c4, c5⟩ := HQ.out.cells
        have hadd := add1_c [10] HS.out (by decide)
        go_wp2_with fail
        refine hadd.mono ?_
        rintro x w10 ⟨⟨z, rfl⟩, h, ho⟩
        clear hadd
        clear c0 c1 c2 c3 c4 c5
        have HQ := Lib.hid (HQ.out.keep hqb ho)
        have HO := Lib.hid (HO.out.trans ho)
        have HS := Lib.hid h
        clear h ho
        go_wp2_with fail
        go_end0
        refine ⟨⟨_, rfl⟩, ?_, HO.out⟩
        have e0 := HS.out
        simp only [edgeT, headT, depT, barT, HD.out, HI.out, HR.out, if_true, if_false, List.append_assoc, List.append_nil, List.nil_append] at e0 ⊢
        exact e0
    · have HI := Lib.hid (show (e.imp = []) = False from eq_false hi)
      have hl2 : (0 : Int) < (e.imp.length : Int) := by have := List.length_pos_iff.2 hi; omega
      clear hi
      obtain ⟨c0, c1, c2, c3, c4, c5⟩ := HQ.out.cells
      have hadd := add1_c [32, 124] HS.out (by decide)
      go_wp2_with fail
      refine hadd.mono ?_
      rintro x w11 ⟨⟨z, rfl⟩, h, ho⟩
      clear hadd
      clear c0 c1 c2 c3 c4 c5
      have HQ := Lib.hid (HQ.out.keep hqb ho)
      have HO := Lib.hid (HO.out.trans ho)
      have HS := Lib.hid h
      clear h ho
      obtain ⟨c0, c1, c2, c3, c4, c5⟩ := HQ.out.cells
      have hadd := addNames_c HS.out hn2 (by have := hsm.m; omega) hsm.xm
      go_wp2_with fail
      refine hadd.mono ?_
      rintro x w12 ⟨⟨z, rfl⟩, h, ho⟩
      clear hadd
      clear c0 c1 c2 c3 c4 c5
      have HQ := Lib.hid (HQ.out.keep hqb ho)
      have HO := Lib.hid (HO.out.trans ho)
      have HS := Lib.hid h
      clear h ho
      by_cases hr : e.ord = []
      · have HR := Lib.hid (show (e.ord = []) = True from eq_true hr)
        have hl3 : (e.ord.length : Int) = 0 := by rw [hr]; rfl
        have hl4 : ¬ (0 : Int) < (e.ord.length : Int) := by omega
        clear hr
        obtain ⟨c0, c1, c2, c3, c4, c5⟩ := HQ.out.cells
        have hadd := add1_c [10] HS.out (by decide)
        go_wp2_with fail
        refine hadd.mono ?_
        rintro x w13 ⟨⟨z, rfl⟩, h, ho⟩
        clear hadd
        clear c0 c1 c2 c3 c4 c5
        have HQ := Lib.hid (HQ.out.keep hqb ho)
        have HO := Lib.hid (HO.out.trans ho)
        have HS := Lib.hid h
        clear h ho
        go_wp2_with fail
        go_end0
        refine ⟨⟨_, rfl⟩, ?_, HO.out⟩
        have e0 := HS.out
        simp only [edgeT, headT, depT, barT, HD.out, HI.out, HR.out, if_true, if_false, List.append_assoc, List.append_nil, List.nil_append] at e0 ⊢
        exact e0
      · have HR := Lib.hid (show (e.ord = []) = False from eq_false hr)
        have hl4 : (0 : Int) < (e.ord.length : Int) := by have := List.length_pos_iff.2 hr; omega
        clear hr
        obtain ⟨c0, c1, c2, c3, c4, c5⟩ := HQ.out.cells
        have hadd := add1_c [32, 124, 124] HS.out (by decide)
        go_wp2_with fail
        refine hadd.mono ?_
        rintro x w14 ⟨⟨z, rfl⟩, h, ho⟩
        clear hadd
        clear c0 c1 c2 c3 c4 c5
        have HQ := Lib.hid (HQ.out.keep hqb ho)
        have HO := Lib.hid (HO.out.trans ho)
        have HS := Lib.hid h
        clear h ho
        obtain ⟨c0, c1, c2, c3, c4, c5⟩ := HQ.out.cells
        have hadd := addNames_c HS.out hn3 (by have := hsm.r; omega) hsm.xr
        go_wp2_with fail
        refine hadd.mono ?_
        rintro x w15 ⟨⟨z, rfl⟩, h, ho⟩
        clear hadd
        clear c0 c1 c2 c3 c4 c5
        have HQ := Lib.hid (HQ.out.keep hqb ho)
        have HO := Lib.hid (HO.out.trans ho)
        have HS := Lib.hid h
        clear h ho
        obtain ⟨c0, c1, c2, c3, c4, c5⟩ := HQ.out.cells
        have hadd := add1_c [10] HS.out (by decide)
        go_wp2_with fail
        refine hadd.mono ?_
        rintro x w16 ⟨⟨z, rfl⟩, h, ho⟩
        clear hadd
        clear c0 c1 c2 c3 c4 c5
        have HQ := Lib.hid (HQ.out.keep hqb ho)
        have HO := Lib.hid (HO.out.trans ho)
        have HS := Lib.hid h
        clear h ho
        go_wp2_with fail
        go_end0
        refine ⟨⟨_, rfl⟩, ?_, HO.out⟩
        have e0 := HS.out
        simp only [edgeT, headT, depT, barT, HD.out, HI.out, HR.out, if_true, if_false, List.append_assoc, List.append_nil, List.nil_append] at e0 ⊢
        exact e0
  · have HD := Lib.hid (show (e.dep = []) = False from eq_false hd)
    have hD2 : (mk e.dep).toList.isEmpty = false := by rw [hD1]; cases hh : e.dep with
      | nil => exact absurd hh hd
      | cons a t => rfl
    clear hd hD1
    obtain ⟨c0, c1, c2, c3, c4, c5⟩ := HQ.out.cells
    have hesc := escape_c e.dep (by omega) w2
    go_wp2_with fail
    refine hesc.mono ?_
    rintro x w17 ⟨rfl, hb⟩
    clear hesc
    clear c0 c1 c2 c3 c4 c5
    have HQ := Lib.hid (HQ.out.below hb)
    have HO := Lib.hid (others_below HO.out hb)
    have HS := Lib.hid (HS.out.keep hb)
    clear hb
    obtain ⟨c0, c1, c2, c3, c4, c5⟩ := HQ.out.cells
    have hadd := add3_c [32, 32, 100, 101, 112, 102, 105, 108, 101, 32, 61, 32] (esc e.dep) [10] HS.out (by decide) (by omega) (by decide)
    go_wp2_with fail
    refine hadd.mono ?_
    rintro x w18 ⟨⟨z, rfl⟩, h, ho⟩
    clear hadd
    clear c0 c1 c2 c3 c4 c5
    have HQ := Lib.hid (HQ.out.keep hqb ho)
    have HO := Lib.hid (HO.out.trans ho)
    have HS := Lib.hid h
    clear h ho
    obtain ⟨c0, c1, c2, c3, c4, c5⟩ := HQ.out.cells
    have hadd := add1_c [98, 117, 105, 108, 100] HS.out (by decide)
    go_wp2_with fail
    refine hadd.mono ?_
    rintro x w19 ⟨⟨z, rfl⟩, h, ho⟩
    clear hadd
    clear c0 c1 c2 c3 c4 c5
    have HQ := Lib.hid (HQ.out.keep hqb ho)
    have HO := Lib.hid (HO.out.trans ho)
    have HS := Lib.hid h
    clear h ho
    obtain ⟨c0, c1, c2, c3, c4, c5⟩ := HQ.out.cells
    have hadd := addNames_c HS.out hn0 (by have := hsm.o; omega) hsm.xo
    go_wp2_with fail
    refine hadd.mono ?_
    rintro x w20 ⟨⟨z, rfl⟩, h, ho⟩
    clear hadd
    clear c0 c1 c2 c3 c4 c5
    have HQ := Lib.hid (HQ.out.keep hqb ho)
    have HO := Lib.hid (HO.out.trans ho)
    have HS := Lib.hid h
    clear h ho
    obtain ⟨c0, c1, c2, c3, c4, c5⟩ := HQ.out.cells
    have hadd := add2_c [58, 32] r HS.out (by decide) (by omega)
    go_wp2_with fail
    refine hadd.mono ?_
    rintro x w21 ⟨⟨z, rfl⟩, h, ho⟩
    clear hadd
    clear c0 c1 c2 c3 c4 c5
    have HQ := Lib.hid (HQ.out.keep hqb ho)
    have HO := Lib.hid (HO.out.trans ho)
    have HS := Lib.hid h
    clear h ho
    obtain ⟨c0, c1, c2, c3, c4, c5⟩ := HQ.out.cells
    have hadd := addNames_c HS.out hn1 (by have := hsm.i; omega) hsm.xi
    go_wp2_with fail
    refine hadd.mono ?_
    rintro x w22 ⟨⟨z, rfl⟩, h, ho⟩
    clear hadd
    clear c0 c1 c2 c3 c4 c5
    have HQ := Lib.hid (HQ.out.keep hqb ho)
    have HO := Lib.hid (HO.out.trans ho)
    have HS := Lib.hid h
    clear h ho
    by_cases hi : e.imp = []
    · have HI := Lib.hid (show (e.imp = []) = True from eq_true hi)
      have hl2 : ¬ (0 : Int) < (e.imp.length : Int) := by rw [hi]; decide
      clear hi
      by_cases hr : e.ord = []
      · have HR := Lib.hid (show (e.ord = []) = True from eq_true hr)
        have hl3 : (e.ord.length : Int) = 0 := by rw [hr]; rfl
        have hl4 : ¬ (0 : Int) < (e.ord.length : Int) := by omega
        clear hr
        obtain ⟨c0, c1, c2, c3, c4, c5⟩ := HQ.out.cells
        have hadd := add1_c [10] HS.out (by decide)
        go_wp2_with fail
        refine hadd.mono ?_
        rintro x w23 ⟨⟨z, rfl⟩, h, ho⟩
        clear hadd
        clear c0 c1 c2 c3 c4 c5
        have HQ := Lib.hid (HQ.out.keep hqb ho)
        have HO := Lib.hid (HO.out.trans ho)
        have HS := Lib.hid h
        clear h ho
        go_wp2_with fail
        go_end0
        refine ⟨⟨_, rfl⟩, ?_, HO.out⟩
        have e0 := HS.out
        simp only [edgeT, headT, depT, barT, HD.out, HI.out, HR.out, if_true, if_false, List.append_assoc, List.append_nil, List.nil_append] at e0 ⊢
        exact e0
      · have HR := Lib.hid (show (e.ord = []) = False from eq_false hr)
        have hl4 : (0 : Int) < (e.ord.length : Int) := by have := List.length_pos_iff.2 hr; omega
        clear hr
        obtain ⟨c0, c1, c2, c3, c4, c5⟩ := HQ.out.cells
        have hadd := add1_c [32, 124, 124] HS.out (by decide)
        go_wp2_with fail
        refine hadd.mono ?_
        rintro x w24 ⟨⟨z, rfl⟩, h, ho⟩
        clear hadd
        clear c0 c1 c2 c3 c4 c5
        have HQ := Lib.hid (HQ.out.keep hqb ho)
        have HO := Lib.hid (HO.out.trans ho)
        have HS := Lib.hid h
        clear h ho
        obtain ⟨c0, c1, c2, c3, c4, c5⟩ := HQ.out.cells
        have hadd := addNames_c HS.out hn3 (by have := hsm.r; omega) hsm.xr
        go_wp2_with fail
        refine hadd.mono ?_
        rintro x w25 ⟨⟨z, rfl⟩, h, ho⟩
        clear hadd
        clear c0 c1 c2 c3 c4 c5
        have HQ := Lib.hid (HQ.out.keep hqb ho)
        have HO := Lib.hid (HO.out.trans ho)
        have HS := Lib.hid h
        clear h ho
        obtain ⟨c0, c1, c2, c3, c4, c5⟩ := HQ.out.cells
        have hadd := add1_c [10] HS.out (by decide)
        go_wp2_with fail
        refine hadd.mono ?_
        rintro x w26 ⟨⟨z, rfl⟩, h, ho⟩
        clear hadd
        clear c0 c1 c2 c3 c4 c5
        have HQ := Lib.hid (HQ.out.keep hqb ho)
        have HO := Lib.hid (HO.out.trans ho)
        have HS := Lib.hid h
        clear h ho
        go_wp2_with fail
        go_end0
        refine ⟨⟨_, rfl⟩, ?_, HO.out⟩
        have e0 := HS.out
        simp only [edgeT, headT, depT, barT, HD.out, HI.out, HR.out, if_true, if_false, List.append_assoc, List.append_nil, List.nil_append] at e0 ⊢
        exact e0
    · have HI := Lib.hid (show (e.imp = []) = False from eq_false hi)
      have hl2 : (0 : Int) < (e.imp.length : Int) := by have := List.length_pos_iff.2 hi; omega
      clear hi
      obtain ⟨c0, c1, c2, c3, c4, c5⟩ := HQ.out.cells
      have hadd := add1_c [32, 124] HS.out (by decide)
      go_wp2_with fail
      refine hadd.mono ?_
      rintro x w27 ⟨⟨z, rfl⟩, h, ho⟩
      clear hadd
      clear c0 c1 c2 c3 c4 c5
      have HQ := Lib.hid (HQ.out.keep hqb ho)
      have HO := Lib.hid (HO.out.trans ho)
      have HS := Lib.hid h
      clear h ho
      obtain ⟨c0, c1, c2, c3, c4, c5⟩ := HQ.out.cells
      have hadd := addNames_c HS.out hn2 (by have := hsm.m; omega) hsm.xm
      go_wp2_with fail
      refine hadd.mono ?_
      rintro x w28 ⟨⟨z, rfl⟩, h, ho⟩
      clear hadd
      clear c0 c1 c2 c3 c4 c5
      have HQ := Lib.hid (HQ.out.keep hqb ho)
      have HO := Lib.hid (HO.out.trans ho)
      have HS := Lib.hid h
      clear h ho
      by_cases hr : e.ord = []
      · have HR := Lib.hid (show (e.ord = []) = True from eq_true hr)
        have hl3 : (e.ord.length : Int) = 0 := by rw [hr]; rfl
        have hl4 : ¬ (0 : Int) < (e.ord.length : Int) := by omega
        clear hr
        obtain ⟨c0, c1, c2, c3, c4, c5⟩ := HQ.out.cells
        have hadd := add1_c [10] HS.out (by decide)
        go_wp2_with fail
        refine hadd.mono ?_
        rintro x w29 ⟨⟨z, rfl⟩, h, ho⟩
        clear hadd
        clear c0 c1 c2 c3 c4 c5
        have HQ := Lib.hid (HQ.out.keep hqb ho)
        have HO := Lib.hid (HO.out.trans ho)
        have HS := Lib.hid h
        clear h ho
        go_wp2_with fail
        go_end0
        refine ⟨⟨_, rfl⟩, ?_, HO.out⟩
        have e0 := HS.out
        simp only [edgeT, headT, depT, barT, HD.out, HI.out, HR.out, if_true, if_false, List.append_assoc, List.append_nil, List.nil_append] at e0 ⊢
        exact e0
      · have HR := Lib.hid (show (e.ord = []) = False from eq_false hr)
        have hl4 : (0 : Int) < (e.ord.length : Int) := by have := List.length_pos_iff.2 hr; omega
        clear hr
        obtain ⟨c0, c1, c2, c3, c4, c5⟩ := HQ.out.cells
        have hadd := add1_c [32, 124, 124] HS.out (by decide)
        go_wp2_with fail
        refine hadd.mono ?_
        rintro x w30 ⟨⟨z, rfl⟩, h, ho⟩
        clear hadd
        clear c0 c1 c2 c3 c4 c5
        have HQ := Lib.hid (HQ.out.keep hqb ho)
        have HO := Lib.hid (HO.out.trans ho)
        have HS := Lib.hid h
        clear h ho
        obtain ⟨c0, c1, c2, c3, c4, c5⟩ := HQ.out.cells
        have hadd := addNames_c HS.out hn3 (by have := hsm.r; omega) hsm.xr
        go_wp2_with fail
        refine hadd.mono ?_
        rintro x w31 ⟨⟨z, rfl⟩, h, ho⟩
        clear hadd
        clear c0 c1 c2 c3 c4 c5
        have HQ := Lib.hid (HQ.out.keep hqb ho)
        have HO := Lib.hid (HO.out.trans ho)
        have HS := Lib.hid h
        clear h ho
        obtain ⟨c0, c1, c2, c3, c4, c5⟩ := HQ.out.cells
        have hadd := add1_c [10] HS.out (by decide)
        go_wp2_with fail
        refine hadd.mono ?_
        rintro x w32 ⟨⟨z, rfl⟩, h, ho⟩
        clear hadd
        clear c0 c1 c2 c3 c4 c5
        have HQ := Lib.hid (HQ.out.keep hqb ho)
        have HO := Lib.hid (HO.out.trans ho)
        have HS := Lib.hid h
        clear h ho
        go_wp2_with fail
        go_end0
        refine ⟨⟨_, rfl⟩, ?_, HO.out⟩
        have e0 := HS.out
        simp only [edgeT, headT, depT, barT, HD.out, HI.out, HR.out, if_true, if_false, List.append_assoc, List.append_nil, List.nil_append] at e0 ⊢
        exact e0
end Go.Proofs.YtlhhpggjdbbcmaaDoor.Pr
