/-
  putIn: lines, with what they include.
-/
import Derived.Test.YtgledabcfonbeaaGreatDoorCkJ8
import Derived.Test.YtgledabcfonbeaaGreatDoorCkJ7
namespace Go.Proofs.YtgledabcfonbeaaGreatDoor.Df
open Go.RowKit Go.Maps Go.Proofs.YtgledabcfonbeaaGreatDoor

/-- what putIn comes to -/
def PuQ (B k m0 m1 m2 : Nat) (o : Option Kst) (W : World) (e : Ending) (w' : World) : Prop :=
  Fa o (fun s e => ∃ a c, e = .returned (.slice a s.whole.length c) ∧ w'.ownsRow B 5 1 (.slice a s.whole.length c) s.whole.length (bytesV s.whole) ∧ Kw B k m0 m1 m2 s.n s.found w') e ∧ Fp B k m2 [5, 9, 84] W w'
def incC : Array Value := #[.int .u8 35, .int .u8 105, .int .u8 110, .int .u8 99, .int .u8 108, .int .u8 117, .int .u8 100, .int .u8 101, .int .u8 32]
theorem byt_block {w : World} {g n c : Nat} {C : Array Value} {fz : Nat × Nat} {r : Bs} (h : w.heap[g]? = some (.cells C 5 fz)) (hC : C.toList = bytesV r) (hn : n = r.length) (hc : n ≤ c) : Byt w (.slice (some ⟨g, 0, none⟩) n c) r := by
  subst hn
  refine ⟨_, c, rfl, hc, (fun e => by cases e), .inr ⟨g, 0, rfl, lt_some h, fun j x hx => ?_⟩⟩
  have h1 : C[0 + j]? = some (.int .u8 (x.toNat : Int)) := by
    rw [Nat.zero_add, ← Array.getElem?_toList, hC]
    unfold bytesV
    rw [List.getElem?_map, hx]
    rfl
  rw [← h1]
  simp [World.cell?, h]

section
variable {W0 : World} {k m0 m1 m2 n0 n1 : Nat} {decl : List Bs} {T : List Value} {F' : Bs → Option Value} {F : Bs → Option Bs}
theorem Kw.below {B k m0 m1 m2 n : Nat} {found : List Bs} {W W' : World} (h : Kw B k m0 m1 m2 n found W) (hb : Below W.heap.size W W') : Kw B k m0 m1 m2 n found W' := by
  obtain ⟨fa, fc, n2, h1, h2, h3, h4⟩ := h
  exact ⟨fa, fc, n2, (hb.block _ (lt_some h1)).trans h1, owns_below h2 hb, h3.kept (hb.block _ h3.lt), h4⟩
/-- a row of bytes grows beside it -/
theorem Kw.grown {B k m0 m1 m2 n : Nat} {found : List Bs} {W W' : World} {own : Option Nat} (h : Kw B k m0 m1 m2 n found W) (hg : W.grownBy W' own) (ho : ∀ g, own = some g → ∃ cur, W.heap[g]? = some (.cells cur 5 (0, 0))) : Kw B k m0 m1 m2 n found W' := by
  obtain ⟨fa, fc, n2, h1, h2, h3, h4⟩ := h
  refine ⟨fa, fc, n2, (hg.block _ (lt_some h1) (fun e => ?_)).trans h1, owns_kept h2 fun g hgb => ?_, h3.kept (hg.block _ h3.lt (fun e => ?_)), h4⟩
  · obtain ⟨cur, hc⟩ := ho k e.symm
    rw [h1] at hc
    injection hc with hc
    injection hc with _ hc
    exact absurd hc (by decide)
  · obtain ⟨_, cur, hc⟩ := owns_block h2 hgb
    refine hg.block g (lt_some hc) (fun e => ?_)
    obtain ⟨cur2, hc2⟩ := ho g e.symm
    rw [hc] at hc2
    injection hc2 with hc2
    injection hc2 with _ hc2
    exact absurd hc2 (by decide)
  · obtain ⟨cur, hc⟩ := ho m2 e.symm
    obtain ⟨es, c, hm⟩ := h3.map
    exact map_ne hc hm rfl

abbrev XP : List TypeId := [5, 9, 84]
/-- putIn at the depth d makes what f0 makes -/
def PuC (W0 : World) (k m0 m1 m2 : Nat) (d : Nat) (f0 : Bs → Kst → Option Kst) : Prop :=
  ∀ (W : World) (n : Nat) (found : List Bs) (R b : Bs) (v : Value) (oa : Option Addr) (oc : Nat), Fp W0.heap.size k m2 XP W0 W → Kw W0.heap.size k m0 m1 m2 n found W → Ok3 ⟨R, n, found⟩ → W.ownsRow W0.heap.size 5 1 (.slice oa R.length oc) R.length (bytesV R) → Byt W0 v b → b.length ≤ 1000000 → (∀ a n c, v = .slice a n c → c ≤ 9223372036854775807) →
    Calls Tryz.prog 69 #[.pointer (some ⟨k, 0, none⟩), .slice oa R.length oc, v, .int .i64 (d : Int)] W (PuQ W0.heap.size k m0 m1 m2 (f0 b ⟨R, n, found⟩) W)

set_option maxRecDepth 100000 in
set_option maxHeartbeats 16000000 in
theorem putIn_s (hb : Kb W0 k m0 m1 m2 decl n0 T F' n1 F) (f : Option (Bs → Kst → Option Kst)) (d : Nat) (hd : d ≤ 10)
    (hf : match f with
      | none => d = 10
      | some f0 => d < 10 ∧ PuC W0 k m0 m1 m2 (d + 1) f0)
    (hfo : ∀ f0, f = some f0 → ∀ b s t, f0 b s = some t → Ok3 s → Ok3 t) : PuC W0 k m0 m1 m2 d (fun b s => foldO (lineO F f) (linesA b) s) := by
  intro W n found R b v oa oc hp hk hok ho hby hbl hcap
  have kc := fun (w : World) (C : Array Value) (n c : Nat) => Lib.run_convert_bytes_const (P := Tryz.prog) w 24 5 C n c Tryz.underlying24 Tryz.underlying5
  obtain ⟨_, _, _, _, hk0⟩ := id hb.kt
  obtain ⟨_, _, hm0⟩ := id hb.mm
  obtain ⟨W1, hW1⟩ : ∃ w, W.alloc (.cells #[.int .u8 10] 5 (1, 2)) = w := ⟨_, rfl⟩
  have hb1 : Below W.heap.size W W1 := by rw [← hW1]; exact below_alloc _ _
  have hnl : W1.heap[W.heap.size]? = some (.cells #[.int .u8 10] 5 (1, 2)) := by rw [← hW1]; exact heap_alloc_new _ _
  have fp1 := hp.trans (Fp.of_below (B := W0.heap.size) (k := k) (m := m2) (X := XP) hb1 hp.size)
  have cl := lines_a (p := W.heap.size) (d := 1) (hby.fp fp1 (Nat.le_refl _) hk0 hm0) hbl hcap (by simp [World.cell?, hnl])
  have hLLn : (linesA b).length ≤ 1000001 := by have := linesA_len b; omega
  have HL0 : Hid (∀ l ∈ linesA b, l.length ≤ 1000000) := Lib.hid fun l hl => by have := linesA_mem hl; omega
  have HB := Lib.hid hb
  have HP := Lib.hid hp
  have HOK := Lib.hid hok
  have HO := Lib.hid ho
  have HK := Lib.hid hk
  have HBY := Lib.hid hby
  have HF := Lib.hid hf
  have HFO := Lib.hid hfo
  have HB1 := Lib.hid hb1
  have HK0 := Lib.hid hk0
  have HM0 := Lib.hid hm0
  unfold LiQ at cl
  show Calls _ _ _ _ (PuQ W0.heap.size k m0 m1 m2 (foldO (lineO F f) (linesA b) ⟨R, n, found⟩) W)
  generalize linesA b = LL at *
  obtain ⟨va, vc, rfl, -, -, -⟩ := id hby
  clear hb hp hk hok ho hby hbl hcap hb1 hnl fp1 hf hfo hk0 hm0
  go_enter Tryz.func69, Tryz.ntmps69
  go_wp2_with fail
  refine cl.mono ?_
  rintro e w2 ⟨vs, rfl, hrow, hvl, hls, hb2⟩
  obtain ⟨g, hg⟩ : ∃ g, W1.heap.size = g := ⟨_, rfl⟩
  rw [hg] at hrow
  have hb02 := HB1.out.trans (hb2.mono HB1.out.size)
  have HFW : Hid (Fp W0.heap.size k m2 XP W w2) := Lib.hid (Fp.of_below hb02 HP.out.size)
  have HROW := Lib.hid hrow
  have HLS := Lib.hid hls
  have HO2 := Lib.hid (owns_below HO.out hb02)
  have HK2 := Lib.hid (HK.out.below hb02)
  clear cl hrow hls hb2 hb02 hW1
  rw [hg]
  clear hg HO HK
  go_wp2_with fail
  go_loopw [1, 10, 11, 12, 18] (fun o _ _ _ i wr => ∃ (j : Nat) (st : Kst) (a : Option Addr) (c : Nat), j ≤ LL.length ∧ i = .int .i64 j ∧ o = .slice a st.whole.length c ∧ Hid (foldO (lineO F f) (LL.take j) ⟨R, n, found⟩ = some st) ∧ Hid (Ok3 st) ∧ Hid (wr.ownsRow W0.heap.size 5 1 (.slice a st.whole.length c) st.whole.length (bytesV st.whole)) ∧ Hid (Kw W0.heap.size k m0 m1 m2 st.n st.found wr) ∧ Hid (Fp W0.heap.size k m2 XP w2 wr)) (fun _ _ _ _ i _ => LL.length - (intOf i).toNat)
  case atStart => exact ⟨0, ⟨R, n, found⟩, oa, oc, Nat.zero_le _, rfl, rfl, Lib.hid rfl, HOK, HO2, HK2, Lib.hid (Fp.refl _ _ _ _ _)⟩
  case round =>
    obtain ⟨j, ⟨R1, n1', fo1⟩, a, c, hj, rfl, rfl, HC, HOK1, HO1, HK1, HF1⟩ := hrel
    clear HO2 HK2
    by_cases hlt : j < LL.length
    · have hx := List.getElem?_eq_getElem hlt
      have hll := HL0.out _ (List.getElem_mem hlt)
      have hsn := foldO_snoc hx HC.out
      have hfl : foldO (lineO F f) (LL.take (j + 1)) ⟨R, n, found⟩ = none → foldO (lineO F f) LL ⟨R, n, found⟩ = none := fun h => foldO_fail h
      have hokn : ∀ t, foldO (lineO F f) (LL.take (j + 1)) ⟨R, n, found⟩ = some t → Ok3 t := fun t h => foldO_ok (fun l s t h hs => lineO_ok HFO.out h hs) _ _ _ h HOK.out
      generalize LL[j] = l at *
      obtain ⟨u, hu, hV⟩ := HLS.out j l hx
      have hbyu := (hV W0 HBY.out).fp (HP.out.trans (HFW.out.trans HF1.out)) (Nat.le_refl _) HK0.out HM0.out
      obtain ⟨ua, uc, rfl, -, -, -⟩ := id hbyu
      have hrow1 := (HF1.out.typed _ _ _ HROW.out (by decide)).trans HROW.out
      have c0 : wr.cell? ⟨g, j, none⟩ = some (.slice ua l.length uc) := by
        simp [World.cell?, hrow1, hu]
      have hgl := lt_some hrow1
      have HSN := Lib.hid hsn
      have HFL := Lib.hid hfl
      have HOKN := Lib.hid hokn
      have hi0 : (0 : Int) ≤ (j : Int) := by omega
      have hi1 : (j : Int) < (LL.length : Int) := by omega
      obtain ⟨WC, hWC⟩ : ∃ w, wr.alloc (.cells incC 5 (9, 10)) = w := ⟨_, rfl⟩
      have hbC : Below wr.heap.size wr WC := by rw [← hWC]; exact below_alloc _ _
      have hcb : WC.heap[wr.heap.size]? = some (.cells incC 5 (9, 10)) := by rw [← hWC]; exact heap_alloc_new _ _
      have hWC2 : wr.alloc (.cells #[.int .u8 35, .int .u8 105, .int .u8 110, .int .u8 99, .int .u8 108, .int .u8 117, .int .u8 100, .int .u8 101, .int .u8 32] 5 (9, 10)) = WC := hWC
      have cc := cut_a (hbyu.below hbC) (byt_block (n := 9) (c := 9) (r := incP) hcb rfl rfl (Nat.le_refl _)) (by decide)
      have HOC := Lib.hid (owns_below HO1.out hbC)
      have HKC := Lib.hid (HK1.out.below hbC)
      have HFC := Lib.hid (HF1.out.trans (Fp.of_below hbC (Nat.le_trans (Nat.le_trans HP.out.size HFW.out.size) HF1.out.size)))
      have HBU := Lib.hid (hbyu.below hbC)
      clear hx hsn hfl hokn hu hV hbyu hrow1 hgl hbC hcb hWC HO1 HK1
      have hcp : cutP l = if incP.isPrefixOf l then some (l.drop 9) else none := rfl
      have HBS : Hid (W0.heap.size ≤ WC.heap.size) := Lib.hid (Nat.le_trans (Nat.le_trans HP.out.size HFW.out.size) HFC.out.size)
      cases hpre : incP.isPrefixOf l with
      | false =>
        rw [hpre] at cc hcp
        have hln : lineO F f l ⟨R1, n1', fo1⟩ = (growO R1 l).map fun w => ⟨w, n1', fo1⟩ := by
          unfold lineO
          rw [hcp]
          rfl
        have HLN := Lib.hid (HSN.out.trans hln)
        have cg := grown_a HOC.out HBS.out HBU.out (by have := HOK1.out.1; show R1.length ≤ 1000000; simp at this; omega) hll
        have HLO : Hid (∀ g', (Value.slice a R1.length c).ownBlock = some g' → W0.heap.size ≤ g' ∧ ∃ cur, WC.heap[g']? = some (.cells cur 5 (0, 0))) := Lib.hid fun g' hg' => owns_block HOC.out hg'
        clear hpre hcp hln HSN
        generalize growO R1 l = o2 at *
        go_wp2_with fail
        refine cc.mono ?_
        rintro e w3 ⟨⟨u2, rfl, -, -⟩, rfl⟩
        clear cc
        go_wp2_with fail
        refine cg.mono ?_
        cases o2 with
        | none =>
          rintro e w4 ⟨rfl, rfl⟩
          refine ⟨rfl, ?_, HFW.out.trans HFC.out⟩
          rw [HFL.out HLN.out]
          rfl
        | some r =>
        rintro e w4 ⟨a3, c3, rfl, ho3, hg3⟩
        have HO3 := Lib.hid ho3
        have HK3 := Lib.hid (HKC.out.grown hg3 (fun g' e => (HLO.out g' e).2))
        have HF3 := Lib.hid (HFC.out.trans (Fp.of_grown hg3 HBS.out HLO.out (by decide)))
        clear cg ho3 hg3
        go_wp2_with fail
        go_roundw
        case rel => exact ⟨j + 1, ⟨r, n1', fo1⟩, a3, c3, by omega, by go_num, rfl, HLN, Lib.hid (HOKN.out _ HLN.out), HO3, HK3, HF3⟩
        case measure => simp [intOf] <;> omega
      | true =>
        rw [hpre] at cc hcp
        rw [if_pos (rfl : true = true)] at cc
        have hls : (l.drop incP.length).length ≤ 1000000 := by rw [List.length_drop]; omega
        have htl := trimE_len (l.drop 9)
        have hnml : (trimE (l.drop 9)).length ≤ 1000000 := by rw [List.length_drop] at htl; omega
        cases f with
        | none =>
          have hd10 : d = 10 := HF.out
          subst hd10
          have hln : lineO F none l ⟨R1, n1', fo1⟩ = none := by
            unfold lineO
            rw [hcp]
            rfl
          have HLN := Lib.hid (HSN.out.trans hln)
          have hnf := need_f WC
          clear hpre hcp hln HSN htl
          go_wp2_with fail
          refine cc.mono ?_
          rintro e w3 ⟨⟨u2, rfl, -, -⟩, rfl⟩
          clear cc
          go_wp2_with fail
          refine hnf.mono ?_
          rintro e w4 ⟨rfl, rfl⟩
          refine ⟨rfl, ?_, HFW.out.trans HFC.out⟩
          rw [HFL.out HLN.out]
          rfl
        | some f0 =>
          have hdf : d < 10 ∧ PuC W0 k m0 m1 m2 (d + 1) f0 := HF.out
          have hd1 := hdf.1
          have HPC := Lib.hid hdf.2
          have hln : lineO F (some f0) l ⟨R1, n1', fo1⟩ = (inclO F (trimE (l.drop 9)) ⟨R1, n1', fo1⟩).bind fun p => f0 p.1 p.2 := by
            unfold lineO
            rw [hcp]
            rfl
          have HLN := Lib.hid (HSN.out.trans hln)
          have HIO : Hid (∀ p, inclO F (trimE (l.drop 9)) ⟨R1, n1', fo1⟩ = some p → p.2.whole = R1 ∧ Ok3 p.2) := Lib.hid fun p hp => inclO_ok hp HOK1.out
          have hnt := need_t WC
          have d1 : decide ((d : Int) < 10) = true := decide_eq_true (by omega)
          obtain ⟨WD, hWD⟩ : ∃ w, WC.alloc (.cells #[.int .u8 10] 5 (1, 2)) = w := ⟨_, rfl⟩
          have hbD : Below WC.heap.size WC WD := by rw [← hWD]; exact below_alloc _ _
          have hnl : WD.heap[WC.heap.size]? = some (.cells #[.int .u8 10] 5 (1, 2)) := by rw [← hWD]; exact heap_alloc_new _ _
          have HFD := Lib.hid (HFC.out.trans (Fp.of_below hbD HBS.out))
          have HNL : Hid (Byt WD (.slice (some ⟨WC.heap.size, 0, none⟩) 1 1) [10]) := Lib.hid (byt_block (r := [10]) hnl rfl rfl (Nat.le_refl _))
          have HBD := Lib.hid hbD
          have cI := included_a HB.out (HP.out.trans (HFW.out.trans HFD.out)) (by decide) (HKC.out.below hbD) HOK1.out.2.1 (by
            have h1 : n1' ≤ 1000 := HOK1.out.2.1
            have h2 : fo1.length ≤ n1' := HOK1.out.2.2
            show fo1.length ≤ 1000
            omega) hnml R1
          have HOD := Lib.hid (owns_below HOC.out hbD)
          clear hpre hcp hln HSN htl hdf hbD hnl HOC HKC HF
          unfold IcQ at cI
          generalize inclO F (trimE (l.drop 9)) ⟨R1, n1', fo1⟩ = oi at *
          go_wp2_with fail
          refine cc.mono ?_
          rintro e w3 ⟨⟨u2, rfl, ⟨a2, n2, c2, rfl⟩, hb2⟩, rfl⟩
          have HB2 := Lib.hid hb2
          clear cc hb2
          go_wp2_with fail
          refine hnt.mono ?_
          rintro e w3 ⟨rfl, rfl⟩
          have ct := trim_a (HB2.out.below HBD.out) HNL.out hls
          clear hnt
          go_wp2_with fail
          refine ct.mono ?_
          rintro e w4 ⟨⟨u3, rfl, ⟨a3, n3, c3, rfl⟩, hb3⟩, hw4⟩
          have hcv : (convert 24 9 (.slice a3 n3 c3)).run Tryz.prog WD = .ok (.string (mk (trimE (l.drop 9)))) WD := conv_byt hb3
          clear ct hb3
          rw [hw4]
          clear hw4
          go_wp2_with fail
          refine cI.mono ?_
          rintro e w5 ⟨hq, hf5⟩
          have HF5 := Lib.hid (HFD.out.trans (hf5.mono (by decide)))
          have HO5 := Lib.hid (hf5.owns HOD.out (by decide))
          cases oi with
          | none =>
            obtain rfl : e = .panicked pch := hq
            refine ⟨rfl, ?_, HFW.out.trans HF5.out⟩
            rw [HFL.out (HLN.out.trans rfl)]
            rfl
          | some p =>
          obtain ⟨⟨v, rfl, hat, hFv⟩, hk5⟩ := hq
          obtain ⟨hwh, hok5⟩ := HIO.out p rfl
          obtain ⟨hb5, hbl5, hcap5⟩ := HB.out.ft.at hFv hat
          obtain ⟨p1, ⟨R5, n5, fo5⟩⟩ := p
          have hwh2 : R5 = R1 := hwh
          subst hwh2
          have cP := HPC.out w5 n5 fo5 R5 p1 v a c (HP.out.trans (HFW.out.trans HF5.out)) hk5 hok5 HO5.out hb5 hbl5 hcap5
          have HLN2 : Hid (foldO (lineO F (some f0)) (LL.take (j + 1)) ⟨R, n, found⟩ = f0 p1 ⟨R5, n5, fo5⟩) := Lib.hid (HLN.out.trans rfl)
          have ecast : ((d + 1 : Nat) : Int) = (d : Int) + 1 := by omega
          rw [ecast] at cP
          unfold PuQ at cP
          clear hat hFv hk5 hwh hok5 hb5 hbl5 hcap5 hf5 cI HLN
          generalize f0 p1 ⟨R5, n5, fo5⟩ = o5 at *
          go_wp2_with fail
          refine cP.mono ?_
          rintro e w6 ⟨hq, hf6⟩
          have HF6 := Lib.hid (HF5.out.trans hf6)
          cases o5 with
          | none =>
            obtain rfl : e = .panicked pch := hq
            refine ⟨rfl, ?_, HFW.out.trans HF6.out⟩
            rw [HFL.out HLN2.out]
            rfl
          | some st =>
          obtain ⟨a6, c6, rfl, ho6, hk6⟩ := hq
          have HO6 := Lib.hid ho6
          have HK6 := Lib.hid hk6
          clear cP hf6 ho6 hk6
          go_wp2_with fail
          go_roundw
          case rel => exact ⟨j + 1, st, a6, c6, by omega, by go_num, rfl, HLN2, Lib.hid (HOKN.out _ HLN2.out), HO6, HK6, HF6⟩
          case measure => simp [intOf] <;> omega
    · obtain rfl : j = LL.length := by omega
      have HTA : Hid (LL.take LL.length = LL) := Lib.hid List.take_length
      go_wp2_with fail
      go_ret
      have hc := HC.out
      rw [HTA.out] at hc
      refine ⟨?_, HFW.out.trans HF1.out⟩
      rw [hc]
      exact ⟨a, c, rfl, HO1.out, HK1.out⟩

theorem putIn_a (hb : Kb W0 k m0 m1 m2 decl n0 T F' n1 F) : ∀ (r d : Nat), d + r = 10 → PuC W0 k m0 m1 m2 d (putO F r)
  | 0, d, hd => by
    have := putIn_s hb none d (by omega) (by show d = 10; omega) (fun f0 e => by cases e)
    exact this
  | r + 1, d, hd => by
    have := putIn_s hb (some (putO F r)) d (by omega) ⟨by omega, putIn_a hb r (d + 1) (by omega)⟩ (fun f0 e => by cases e; exact putO_ok F r)
    exact this
end
end Go.Proofs.YtgledabcfonbeaaGreatDoor.Df

/-! slices.Reverse at bytes of the call's own. -/
namespace Go.Proofs.YtgledabcfonbeaaGreatDoor.Df
open Go.RowKit Go.Maps Go.Proofs.YtgledabcfonbeaaGreatDoor

/-- the first i and the last i of r have changed places -/
def revI (r : Bs) (i : Nat) : Bs := (List.range r.length).map fun k => if k < i ∨ r.length - i ≤ k then r.getD (r.length - 1 - k) 0 else r.getD k 0
theorem revI_len (r : Bs) (i : Nat) : (revI r i).length = r.length := by simp [revI]
theorem revI_at {r : Bs} {i k : Nat} (hk : k < r.length) : (revI r i)[k]? = some (if k < i ∨ r.length - i ≤ k then r.getD (r.length - 1 - k) 0 else r.getD k 0) := by
  unfold revI
  rw [List.getElem?_map, List.getElem?_range hk]
  rfl
theorem revI_zero (r : Bs) : revI r 0 = r := by
  refine List.ext_getElem? fun k => ?_
  by_cases hk : k < r.length
  · rw [revI_at hk, if_neg (by omega), List.getElem?_eq_getElem hk, List.getD_eq_getElem?_getD, List.getElem?_eq_getElem hk]
    rfl
  · rw [List.getElem?_eq_none (by rw [revI_len]; omega), List.getElem?_eq_none (by omega)]
theorem revI_end (r : Bs) {i : Nat} (h : r.length ≤ 2 * i + 1) : revI r i = r.reverse := by
  refine List.ext_getElem? fun k => ?_
  by_cases hk : k < r.length
  · rw [revI_at hk, List.getElem?_reverse hk, List.getElem?_eq_getElem (by omega)]
    by_cases hc : k < i ∨ r.length - i ≤ k
    · rw [if_pos hc, List.getD_eq_getElem?_getD, List.getElem?_eq_getElem (by omega)]
      rfl
    · rw [if_neg hc, List.getD_eq_getElem?_getD, List.getElem?_eq_getElem hk]
      have : r.length - 1 - k = k := by omega
      simp only [this]
      rfl
  · rw [List.getElem?_eq_none (by rw [revI_len]; omega), List.getElem?_eq_none (by rw [List.length_reverse]; omega)]
theorem revI_step (r : Bs) {i : Nat} (h : 2 * i + 1 < r.length) : ((revI r i).set i (r.getD (r.length - 1 - i) 0)).set (r.length - 1 - i) (r.getD i 0) = revI r (i + 1) := by
  refine List.ext_getElem? fun k => ?_
  by_cases hk : k < r.length
  · rw [revI_at hk, List.getElem?_set, List.getElem?_set, revI_at hk, List.length_set, revI_len]
    by_cases h1 : r.length - 1 - i = k
    · rw [if_pos h1, if_pos (by omega), if_pos (by omega)]
      congr 2
      omega
    · rw [if_neg h1]
      by_cases h2 : i = k
      · rw [if_pos h2, if_pos (by omega), if_pos (by omega), h2]
      · rw [if_neg h2]
        congr 1
        by_cases hc : k < i ∨ r.length - i ≤ k
        · rw [if_pos hc, if_pos (by omega)]
        · rw [if_neg hc, if_neg (by omega)]
  · rw [List.getElem?_eq_none (by rw [List.length_set, List.length_set, revI_len]; omega), List.getElem?_eq_none (by rw [revI_len]; omega)]
theorem bytesV_set (r : Bs) (k : Nat) (b : UInt8) : (bytesV r).set k (.int .u8 (b.toNat : Int)) = bytesV (r.set k b) := by
  unfold bytesV
  rw [List.map_set]

set_option maxRecDepth 100000 in
set_option maxHeartbeats 8000000 in
theorem reverse_c {W : World} {base : Nat} {a : Option Addr} {c : Nat} {r : Bs} (h : W.ownsRow base 5 1 (.slice a r.length c) r.length (bytesV r)) (hl : r.length ≤ 1000000) :
    Calls Tryz.prog 63 #[.slice a r.length c] W fun e w' => e = .returned (.tuple #[]) ∧ w'.ownsRow base 5 1 (.slice a r.length c) r.length (bytesV r.reverse) ∧ W.grownBy w' (Value.slice a r.length c).ownBlock := by
  have HO := Lib.hid h
  have HR0 : Hid (W.ownsRow base 5 1 (.slice a r.length c) r.length (bytesV (revI r 0))) := Lib.hid (by rw [revI_zero]; exact h)
  clear h
  go_enter Tryz.func63, Tryz.ntmps63
  go_wp2_with fail
  go_loopw [2, 3] (fun i j wr => ∃ k : Nat, 2 * k ≤ r.length + 1 ∧ i = .int .i64 (k : Int) ∧ j = .int .i64 ((r.length : Int) - 1 - k) ∧ Hid (wr.ownsRow base 5 1 (.slice a r.length c) r.length (bytesV (revI r k))) ∧ Hid (W.grownBy wr (Value.slice a r.length c).ownBlock)) (fun i _ _ => r.length - (intOf i).toNat)
  case atStart => exact ⟨0, by omega, rfl, by simp, HR0, Lib.hid ⟨rfl, rfl, rfl, Nat.le_refl _, fun _ _ _ => rfl⟩⟩
  case round =>
    obtain ⟨k, hk, rfl, rfl, hR, hG⟩ := hrel
    by_cases hlt : 2 * k + 1 < r.length
    · have hlt2 : (k : Int) < (r.length : Int) - 1 - (k : Int) := by omega
      obtain ⟨jj, hjj⟩ : ∃ jj : Nat, (r.length : Int) - 1 - (k : Int) = (jj : Int) := ⟨r.length - 1 - k, by omega⟩
      have hjn : jj = r.length - 1 - k := by omega
      rw [hjj] at hlt2 ⊢
      have hval := hR.out.2
      obtain ⟨g, rfl⟩ : ∃ g, a = some ⟨g, 0, none⟩ := by
        rcases hval with ⟨e1, e2⟩ | ⟨g, cap, cur, e1, _⟩
        · omega
        · injection e1 with e1
          exact ⟨g, e1⟩
      clear hval
      have hst : ((revI r k).set k (r.getD jj 0)).set jj (r.getD k 0) = revI r (k + 1) := by rw [hjn]; exact revI_step r hlt
      have ck : wr.cell? ⟨g, k, none⟩ = some (.int .u8 ((r.getD k 0).toNat : Int)) := by
        refine (hR.out.cellAt k (by omega)).trans ?_
        unfold bytesV
        rw [List.getElem?_map, revI_at (by omega), if_neg (by omega)]
        rfl
      have cj : wr.cell? ⟨g, jj, none⟩ = some (.int .u8 ((r.getD jj 0).toNat : Int)) := by
        refine (hR.out.cellAt jj (by omega)).trans ?_
        unfold bytesV
        rw [List.getElem?_map, revI_at (by omega), if_neg (by omega)]
        rfl
      have zk := hR.out.frozenAt k
      have zj := hR.out.frozenAt jj
      generalize r.getD k 0 = x at *
      generalize r.getD jj 0 = y at *
      obtain ⟨h1, hg1⟩ := hR.out.stored k (.int .u8 (y.toNat : Int))
      obtain ⟨h2, hg2⟩ := h1.stored jj (.int .u8 (x.toNat : Int))
      rw [bytesV_set, bytesV_set, hst] at h2
      have cj2 : (wr.setCell ⟨g, k, none⟩ (.int .u8 (y.toNat : Int))).cell? ⟨g, jj, none⟩ = some (.int .u8 (y.toNat : Int)) := by
        rw [World.cell?_setCell_other _ _ _ _ (by intro e; injection e with _ e; omega)]
        exact cj
      have zj2 := h1.frozenAt jj
      have HS2 : Hid (((wr.setCell ⟨g, k, none⟩ (.int .u8 (y.toNat : Int))).setCell ⟨g, jj, none⟩ (.int .u8 (x.toNat : Int))).drew.ownsRow base 5 1 (.slice (some ⟨g, 0, none⟩) r.length c) r.length (bytesV (revI r (k + 1)))) := Lib.hid h2
      have HG2 : Hid (W.grownBy ((wr.setCell ⟨g, k, none⟩ (.int .u8 (y.toNat : Int))).setCell ⟨g, jj, none⟩ (.int .u8 (x.toNat : Int))).drew (Value.slice (some ⟨g, 0, none⟩) r.length c).ownBlock) := Lib.hid (by
        have hG := hG.out
        exact ⟨hG.os, hG.tape, hG.output, by show W.heap.size ≤ ((wr.setCell ⟨g, k, none⟩ _).setCell ⟨g, jj, none⟩ _).heap.size; rw [World.size_setCell, World.size_setCell]; exact hG.size, fun q hq hne => by
          have hqg : q ≠ g := fun e => hne (by rw [e]; rfl)
          exact ((set_other hqg).trans (set_other hqg)).trans (hG.block q hq hne)⟩)
      have hk0 : (0 : Int) ≤ (k : Int) := by omega
      have hk1 : (k : Int) < (r.length : Int) := by omega
      have hj0 : (0 : Int) ≤ (jj : Int) := by omega
      have hj1 : (jj : Int) < (r.length : Int) := by omega
      have HJ := Lib.hid hjj
      clear hst h1 h2 hg1 hg2 hjj hjn
      go_wp2_with fail
      go_region
      go_wp2_with fail
      go_roundw
      case rel =>
        have hq := HJ.out
        exact ⟨k + 1, by omega, by go_num, congrArg (Value.int .i64) (by omega), HS2, HG2⟩
      case measure => simp [intOf] <;> omega
    · have hlt2 : ¬ (k : Int) < (r.length : Int) - 1 - (k : Int) := by omega
      have HE : Hid (revI r k = r.reverse) := Lib.hid (revI_end r (by omega))
      go_wp2_with fail
      go_end0
      rw [← HE.out]
      exact ⟨rfl, hR.out, hG.out⟩
end Go.Proofs.YtgledabcfonbeaaGreatDoor.Df
