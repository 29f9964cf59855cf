/-
  A LINE THAT INCLUDES: the file's bytes, and what is noted.
-/
import Derived.Test.YtgledabcfonbeaaGreatDoorCkFoot
namespace Go.Proofs.YtgledabcfonbeaaGreatDoor.Df
open Go.RowKit Go.Maps Go.Proofs.YtgledabcfonbeaaGreatDoor

theorem has_fnd (L : List Bs) (x : Bs) : upd (fun l => L.contains l) x true = fun l => (fndO L x).contains l := by
  unfold fndO
  by_cases h : L.contains x = true
  · rw [if_pos h]
    funext l
    unfold upd
    split
    · rename_i e; rw [e, h]
    · rfl
  · rw [if_neg h]
    exact has_one L x
theorem kto_set2 {W : World} {k m0 m1 m2 : Nat} {n u : Int} {fv : Value} (h : W.heap[k]? = some (KtO m0 m1 n fv m2)) : (W.setCell ⟨k, 2, none⟩ (.int .i64 u)).heap[k]? = some (KtO m0 m1 u fv m2) := set_block h
theorem kto_set3 {W : World} {k m0 m1 m2 : Nat} {n : Int} {fv u : Value} (h : W.heap[k]? = some (KtO m0 m1 n fv m2)) : (W.setCell ⟨k, 3, none⟩ u).heap[k]? = some (KtO m0 m1 n u m2) := set_block h

section
variable {W0 W : World} {k m0 m1 m2 n0 n1 : Nat} {decl : List Bs} {T : List Value} {F' : Bs → Option Value} {F : Bs → Option Bs} {X : List TypeId}

/-- what included comes to -/
def IcQ (F : Bs → Option Bs) (F' : Bs → Option Value) (s : Bs) (B k m0 m1 m2 : Nat) (o : Option (Bs × Kst)) (W : World) (e : Ending) (w' : World) : Prop :=
  Fa o (fun p e => (∃ v, e = .returned v ∧ At F' s v ∧ F s = some p.1) ∧ Kw B k m0 m1 m2 p.2.n p.2.found w') e ∧ Fp B k m2 [9, 84] W w'

set_option maxRecDepth 100000 in
set_option maxHeartbeats 8000000 in
theorem included_a (hb : Kb W0 k m0 m1 m2 decl n0 T F' n1 F) (hp : Fp W0.heap.size k m2 X W0 W) (hX : ∀ t, t ∈ [9, 84] → t ∈ X) {n : Nat} {found : List Bs} (hk : Kw W0.heap.size k m0 m1 m2 n found W) (hn : n ≤ 1000) (hfl : found.length ≤ 1000) {s : Bs} (hs : s.length ≤ 1000000) (whole : Bs) :
    Calls Tryz.prog 84 #[.pointer (some ⟨k, 0, none⟩), .string (mk s)] W (IcQ F F' s W0.heap.size k m0 m1 m2 (inclO F s ⟨whole, n, found⟩) W) := by
  obtain ⟨fa, fc, n2, hkt, hown, hmet, hn2⟩ := hk
  have HB := Lib.hid hb
  have HP := Lib.hid hp
  have HXX := Lib.hid hX
  have c2 : W.cell? ⟨k, 2, none⟩ = some (.int .i64 (n : Int)) := by simp [World.cell?, hkt, KtO]
  have z2 : W.frozen? ⟨k, 2, none⟩ = false := by simp [World.frozen?, hkt, KtO]
  have fp1 : Fp W0.heap.size k m2 [9, 84] W (W.setCell ⟨k, 2, none⟩ (.int .i64 ((n : Int) + 1))) := Fp.set hkt (by decide)
  have hk1 := kto_set2 (u := (n : Int) + 1) hkt
  have hown1 : (W.setCell ⟨k, 2, none⟩ (.int .i64 ((n : Int) + 1))).ownsRow W0.heap.size 9 1 (.slice fa found.length fc) found.length (strV found) := owns_kept hown fun g hg => set_other (fun e => by
    have h1 := (owns_block hown hg).2
    obtain ⟨cur, h1⟩ := h1
    rw [e, hkt] at h1
    injection h1 with h1
    injection h1 with _ h1
    exact absurd h1 (by decide))
  have hmet1 : Si (W.setCell ⟨k, 2, none⟩ (.int .i64 ((n : Int) + 1))) n2 m2 (fun l => found.contains l) := hmet.kept (set_other (by
    obtain ⟨es, c, hm⟩ := hmet.map
    exact Ne.symm (map_ne hkt hm)))
  obtain ⟨W1, hW1⟩ : ∃ w, W.setCell ⟨k, 2, none⟩ (.int .i64 ((n : Int) + 1)) = w := ⟨_, rfl⟩
  rw [hW1] at fp1 hk1 hown1 hmet1
  have i2 : W1.cell? ⟨k, 2, none⟩ = some (.int .i64 ((n : Int) + 1)) := by simp [World.cell?, hk1, KtO]
  have HF1 := Lib.hid fp1
  have HK1 := Lib.hid hk1
  have HO1 := Lib.hid hown1
  have HM1 := Lib.hid hmet1
  have hr := right_c s (by omega) W1
  unfold inclO
  obtain ⟨rb, hrb⟩ : ∃ z, rightL s = z := ⟨_, rfl⟩
  rw [hrb] at hr ⊢
  obtain ⟨o, ho⟩ : ∃ o, F s = o := ⟨_, rfl⟩
  rw [ho]
  have HOO := Lib.hid ho
  clear ho
  clear hb hp hX hkt hown hmet fp1 hk1 hown1 hmet1 hrb
  by_cases hle : n + 1 ≤ 1000
  · cases rb with
    | false =>
      rw [if_neg (by simp)]
      go_enter Tryz.func84, Tryz.ntmps84
      go_wp2_with fail
      refine hr.mono ?_
      rintro e w2 ⟨rfl, hb2⟩
      have hn := need_f w2
      clear hr
      have HF2 := Lib.hid (HF1.out.trans (Fp.of_below hb2 (Nat.le_trans HP.out.size HF1.out.size)))
      clear hb2
      go_wp2_with fail
      refine hn.mono ?_
      rintro e w3 ⟨rfl, rfl⟩
      exact ⟨rfl, rfl, HF2.out⟩
    | true =>
      rw [if_pos ⟨hle, rfl⟩]
      go_enter Tryz.func84, Tryz.ntmps84
      go_wp2_with fail
      refine hr.mono ?_
      rintro e w2 ⟨rfl, hb2⟩
      have hnd := need_t w2
      have hk2 := (hb2.block _ (lt_some HK1.out)).trans HK1.out
      have c4 : w2.cell? ⟨k, 4, none⟩ = some (.map (some m2)) := by simp [World.cell?, hk2, KtO]
      have hm2 := HM1.out.kept (hb2.block _ HM1.out.lt)
      have hl := hm2.look (s := s) (by unfold maxLen; omega)
      have HA : Hid (Below w2.heap.size w2 (w2.alloc (.cells #[] 85))) := Lib.hid (below_alloc _ _)
      have HF2 := Lib.hid (HF1.out.trans (Fp.of_below hb2 (Nat.le_trans HP.out.size HF1.out.size)))
      have HO2 := Lib.hid (owns_below HO1.out hb2)
      have HK2 := Lib.hid hk2
      have HM2 := Lib.hid hm2
      clear hr hb2 hk2 hm2
      have HFA := Lib.hid (HF2.out.trans (Fp.of_below HA.out (Nat.le_trans HP.out.size HF2.out.size)))
      have hkA := (HA.out.block _ (lt_some HK2.out)).trans HK2.out
      have hmA := HM2.out.kept (HA.out.block _ HM2.out.lt)
      have hoA := owns_below HO2.out HA.out
      obtain ⟨wA, hwA⟩ : ∃ W, w2.alloc (.cells #[] 85) = W := ⟨_, rfl⟩
      rw [hwA] at HFA hkA hmA hoA HA
      have hBA : W0.heap.size ≤ wA.heap.size := Nat.le_trans HP.out.size HFA.out.size
      cases hct : found.contains s with
      | true =>
        rw [hct] at hl
        have HCT := Lib.hid hct
        have cf := file_a (HB.out.kn (HP.out.trans (HFA.out.mono HXX.out)) hkA) (HB.out.fts (HP.out.trans (HFA.out.mono HXX.out))) hs
        have HKA := Lib.hid hkA
        have HMA := Lib.hid hmA
        have HOA := Lib.hid hoA
        have HWA := Lib.hid hwA
        rw [HOO.out] at cf
        clear hct hkA hmA hoA hwA
        go_wp2_with fail
        refine hnd.mono ?_
        rintro e w3 ⟨rfl, rfl⟩
        clear hnd
        go_wp2_with fail
        rw [HWA.out]
        refine cf.mono ?_
        rintro e w4 ⟨hq, hb4⟩
        have HF4 := Lib.hid (HFA.out.trans (Fp.of_below hb4 hBA))
        cases o with
        | none =>
          obtain rfl : e = .panicked pch := hq
          exact ⟨rfl, rfl, HF4.out⟩
        | some b =>
          obtain ⟨v, rfl, -, hv⟩ := hq
          have HV := Lib.hid hv
          have HK4 := Lib.hid ((hb4.block _ (lt_some HKA.out)).trans HKA.out)
          have HM4 := Lib.hid (HMA.out.kept (hb4.block _ HMA.out.lt))
          have HO4 := Lib.hid (owns_below HOA.out hb4)
          clear cf hb4 hv
          go_wp2_with fail
          go_ret
          refine ⟨⟨⟨_, rfl, HV.out, HOO.out⟩, ?_⟩, HF4.out⟩
          have hfo : fndO found s = found := by unfold fndO; rw [if_pos HCT.out]
          show Kw _ _ _ _ _ (n + 1) (fndO found s) _
          rw [hfo]
          exact ⟨fa, fc, n2, by rw [HK4.out]; rfl, HO4.out, HM4.out, by omega⟩
      | false =>
        rw [hct] at hl
        have HCT := Lib.hid hct
        obtain ⟨W3, hput, hm3, hg3, -⟩ := hmA.put (s := s) (by unfold maxLen; omega) (by unfold maxLen; omega)
        obtain ⟨es, cc, hmap⟩ := hmA.map
        have hk3 := (hg3.block _ (lt_some hkA) (fun e => map_ne hkA hmap (Option.some.inj e))).trans hkA
        have ho3 := owns_kept hoA fun g hg => hg3.block g (by obtain ⟨_, cur, hc⟩ := owns_block hoA hg; exact lt_some hc) (fun e => by
          obtain ⟨_, cur, hc⟩ := owns_block hoA hg
          exact map_ne hc hmap (Option.some.inj e))
        have HF3 := Lib.hid (HFA.out.trans (Fp.of_map hg3 hBA hmap))
        have hB3 : W0.heap.size ≤ W3.heap.size := Nat.le_trans HP.out.size HF3.out.size
        have cA4 : wA.cell? ⟨k, 4, none⟩ = some (.map (some m2)) := by simp [World.cell?, hkA, KtO]
        have c33 : W3.cell? ⟨k, 3, none⟩ = some (.slice fa found.length fc) := by simp [World.cell?, hk3, KtO]
        obtain ⟨a', c', W4, hrun, ho4, hg4⟩ := str_run ho3 hB3 (by omega) (p := s)
        have hA3 := below_alloc W3 (.cells #[.string (mk s)] 9)
        have hk3a := (hA3.block _ (lt_some hk3)).trans hk3
        have ho3a := owns_below ho3 hA3
        have hown3 : ∀ g, (Value.slice fa found.length fc).ownBlock = some g → W0.heap.size ≤ g ∧ ∃ cur, (W3.alloc (.cells #[.string (mk s)] 9)).heap[g]? = some (.cells cur 9 (0, 0)) := fun g hg => owns_block ho3a hg
        have hnek : some k ≠ (Value.slice fa found.length fc).ownBlock := fun e => by
          obtain ⟨_, cur, hc⟩ := hown3 k e.symm
          rw [hk3a] at hc
          injection hc with h1
          injection h1 with _ h1
          exact absurd h1 (by decide)
        have hk4 := (hg4.block _ (lt_some hk3a) hnek).trans hk3a
        obtain ⟨es3, cc3, hmap3⟩ := hm3.map
        have hm4 := (hm3.kept (hA3.block _ hm3.lt)).kept (hg4.block _ (Nat.lt_of_lt_of_le hm3.lt hA3.size) (fun e => by
          obtain ⟨_, cur, hc⟩ := hown3 m2 e.symm
          have hmap4 := (hA3.block _ hm3.lt).trans hmap3
          exact map_ne hc hmap4 rfl))
        have HF4 := Lib.hid ((HF3.out.trans (Fp.of_below hA3 hB3)).trans (Fp.of_grown hg4 (Nat.le_trans hB3 hA3.size) hown3 (by decide)))
        have z43 : W4.frozen? ⟨k, 3, none⟩ = false := by simp [World.frozen?, hk4, KtO]
        have c43 : W4.cell? ⟨k, 3, none⟩ = some (.slice fa found.length fc) := by simp [World.cell?, hk4, KtO]
        have hk5 := kto_set3 (u := .slice a' (found ++ [s]).length c') hk4
        have ho5 : (W4.setCell ⟨k, 3, none⟩ (.slice a' (found ++ [s]).length c')).ownsRow W0.heap.size 9 1 (.slice a' (found ++ [s]).length c') (found ++ [s]).length (strV (found ++ [s])) := owns_kept ho4 fun g hg => set_other (fun e => by
          obtain ⟨_, cur, h1⟩ := owns_block ho4 hg
          rw [e, hk4] at h1
          injection h1 with h1
          injection h1 with _ h1
          exact absurd h1 (by decide))
        obtain ⟨es4, cc4, hmap4⟩ := hm4.map
        have hm5 := hm4.kept (set_other (j := 3) (v := .slice a' (found ++ [s]).length c') (Ne.symm (map_ne hk4 hmap4)))
        have HF5 := Lib.hid (HF4.out.trans (Fp.set (j := 3) (u := .slice a' (found ++ [s]).length c') hk4 (by decide)))
        obtain ⟨K1, hK1⟩ : ∃ K1, found ++ [s] = K1 := ⟨_, rfl⟩
        have hKl : K1.length = found.length + 1 := by rw [← hK1]; simp
        rw [hK1] at hrun hk5 ho5 hm5 HF5
        obtain ⟨nk, hnk⟩ : ∃ nk, K1.length = nk := ⟨_, rfl⟩
        have HNK := Lib.hid hnk
        rw [hnk] at hrun hk5 ho5 hm5 HF5
        obtain ⟨W5, hW5⟩ : ∃ W, W4.setCell ⟨k, 3, none⟩ (.slice a' nk c') = W := ⟨_, rfl⟩
        rw [hW5] at hk5 ho5 hm5 HF5
        have hB5 : W0.heap.size ≤ W5.heap.size := Nat.le_trans HP.out.size HF5.out.size
        have cf := file_a (HB.out.kn (HP.out.trans (HF5.out.mono HXX.out)) hk5) (HB.out.fts (HP.out.trans (HF5.out.mono HXX.out))) hs
        rw [← hwA] at cA4 hput
        have HRUN := Lib.hid hrun
        have HK5 := Lib.hid hk5
        have HM5 := Lib.hid hm5
        have HO5 := Lib.hid ho5
        have HWA := Lib.hid hwA
        have HW5 := Lib.hid hW5
        have HK1 := Lib.hid hK1
        rw [HOO.out] at cf
        clear hct hkA hmA hoA hwA hm3 hg3 hmap hk3 ho3 ho4 hg4 hA3 hk3a ho3a hown3 hnek hk4 hmap3 hm4 hk5 ho5 hmap4 hm5 hKl hnk hK1 hrun hW5
        go_wp2_with fail
        refine hnd.mono ?_
        rintro e w3 ⟨rfl, rfl⟩
        clear hnd
        go_wp2_with (at_builtin; refine wpList_run rfl (.tmp 45) (.tmp 47) rfl rfl rfl HRUN.out ?_)
        rw [HW5.out]
        refine cf.mono ?_
        rintro e w4 ⟨hq, hb4⟩
        have HF6 := Lib.hid (HF5.out.trans (Fp.of_below hb4 hB5))
        cases o with
        | none =>
          obtain rfl : e = .panicked pch := hq
          exact ⟨rfl, rfl, HF6.out⟩
        | some b =>
          obtain ⟨v, rfl, -, hv⟩ := hq
          have HV := Lib.hid hv
          have HK6 := Lib.hid ((hb4.block _ (lt_some HK5.out)).trans HK5.out)
          have HM6 := Lib.hid (HM5.out.kept (hb4.block _ HM5.out.lt))
          have HO6 := Lib.hid (owns_below HO5.out hb4)
          clear cf hb4 hv
          go_wp2_with fail
          go_ret
          refine ⟨⟨⟨_, rfl, HV.out, HOO.out⟩, ?_⟩, HF6.out⟩
          have hfo : fndO found s = K1 := by unfold fndO; rw [if_neg (by rw [HCT.out]; simp), HK1.out]
          have hfn : (fun l => K1.contains l) = upd (fun l => found.contains l) s true := by rw [← HK1.out]; exact (has_one found s).symm
          have hln := HNK.out
          show Kw _ _ _ _ _ (n + 1) (fndO found s) _
          rw [hfo]
          subst hln
          exact ⟨a', c', n2 + 1, by rw [HK6.out]; rfl, HO6.out, by rw [hfn]; exact HM6.out, by omega⟩
  · rw [if_neg (fun e => hle e.1)]
    have d1 : decide ((n : Int) + 1 ≤ 1000) = false := decide_eq_false (by omega)
    have hn := need_f W1
    go_enter Tryz.func84, Tryz.ntmps84
    go_wp2_with fail
    refine hn.mono ?_
    rintro e w3 ⟨rfl, rfl⟩
    exact ⟨rfl, rfl, HF1.out⟩
end
end Go.Proofs.YtgledabcfonbeaaGreatDoor.Df
