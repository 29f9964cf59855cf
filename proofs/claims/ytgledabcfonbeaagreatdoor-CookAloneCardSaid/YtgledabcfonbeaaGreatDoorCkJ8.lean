/-
  WHAT AN INCLUDING TURNS: the kitchen, its set, rows of the call's own.
-/
import Derived.Test.YtgledabcfonbeaaGreatDoorCkSplit
namespace Go.Proofs.YtgledabcfonbeaaGreatDoor.Df
open Go.RowKit Go.Maps Go.Proofs.YtgledabcfonbeaaGreatDoor

/-- nothing of what lay below B has turned but for k and m; of what else there is nothing that is of another type than those of X -/
structure Fp (B k m : Nat) (X : List TypeId) (W W' : World) : Prop where
  os : W'.os = W.os
  tape : W'.tape = W.tape
  output : W'.output = W.output
  size : W.heap.size ≤ W'.heap.size
  low : ∀ q, q < B → q ≠ k → q ≠ m → W'.heap[q]? = W.heap[q]?
  typed : ∀ (g : Nat) (cur : Array Value) (t : TypeId), W.heap[g]? = some (Obj.cells cur t (0, 0)) → t ∉ X → W'.heap[g]? = W.heap[g]?
section
variable {B k m : Nat} {X : List TypeId} {W W' W2 : World}
theorem Fp.refl (B k m : Nat) (X : List TypeId) (W : World) : Fp B k m X W W := ⟨rfl, rfl, rfl, Nat.le_refl _, fun _ _ _ _ => rfl, fun _ _ _ _ _ => rfl⟩
theorem Fp.trans (h : Fp B k m X W W') (h2 : Fp B k m X W' W2) : Fp B k m X W W2 :=
  ⟨h2.os.trans h.os, h2.tape.trans h.tape, h2.output.trans h.output, Nat.le_trans h.size h2.size, fun q h1 h3 h4 => (h2.low q h1 h3 h4).trans (h.low q h1 h3 h4), fun g cur t hg ht => (h2.typed g cur t ((h.typed g cur t hg ht).trans hg) ht).trans (h.typed g cur t hg ht)⟩
theorem Fp.mono {Y : List TypeId} (h : Fp B k m X W W') (hXY : ∀ t, t ∈ X → t ∈ Y) : Fp B k m Y W W' := ⟨h.os, h.tape, h.output, h.size, h.low, fun g cur t hg ht => h.typed g cur t hg (fun e => ht (hXY t e))⟩
theorem Fp.of_below (h : Below W.heap.size W W') (hB : B ≤ W.heap.size) : Fp B k m X W W' :=
  ⟨h.os, h.tape, h.output, h.size, fun q hq _ _ => h.block q (Nat.lt_of_lt_of_le hq hB), fun g _ _ hg _ => h.block g (lt_some hg)⟩
theorem Fp.of_grown {own : Option Nat} {t0 : TypeId} (hg : W.grownBy W' own) (hB : B ≤ W.heap.size) (ho : ∀ g, own = some g → B ≤ g ∧ ∃ cur, W.heap[g]? = some (.cells cur t0 (0, 0))) (ht : t0 ∈ X) : Fp B k m X W W' :=
  ⟨hg.os, hg.tape, hg.output, hg.size, fun q hq _ _ => hg.block q (Nat.lt_of_lt_of_le hq hB) (fun e => by have := (ho q e.symm).1; omega), fun g cur t hc hX => hg.block g (lt_some hc) (fun e => by
    obtain ⟨_, cur2, h2⟩ := ho g e.symm
    rw [hc] at h2
    cases h2
    exact hX ht)⟩
theorem Fp.of_map {es : Array MapEntry} {c : Nat} (hg : W.grownBy W' (some m)) (hB : B ≤ W.heap.size) (hm : W.heap[m]? = some (.map es c)) : Fp B k m X W W' :=
  ⟨hg.os, hg.tape, hg.output, hg.size, fun q hq _ hne => hg.block q (Nat.lt_of_lt_of_le hq hB) (fun e => hne (Option.some.inj e)), fun g cur t hc _ => hg.block g (lt_some hc) (fun e => by
    have := Option.some.inj e
    subst this
    rw [hm] at hc
    cases hc)⟩
theorem Fp.set {j : Nat} {u : Value} {C : Array Value} {t0 : TypeId} (hk : W.heap[k]? = some (.cells C t0 (0, 0))) (ht : t0 ∈ X) : Fp B k m X W (W.setCell ⟨k, j, none⟩ u) :=
  ⟨rfl, rfl, rfl, by rw [World.size_setCell]; exact Nat.le_refl _, fun q _ hne _ => set_other hne, fun g cur t hc hX => set_other (fun e => by
    subst e
    rw [hk] at hc
    cases hc
    exact hX ht)⟩
theorem Fp.owns {base n sz : Nat} {e : TypeId} {v : Value} {xs : List Value} (h : Fp B k m X W W') (ho : W.ownsRow base e sz v n xs) (he : e ∉ X) : W'.ownsRow base e sz v n xs :=
  owns_kept ho fun g hg => by
    obtain ⟨_, cur, hc⟩ := owns_block ho hg
    exact h.typed g cur e hc he
end

/-- bytes that lay there stay -/
theorem Byt.fp {B k m m0 m1 m2 a2 a3 : Nat} {o1 : Option Addr} {n : Int} {X : List TypeId} {W W' : World} {v : Value} {r : Bs} {es : Array MapEntry} {c : Nat} (h : Byt W v r) (hp : Fp B k m X W W') (hB : W.heap.size ≤ B) (hk : W.heap[k]? = some (KtO m0 m1 n (.slice o1 a2 a3) m2)) (hm : W.heap[m]? = some (.map es c)) : Byt W' v r := by
  obtain ⟨a, c, rfl, hc, hn, hrow⟩ := h
  refine ⟨a, c, rfl, hc, hn, ?_⟩
  rcases hrow with h | ⟨g, off, rfl, hg, hcell⟩
  · exact .inl h
  cases r with
  | nil => exact .inl rfl
  | cons x r =>
    have h0 := hcell 0 x rfl
    have hgk : g ≠ k := fun e => by
      subst e
      have h1 : (#[Value.map (some m0), .map (some m1), .int .i64 n, .slice o1 a2 a3, .map (some m2)] : Array Value)[off + 0]? = some (.int .u8 (x.toNat : Int)) := by
        rw [← h0]
        simp [World.cell?, hk, KtO]
      generalize off + 0 = i at h1
      match i, h1 with
      | 0, h1 => cases h1
      | 1, h1 => cases h1
      | 2, h1 => cases h1
      | 3, h1 => cases h1
      | 4, h1 => cases h1
      | i + 5, h1 => simp at h1
    have hgm : g ≠ m := fun e => by
      subst e
      simp [World.cell?, hm] at h0
    have hk := hp.low g (Nat.lt_of_lt_of_le hg hB) hgk hgm
    exact .inr ⟨g, off, rfl, Nat.lt_of_lt_of_le hg hp.size, fun j p hj => (cell_of_block hk).trans (hcell j p hj)⟩

/-- a kitchen, ahead of all -/
structure Kb (W0 : World) (k m0 m1 m2 : Nat) (decl : List Bs) (n0 : Nat) (T : List Value) (F' : Bs → Option Value) (n1 : Nat) (F : Bs → Option Bs) : Prop where
  kt : ∃ n a l c, W0.heap[k]? = some (KtO m0 m1 n (.slice a l c) m2)
  dm : Si W0 n0 m0 (fun l => decl.contains l)
  fm : Vi W0 n1 m1 T F'
  zf : zFile ∈ T
  mm : ∃ es c, W0.heap[m2]? = some (.map es c)
  ne0 : m0 ≠ m2
  ne1 : m1 ≠ m2
  ft : FT W0 F' F
/-- what it found so far -/
def Kw (B k m0 m1 m2 n : Nat) (found : List Bs) (W : World) : Prop :=
  ∃ fa fc n2, W.heap[k]? = some (KtO m0 m1 (n : Int) (.slice fa found.length fc) m2) ∧ W.ownsRow B 9 1 (.slice fa found.length fc) found.length (strV found) ∧ Si W n2 m2 (fun l => found.contains l) ∧ n2 ≤ n
section
variable {W0 W : World} {k m0 m1 m2 n0 n1 : Nat} {decl : List Bs} {T : List Value} {F' : Bs → Option Value} {F : Bs → Option Bs} {X : List TypeId}
theorem Vi.map {w : World} {n m : Nat} {T : List Value} {f : Bs → Option Value} (h : Vi w n m T f) : ∃ es c, w.heap[m]? = some (.map es c) := by obtain ⟨D, ⟨es, c, h, _⟩, _⟩ := h; exact ⟨es, c, h⟩
theorem Kb.kn (h : Kb W0 k m0 m1 m2 decl n0 T F' n1 F) (hp : Fp W0.heap.size k m2 X W0 W) {n : Int} {fv : Value} (hk : W.heap[k]? = some (KtO m0 m1 n fv m2)) : Kn W k m0 m1 m2 n fv decl n0 T F' n1 := by
  obtain ⟨_, _, _, _, hk0⟩ := h.kt
  obtain ⟨_, _, hm0⟩ := h.dm.map
  obtain ⟨_, _, hm1⟩ := h.fm.map
  exact ⟨hk, h.dm.kept (hp.low _ h.dm.lt (Ne.symm (map_ne hk0 hm0)) h.ne0), h.fm.kept (hp.low _ h.fm.lt (Ne.symm (map_ne hk0 hm1)) h.ne1), h.zf⟩
theorem Kb.fts (h : Kb W0 k m0 m1 m2 decl n0 T F' n1 F) (hp : Fp W0.heap.size k m2 X W0 W) : FT W F' F := fun s => by
  have := h.ft s
  obtain ⟨_, _, _, _, hk0⟩ := h.kt
  obtain ⟨_, _, hm⟩ := h.mm
  split at this <;> rename_i hs
  · obtain ⟨f0, ua, uc, h1, h2, h3⟩ := this
    exact ⟨f0, ua, uc, h1, h2.fp hp (Nat.le_refl _) hk0 hm, h3⟩
  · exact this
end
end Go.Proofs.YtgledabcfonbeaaGreatDoor.Df

/-! A LINE THAT INCLUDES: the file's bytes, and what is noted. -/
namespace Go.Proofs.YtgledabcfonbeaaGreatDoor.Df
open Go.RowKit Go.Maps Go.Proofs.YtgledabcfonbeaaGreatDoor

theorem has_fnd (L : List Bs) (x : Bs) : upd (fun l => L.contains l) x true = fun l => (fndO L x).contains l := by
  unfold fndO
  by_cases h : L.contains x = true
  · rw [if_pos h]
    funext l
    unfold upd
    split
    · rename_i e; rw [e, h]
    · rfl
  · rw [if_neg h]
    exact has_one L x
theorem kto_set2 {W : World} {k m0 m1 m2 : Nat} {n u : Int} {fv : Value} (h : W.heap[k]? = some (KtO m0 m1 n fv m2)) : (W.setCell ⟨k, 2, none⟩ (.int .i64 u)).heap[k]? = some (KtO m0 m1 u fv m2) := set_block h
theorem kto_set3 {W : World} {k m0 m1 m2 : Nat} {n : Int} {fv u : Value} (h : W.heap[k]? = some (KtO m0 m1 n fv m2)) : (W.setCell ⟨k, 3, none⟩ u).heap[k]? = some (KtO m0 m1 n u m2) := set_block h

section
variable {W0 W : World} {k m0 m1 m2 n0 n1 : Nat} {decl : List Bs} {T : List Value} {F' : Bs → Option Value} {F : Bs → Option Bs} {X : List TypeId}

/-- what included comes to -/
def IcQ (F : Bs → Option Bs) (F' : Bs → Option Value) (s : Bs) (B k m0 m1 m2 : Nat) (o : Option (Bs × Kst)) (W : World) (e : Ending) (w' : World) : Prop :=
  Fa o (fun p e => (∃ v, e = .returned v ∧ At F' s v ∧ F s = some p.1) ∧ Kw B k m0 m1 m2 p.2.n p.2.found w') e ∧ Fp B k m2 [9, 84] W w'

set_option maxRecDepth 100000 in
set_option maxHeartbeats 8000000 in
theorem included_a (hb : Kb W0 k m0 m1 m2 decl n0 T F' n1 F) (hp : Fp W0.heap.size k m2 X W0 W) (hX : ∀ t, t ∈ [9, 84] → t ∈ X) {n : Nat} {found : List Bs} (hk : Kw W0.heap.size k m0 m1 m2 n found W) (hn : n ≤ 1000) (hfl : found.length ≤ 1000) {s : Bs} (hs : s.length ≤ 1000000) (whole : Bs) :
    Calls Tryz.prog 84 #[.pointer (some ⟨k, 0, none⟩), .string (mk s)] W (IcQ F F' s W0.heap.size k m0 m1 m2 (inclO F s ⟨whole, n, found⟩) W) := by
  obtain ⟨fa, fc, n2, hkt, hown, hmet, hn2⟩ := hk
  have HB := Lib.hid hb
  have HP := Lib.hid hp
  have HXX := Lib.hid hX
  have c2 : W.cell? ⟨k, 2, none⟩ = some (.int .i64 (n : Int)) := by simp [World.cell?, hkt, KtO]
  have z2 : W.frozen? ⟨k, 2, none⟩ = false := by simp [World.frozen?, hkt, KtO]
  have fp1 : Fp W0.heap.size k m2 [9, 84] W (W.setCell ⟨k, 2, none⟩ (.int .i64 ((n : Int) + 1))) := Fp.set hkt (by decide)
  have hk1 := kto_set2 (u := (n : Int) + 1) hkt
  have hown1 : (W.setCell ⟨k, 2, none⟩ (.int .i64 ((n : Int) + 1))).ownsRow W0.heap.size 9 1 (.slice fa found.length fc) found.length (strV found) := owns_kept hown fun g hg => set_other (fun e => by
    have h1 := (owns_block hown hg).2
    obtain ⟨cur, h1⟩ := h1
    rw [e, hkt] at h1
    injection h1 with h1
    injection h1 with _ h1
    exact absurd h1 (by decide))
  have hmet1 : Si (W.setCell ⟨k, 2, none⟩ (.int .i64 ((n : Int) + 1))) n2 m2 (fun l => found.contains l) := hmet.kept (set_other (by
    obtain ⟨es, c, hm⟩ := hmet.map
    exact Ne.symm (map_ne hkt hm)))
  obtain ⟨W1, hW1⟩ : ∃ w, W.setCell ⟨k, 2, none⟩ (.int .i64 ((n : Int) + 1)) = w := ⟨_, rfl⟩
  rw [hW1] at fp1 hk1 hown1 hmet1
  have i2 : W1.cell? ⟨k, 2, none⟩ = some (.int .i64 ((n : Int) + 1)) := by simp [World.cell?, hk1, KtO]
  have HF1 := Lib.hid fp1
  have HK1 := Lib.hid hk1
  have HO1 := Lib.hid hown1
  have HM1 := Lib.hid hmet1
  have hr := right_c s (by omega) W1
  unfold inclO
  obtain ⟨rb, hrb⟩ : ∃ z, rightL s = z := ⟨_, rfl⟩
  rw [hrb] at hr ⊢
  obtain ⟨o, ho⟩ : ∃ o, F s = o := ⟨_, rfl⟩
  rw [ho]
  have HOO := Lib.hid ho
  clear ho
  clear hb hp hX hkt hown hmet fp1 hk1 hown1 hmet1 hrb
  by_cases hle : n + 1 ≤ 1000
  · cases rb with
    | false =>
      rw [if_neg (by simp)]
      go_enter Tryz.func84, Tryz.ntmps84
      go_wp2_with fail
      refine hr.mono ?_
      rintro e w2 ⟨rfl, hb2⟩
      have hn := need_f w2
      clear hr
      have HF2 := Lib.hid (HF1.out.trans (Fp.of_below hb2 (Nat.le_trans HP.out.size HF1.out.size)))
      clear hb2
      go_wp2_with fail
      refine hn.mono ?_
      rintro e w3 ⟨rfl, rfl⟩
      exact ⟨rfl, rfl, HF2.out⟩
    | true =>
      rw [if_pos ⟨hle, rfl⟩]
      go_enter Tryz.func84, Tryz.ntmps84
      go_wp2_with fail
      refine hr.mono ?_
      rintro e w2 ⟨rfl, hb2⟩
      have hnd := need_t w2
      have hk2 := (hb2.block _ (lt_some HK1.out)).trans HK1.out
      have c4 : w2.cell? ⟨k, 4, none⟩ = some (.map (some m2)) := by simp [World.cell?, hk2, KtO]
      have hm2 := HM1.out.kept (hb2.block _ HM1.out.lt)
      have hl := hm2.look (s := s) (by unfold maxLen; omega)
      have HA : Hid (Below w2.heap.size w2 (w2.alloc (.cells #[] 85))) := Lib.hid (below_alloc _ _)
      have HF2 := Lib.hid (HF1.out.trans (Fp.of_below hb2 (Nat.le_trans HP.out.size HF1.out.size)))
      have HO2 := Lib.hid (owns_below HO1.out hb2)
      have HK2 := Lib.hid hk2
      have HM2 := Lib.hid hm2
      clear hr hb2 hk2 hm2
      have HFA := Lib.hid (HF2.out.trans (Fp.of_below HA.out (Nat.le_trans HP.out.size HF2.out.size)))
      have hkA := (HA.out.block _ (lt_some HK2.out)).trans HK2.out
      have hmA := HM2.out.kept (HA.out.block _ HM2.out.lt)
      have hoA := owns_below HO2.out HA.out
      obtain ⟨wA, hwA⟩ : ∃ W, w2.alloc (.cells #[] 85) = W := ⟨_, rfl⟩
      rw [hwA] at HFA hkA hmA hoA HA
      have hBA : W0.heap.size ≤ wA.heap.size := Nat.le_trans HP.out.size HFA.out.size
      cases hct : found.contains s with
      | true =>
        rw [hct] at hl
        have HCT := Lib.hid hct
        have cf := file_a (HB.out.kn (HP.out.trans (HFA.out.mono HXX.out)) hkA) (HB.out.fts (HP.out.trans (HFA.out.mono HXX.out))) hs
        have HKA := Lib.hid hkA
        have HMA := Lib.hid hmA
        have HOA := Lib.hid hoA
        have HWA := Lib.hid hwA
        rw [HOO.out] at cf
        clear hct hkA hmA hoA hwA
        go_wp2_with fail
        refine hnd.mono ?_
        rintro e w3 ⟨rfl, rfl⟩
        clear hnd
        go_wp2_with fail
        rw [HWA.out]
        refine cf.mono ?_
        rintro e w4 ⟨hq, hb4⟩
        have HF4 := Lib.hid (HFA.out.trans (Fp.of_below hb4 hBA))
        cases o with
        | none =>
          obtain rfl : e = .panicked pch := hq
          exact ⟨rfl, rfl, HF4.out⟩
        | some b =>
          obtain ⟨v, rfl, -, hv⟩ := hq
          have HV := Lib.hid hv
          have HK4 := Lib.hid ((hb4.block _ (lt_some HKA.out)).trans HKA.out)
          have HM4 := Lib.hid (HMA.out.kept (hb4.block _ HMA.out.lt))
          have HO4 := Lib.hid (owns_below HOA.out hb4)
          clear cf hb4 hv
          go_wp2_with fail
          go_ret
          refine ⟨⟨⟨_, rfl, HV.out, HOO.out⟩, ?_⟩, HF4.out⟩
          have hfo : fndO found s = found := by unfold fndO; rw [if_pos HCT.out]
          show Kw _ _ _ _ _ (n + 1) (fndO found s) _
          rw [hfo]
          exact ⟨fa, fc, n2, by rw [HK4.out]; rfl, HO4.out, HM4.out, by omega⟩
      | false =>
        rw [hct] at hl
        have HCT := Lib.hid hct
        obtain ⟨W3, hput, hm3, hg3, -⟩ := hmA.put (s := s) (by unfold maxLen; omega) (by unfold maxLen; omega)
        obtain ⟨es, cc, hmap⟩ := hmA.map
        have hk3 := (hg3.block _ (lt_some hkA) (fun e => map_ne hkA hmap (Option.some.inj e))).trans hkA
        have ho3 := owns_kept hoA fun g hg => hg3.block g (by obtain ⟨_, cur, hc⟩ := owns_block hoA hg; exact lt_some hc) (fun e => by
          obtain ⟨_, cur, hc⟩ := owns_block hoA hg
          exact map_ne hc hmap (Option.some.inj e))
        have HF3 := Lib.hid (HFA.out.trans (Fp.of_map hg3 hBA hmap))
        have hB3 : W0.heap.size ≤ W3.heap.size := Nat.le_trans HP.out.size HF3.out.size
        have cA4 : wA.cell? ⟨k, 4, none⟩ = some (.map (some m2)) := by simp [World.cell?, hkA, KtO]
        have c33 : W3.cell? ⟨k, 3, none⟩ = some (.slice fa found.length fc) := by simp [World.cell?, hk3, KtO]
        obtain ⟨a', c', W4, hrun, ho4, hg4⟩ := str_run ho3 hB3 (by omega) (p := s)
        have hA3 := below_alloc W3 (.cells #[.string (mk s)] 9)
        have hk3a := (hA3.block _ (lt_some hk3)).trans hk3
        have ho3a := owns_below ho3 hA3
        have hown3 : ∀ g, (Value.slice fa found.length fc).ownBlock = some g → W0.heap.size ≤ g ∧ ∃ cur, (W3.alloc (.cells #[.string (mk s)] 9)).heap[g]? = some (.cells cur 9 (0, 0)) := fun g hg => owns_block ho3a hg
        have hnek : some k ≠ (Value.slice fa found.length fc).ownBlock := fun e => by
          obtain ⟨_, cur, hc⟩ := hown3 k e.symm
          rw [hk3a] at hc
          injection hc with h1
          injection h1 with _ h1
          exact absurd h1 (by decide)
        have hk4 := (hg4.block _ (lt_some hk3a) hnek).trans hk3a
        obtain ⟨es3, cc3, hmap3⟩ := hm3.map
        have hm4 := (hm3.kept (hA3.block _ hm3.lt)).kept (hg4.block _ (Nat.lt_of_lt_of_le hm3.lt hA3.size) (fun e => by
          obtain ⟨_, cur, hc⟩ := hown3 m2 e.symm
          have hmap4 := (hA3.block _ hm3.lt).trans hmap3
          exact map_ne hc hmap4 rfl))
        have HF4 := Lib.hid ((HF3.out.trans (Fp.of_below hA3 hB3)).trans (Fp.of_grown hg4 (Nat.le_trans hB3 hA3.size) hown3 (by decide)))
        have z43 : W4.frozen? ⟨k, 3, none⟩ = false := by simp [World.frozen?, hk4, KtO]
        have c43 : W4.cell? ⟨k, 3, none⟩ = some (.slice fa found.length fc) := by simp [World.cell?, hk4, KtO]
        have hk5 := kto_set3 (u := .slice a' (found ++ [s]).length c') hk4
        have ho5 : (W4.setCell ⟨k, 3, none⟩ (.slice a' (found ++ [s]).length c')).ownsRow W0.heap.size 9 1 (.slice a' (found ++ [s]).length c') (found ++ [s]).length (strV (found ++ [s])) := owns_kept ho4 fun g hg => set_other (fun e => by
          obtain ⟨_, cur, h1⟩ := owns_block ho4 hg
          rw [e, hk4] at h1
          injection h1 with h1
          injection h1 with _ h1
          exact absurd h1 (by decide))
        obtain ⟨es4, cc4, hmap4⟩ := hm4.map
        have hm5 := hm4.kept (set_other (j := 3) (v := .slice a' (found ++ [s]).length c') (Ne.symm (map_ne hk4 hmap4)))
        have HF5 := Lib.hid (HF4.out.trans (Fp.set (j := 3) (u := .slice a' (found ++ [s]).length c') hk4 (by decide)))
        obtain ⟨K1, hK1⟩ : ∃ K1, found ++ [s] = K1 := ⟨_, rfl⟩
        have hKl : K1.length = found.length + 1 := by rw [← hK1]; simp
        rw [hK1] at hrun hk5 ho5 hm5 HF5
        obtain ⟨nk, hnk⟩ : ∃ nk, K1.length = nk := ⟨_, rfl⟩
        have HNK := Lib.hid hnk
        rw [hnk] at hrun hk5 ho5 hm5 HF5
        obtain ⟨W5, hW5⟩ : ∃ W, W4.setCell ⟨k, 3, none⟩ (.slice a' nk c') = W := ⟨_, rfl⟩
        rw [hW5] at hk5 ho5 hm5 HF5
        have hB5 : W0.heap.size ≤ W5.heap.size := Nat.le_trans HP.out.size HF5.out.size
        have cf := file_a (HB.out.kn (HP.out.trans (HF5.out.mono HXX.out)) hk5) (HB.out.fts (HP.out.trans (HF5.out.mono HXX.out))) hs
        rw [← hwA] at cA4 hput
        have HRUN := Lib.hid hrun
        have HK5 := Lib.hid hk5
        have HM5 := Lib.hid hm5
        have HO5 := Lib.hid ho5
        have HWA := Lib.hid hwA
        have HW5 := Lib.hid hW5
        have HK1 := Lib.hid hK1
        rw [HOO.out] at cf
        clear hct hkA hmA hoA hwA hm3 hg3 hmap hk3 ho3 ho4 hg4 hA3 hk3a ho3a hown3 hnek hk4 hmap3 hm4 hk5 ho5 hmap4 hm5 hKl hnk hK1 hrun hW5
        go_wp2_with fail
        refine hnd.mono ?_
        rintro e w3 ⟨rfl, rfl⟩
        clear hnd
        go_wp2_with (at_builtin; refine wpList_run rfl (.tmp 45) (.tmp 47) rfl rfl rfl HRUN.out ?_)
        rw [HW5.out]
        refine cf.mono ?_
        rintro e w4 ⟨hq, hb4⟩
        have HF6 := Lib.hid (HF5.out.trans (Fp.of_below hb4 hB5))
        cases o with
        | none =>
          obtain rfl : e = .panicked pch := hq
          exact ⟨rfl, rfl, HF6.out⟩
        | some b =>
          obtain ⟨v, rfl, -, hv⟩ := hq
          have HV := Lib.hid hv
          have HK6 := Lib.hid ((hb4.block _ (lt_some HK5.out)).trans HK5.out)
          have HM6 := Lib.hid (HM5.out.kept (hb4.block _ HM5.out.lt))
          have HO6 := Lib.hid (owns_below HO5.out hb4)
          clear cf hb4 hv
          go_wp2_with fail
          go_ret
          refine ⟨⟨⟨_, rfl, HV.out, HOO.out⟩, ?_⟩, HF6.out⟩
          have hfo : fndO found s = K1 := by unfold fndO; rw [if_neg (by rw [HCT.out]; simp), HK1.out]
          have hfn : (fun l => K1.contains l) = upd (fun l => found.contains l) s true := by rw [← HK1.out]; exact (has_one found s).symm
          have hln := HNK.out
          show Kw _ _ _ _ _ (n + 1) (fndO found s) _
          rw [hfo]
          subst hln
          exact ⟨a', c', n2 + 1, by rw [HK6.out]; rfl, HO6.out, by rw [hfn]; exact HM6.out, by omega⟩
  · rw [if_neg (fun e => hle e.1)]
    have d1 : decide ((n : Int) + 1 ≤ 1000) = false := decide_eq_false (by omega)
    have hn := need_f W1
    go_enter Tryz.func84, Tryz.ntmps84
    go_wp2_with fail
    refine hn.mono ?_
    rintro e w3 ⟨rfl, rfl⟩
    exact ⟨rfl, rfl, HF1.out⟩
end
end Go.Proofs.YtgledabcfonbeaaGreatDoor.Df
