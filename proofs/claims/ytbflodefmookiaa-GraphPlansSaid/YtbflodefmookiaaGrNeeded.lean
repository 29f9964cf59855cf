/-
  needed: all needs of all edges, as a set.
-/
import Derived.Test.YtbflodefmookiaaGrOwn
namespace Go.Proofs.Ytbflodefmookiaa.Gr
open Go.RowKit Go.Maps Go.Proofs.Ytbflodefmookiaa Go.Proofs.Ytbflodefmookiaa.Pr

/-- block m is a set of at most n texts: those of K -/
def Ns (w : World) (n m : Nat) (K : List Bs) : Prop := MvS w n m fun x => if x ∈ K then some (.agg #[]) else none
section
variable {w w' : World} {n m : Nat} {K : List Bs}
theorem Ns.kept (h : Ns w n m K) (hb : w'.heap[m]? = w.heap[m]?) : Ns w' n m K := MvS.kept h hb
theorem Ns.lt (h : Ns w n m K) : m < w.heap.size := MvS.lt h
theorem Ns.map (h : Ns w n m K) : ∃ es c, w.heap[m]? = some (.map es c) := by obtain ⟨f, h1, h2⟩ := h; exact h1.map
theorem Ns.made (w : World) : Ns (w.alloc (.map #[] 0)) 0 w.heap.size [] := ⟨_, Mv.made w _, fun x => by simp⟩
theorem Ns.put (h : Ns w n m K) (hn : n < maxLen) {s : Bs} (hs : s.length ≤ maxLen) :
    ∃ w', (Instr.mapUpdate 76 (.map (some m)) (.string (mk s)) (.agg #[])).run Try.prog w = .ok () w' ∧ Ns w' (n + 1) m (K ++ [s]) ∧ w.grownBy w' (some m) := by
  obtain ⟨f, h1, h2⟩ := h
  obtain ⟨w', hrun, h3, h4, h5⟩ := h1.put lawS Try.underlying76 hn (keyS hs) (.agg #[])
  refine ⟨w', hrun, ⟨_, h3, fun x => ?_⟩, h4⟩
  by_cases e : x = s
  · subst e
    show _ = if x ∈ K ++ [x] then some (Value.agg #[]) else none
    rw [updL_same, if_pos (by simp)]
  · have hne : Lit.string x ≠ Lit.string s := fun e2 => e (by injection e2)
    show _ = if x ∈ K ++ [s] then some (Value.agg #[]) else none
    rw [updL_ne _ _ hne, h2]
    show (if x ∈ K then some (Value.agg #[]) else none) = _
    have : x ∈ K ++ [s] ↔ x ∈ K := by simp [e]
    by_cases hk : x ∈ K
    · rw [if_pos hk, if_pos (this.2 hk)]
    · rw [if_neg hk, if_neg fun h => hk (this.1 h)]
end
theorem zeroA (w : World) : (zeroValue 78).run Try.prog w = .ok (.agg #[]) w := by kernel_rfl
theorem Ns.look {w : World} {n m : Nat} {K : List Bs} (h : Ns w n m K) {s : Bs} (hs : s.length ≤ maxLen) :
    (Instr.lookup 76 (.map (some m)) (.string (mk s)) true).run Try.prog w = .ok (.tuple #[.agg #[], .bool (decide (s ∈ K))]) w := by
  obtain ⟨f, h1, h2⟩ := h
  rw [h1.look lawS Try.underlying76 (zeroA w) (keyS hs), h2]
  by_cases hk : s ∈ K <;> simp [hk]
theorem flat_needs {L : List Ed} {j : Nat} {x : Ed} (h : L[j]? = some x) : (L.take (j + 1)).flatMap needsL = (L.take j).flatMap needsL ++ needsL x := by
  rw [List.take_add_one, h]
  simp

set_option maxRecDepth 100000 in
set_option maxHeartbeats 16000000 in
theorem needed_c {w : World} {gp : Nat} {ve vd : Value} {m n : Nat} {L : List Ed} {D : List Bs} {mkr : Bs → Option Nat} (hG : Gph w gp ve vd m n L D mkr) :
    Calls Try.prog 40 #[.pointer (some ⟨gp, 0, none⟩)] w fun e w' => ∃ mm k, e = .returned (.map (some mm)) ∧ Ns w' k mm (L.flatMap needsL) ∧ Below w.heap.size w w' := by
  have hmk := @run_makeMap Try.prog
  have hA := below_alloc w (.map #[] 0)
  have hN := Ns.made w
  have hG1 := hG.below hA
  obtain ⟨aE, cE, rfl, hcE, hrE⟩ := id hG.ed
  have c0 : (w.alloc (.map #[] 0)).cell? ⟨gp, 0, none⟩ = some (.slice aE L.length cE) := by simp [World.cell?, hG1.box]
  obtain ⟨w1, hw1⟩ : ∃ w1, w.alloc (.map #[] 0) = w1 := ⟨_, rfl⟩
  obtain ⟨mm, hmm⟩ : ∃ mm, w.heap.size = mm := ⟨_, rfl⟩
  rw [hw1] at hA hN hG1 c0
  rw [hmm] at hN
  have HG := Lib.hid hG
  have HA : Hid (Below w.heap.size w w1) := Lib.hid hA
  have HN := Lib.hid hN
  have HMM := Lib.hid (Nat.le_of_eq hmm)
  have HSM : Hid (∀ e ∈ L, (needsL e).length ≤ 30 ∧ ∀ x ∈ needsL e, x.length ≤ 200) := Lib.hid fun e he => by
    have h := hG.small e he
    refine ⟨by have := h.i; have := h.m; have := h.r; simp [needsL]; omega, fun x hx => ?_⟩
    simp only [needsL, List.mem_append] at hx
    rcases hx with (hx | hx) | hx
    · exact h.xi x hx
    · exact h.xm x hx
    · exact h.xr x hx
  have hfw := hG.few
  have HFW := Lib.hid hfw
  clear hG hA hN hG1 hcE hrE hfw
  go_enter Try.func40, Try.ntmps40
  go_wp2_with fail
  clear hmk c0 hw1 hmm
  go_loopw [5, 7, 14] (fun _ _ i W => ∃ (j k : Nat), j ≤ L.length ∧ i = .int .i64 j ∧ Hid (Ns W k mm ((L.take j).flatMap needsL)) ∧ Hid (Below w.heap.size w W) ∧ k ≤ 30 * j) (fun _ _ i _ => L.length - (intOf i).toNat)
  case atStart => exact ⟨0, 0, Nat.zero_le _, rfl, Lib.hid (by simpa using HN.out), HA, by omega⟩
  case round =>
    clear HN HA w1
    obtain ⟨j, k, hj, rfl, HN, HB, hk⟩ := hrel
    by_cases hlt : j < L.length
    · have hx := List.getElem?_eq_getElem hlt
      have hsm := HSM.out _ (List.getElem_mem hlt)
      have hsE := HG.out.small _ (List.getElem_mem hlt)
      have hfl := flat_needs hx
      generalize L[j] = x at *
      have hGr := HG.out.below HB.out
      obtain ⟨ge, off, ce, v0, v1, v2, v3, e, hge, hE, r0, r1, r2, r3, r4, r5⟩ := hGr.ed.at hx
      cases e
      obtain ⟨y0, z0, y1, z1, y2, z2, y3, z3, rfl, rfl, rfl, rfl⟩ := hE.sl
      have hB6 := below_alloc wr (.cells #[.slice y0 x.outs.length z0, .slice y1 x.ins.length z1, .slice y2 x.imp.length z2, .slice y3 x.ord.length z3, .string (mk x.cmd), .string (mk x.dep)] 52)
      have hS6 := heap_alloc_new wr (.cells #[.slice y0 x.outs.length z0, .slice y1 x.ins.length z1, .slice y2 x.imp.length z2, .slice y3 x.ord.length z3, .string (mk x.cmd), .string (mk x.dep)] 52)
      obtain ⟨W6, hW6⟩ : ∃ W6, wr.alloc (.cells #[.slice y0 x.outs.length z0, .slice y1 x.ins.length z1, .slice y2 x.imp.length z2, .slice y3 x.ord.length z3, .string (mk x.cmd), .string (mk x.dep)] 52) = W6 := ⟨_, rfl⟩
      rw [hW6] at hB6 hS6
      have HW6 := Lib.hid hW6
      obtain ⟨q, hq⟩ : ∃ q, wr.heap.size = q := ⟨_, rfl⟩
      have hn := needs_c (hE.below hB6) (by have := hsE.i; omega) (by have := hsE.m; omega) (by have := hsE.r; omega)
      rw [hq] at hS6
      obtain ⟨d0, d1, d2, d3, d4, d5⟩ : W6.cell? ⟨q, 0, none⟩ = some (.slice y0 x.outs.length z0) ∧ W6.cell? ⟨q, 1, none⟩ = some (.slice y1 x.ins.length z1) ∧ W6.cell? ⟨q, 2, none⟩ = some (.slice y2 x.imp.length z2) ∧ W6.cell? ⟨q, 3, none⟩ = some (.slice y3 x.ord.length z3) ∧ W6.cell? ⟨q, 4, none⟩ = some (.string (mk x.cmd)) ∧ W6.cell? ⟨q, 5, none⟩ = some (.string (mk x.dep)) := by
        refine ⟨?_, ?_, ?_, ?_, ?_, ?_⟩ <;> (rw [Lib.cell_of_heap hS6]; rfl)
      have HB6 := Lib.hid (show Below w.heap.size w W6 ∧ Ns W6 k mm ((L.take j).flatMap needsL) from ⟨HB.out.trans (hB6.mono HB.out.size), HN.out.kept (hB6.block _ HN.out.lt)⟩)
      have hi0 : (0 : Int) ≤ (j : Int) := by omega
      have hi1 : (j : Int) < (L.length : Int) := by omega
      have HSX := Lib.hid hsm
      have HFL := Lib.hid hfl
      have hKn : x.ins ++ x.imp ++ x.ord = needsL x := rfl
      rw [hKn] at hn
      obtain ⟨K, hK⟩ : ∃ K, needsL x = K := ⟨_, rfl⟩
      rw [hK] at hn HFL HSX
      obtain ⟨A, hAA⟩ : ∃ A, (L.take j).flatMap needsL = A := ⟨_, rfl⟩
      rw [hAA] at HB6 HFL
      have HQ := Lib.hid hq
      clear hx hsm hsE hfl hGr hE hB6 hS6 hW6 hKn hK hAA HB HN
      go_upto_region 5 with fail
      rw [HW6.out]
      clear r0 r1 r2 r3 r4 r5 hq
      go_wp2_with fail
      refine hn.mono ?_
      rintro e w1 ⟨vN, rfl, hS, hb⟩
      have HB1 := Lib.hid (HB6.out.1.trans (hb.mono HB6.out.1.size))
      have HN1 := Lib.hid (HB6.out.2.kept (hb.block _ HB6.out.2.lt))
      have HS := Lib.hid hS
      obtain ⟨⟨aN, cN, rfl, -, -⟩, -⟩ := id hS
      clear hn hb hS d0 d1 d2 d3 d4 d5 HB6
      go_wp2_with fail
      go_loopw [7, 21] (fun _ i W => ∃ (j2 k2 : Nat), j2 ≤ K.length ∧ i = .int .i64 j2 ∧ Hid (Ns W k2 mm (A ++ K.take j2)) ∧ Hid (Below w.heap.size w W) ∧ Hid (KeepT w1 W) ∧ k2 ≤ 30 * j + j2) (fun _ i _ => K.length - (intOf i).toNat)
      case atStart => exact ⟨0, k, Nat.zero_le _, rfl, Lib.hid (by simpa using HN1.out), HB1, Lib.hid (KeepT.refl _), by omega⟩
      case round =>
        clear HN1 HB1
        obtain ⟨j2, k2, hj2, rfl, HN, HB, HKT, hk2⟩ := hrel
        by_cases hlj : j2 < K.length
        · have hx := List.getElem?_eq_getElem hlj
          have hsl := HSX.out.2 _ (List.getElem_mem hlj)
          have hKl := HSX.out.1
          have htk : K.take (j2 + 1) = K.take j2 ++ [K[j2]] := by rw [List.take_add_one, hx]; rfl
          generalize K[j2] = s at *
          have hSr := (HS.out.keepT fun g C fr hc => HKT.out g C fr hc).1
          obtain ⟨_, _, eS, _, hSr⟩ := hSr
          cases eS
          rcases hSr with h | ⟨gS, oS, rfl, hgS, hcS⟩
          · rw [h] at hlj; simp at hlj
          have s0 := hcS j2 s hx
          have hfw := HFW.out
          obtain ⟨W4, hr4, hN4, hg4⟩ := HN.out.put (by unfold maxLen; omega) (s := s) (by unfold maxLen; omega)
          rw [List.append_assoc, ← htk] at hN4
          have HN4 := Lib.hid hN4
          have HKT4 := Lib.hid (HKT.out.trans (KeepT.map hg4 HN.out.map))
          have HB4 := Lib.hid (show Below w.heap.size w W4 from HB.out.trans ⟨hg4.os, hg4.tape, hg4.output, hg4.size, fun g hg => hg4.block g (by have := HB.out.size; omega) fun e => by
            have h1 := Option.some.inj e
            have h2 := HMM.out
            omega⟩)
          have hj0 : (0 : Int) ≤ (j2 : Int) := by omega
          have hj1 : (j2 : Int) < (K.length : Int) := by omega
          clear hx hcS htk hN4 hg4 HN HKT HB
          go_wp2_with fail
          go_roundw
          case rel => exact ⟨j2 + 1, k2 + 1, by omega, by go_num, HN4, HB4, HKT4, by omega⟩
          case measure => simp [intOf] <;> omega
        · obtain rfl : j2 = K.length := by omega
          rw [List.take_length] at HN
          rw [← HFL.out] at HN
          have hKl := HSX.out.1
          have hfw := HFW.out
          go_wp2_with fail
          go_roundw
          case rel => exact ⟨j + 1, k2, by omega, by go_num, HN, HB, by omega⟩
          case measure => simp [intOf] <;> omega
    · obtain rfl : j = L.length := by omega
      rw [List.take_length] at HN
      go_wp2_with fail
      go_ret
      exact ⟨_, _, rfl, HN.out, HB.out⟩
end Go.Proofs.Ytbflodefmookiaa.Gr
