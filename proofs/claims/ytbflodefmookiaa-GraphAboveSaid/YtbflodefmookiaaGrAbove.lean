/-
  Above: the outputs of all below which an edge stands, rising.
-/
import Derived.Test.YtbflodefmookiaaGrSortS
import Derived.Test.YtbflodefmookiaaGrEdge
import Derived.Test.YtbflodefmookiaaGrUniq
import Derived.Test.YtbflodefmookiaaGrMaking
import Derived.Test.YtbflodefmookiaaGwFew
namespace Go.Proofs.Ytbflodefmookiaa.Gr
open Go.RowKit Go.Maps Go.Proofs.Ytbflodefmookiaa Go.Proofs.Ytbflodefmookiaa.Pr

section
variable {mkr : Bs → Option Nat} {L : List Ed} {K : List Bs} {n x : Nat} {e : Ed}
theorem reach_needs (he : L[n]? = some e) : Reach mkr L (needsL e) x ↔ Tc (depsL mkr L) n x := by
  have hd : ∀ d, d ∈ depsL mkr L n ↔ ∃ s ∈ needsL e, mkr s = some d := fun d => by
    unfold depsL
    rw [he]
    exact List.mem_filterMap
  constructor
  · intro h
    induction h with
    | base hs hm => exact .one ((hd _).2 ⟨_, hs, hm⟩)
    | step _ h ih => exact ih.trans (.one h)
  · intro h
    have key : ∀ i j, Tc (depsL mkr L) i j → Reach mkr L (needsL e) i → Reach mkr L (needsL e) j := fun i j h => by
      induction h with
      | one h => exact fun hr => .step hr h
      | more h _ ih => exact fun hr => ih (.step hr h)
    cases h with
    | one h =>
      obtain ⟨s, hs, hm⟩ := (hd _).1 h
      exact .base hs hm
    | more h h2 =>
      obtain ⟨s, hs, hm⟩ := (hd _).1 h
      exact key _ _ h2 (.base hs hm)
end
/-- the outputs of some edges, one behind the other -/
def outsOf (L : List Ed) (M : List Nat) : List Bs := M.flatMap fun n => match L[n]? with | some e => e.outs | none => []
theorem outsOf_take {L : List Ed} {M : List Nat} {j n : Nat} {e : Ed} (h : M[j]? = some n) (he : L[n]? = some e) : outsOf L (M.take (j + 1)) = outsOf L (M.take j) ++ e.outs := by
  unfold outsOf
  rw [List.take_add_one, h]
  simp [he]
theorem outsOf_mem {L : List Ed} {M : List Nat} {s : Bs} : s ∈ outsOf L M ↔ ∃ n ∈ M, ∃ e, L[n]? = some e ∧ s ∈ e.outs := by
  unfold outsOf
  rw [List.mem_flatMap]
  constructor
  · rintro ⟨n, hn, hs⟩
    cases he : L[n]? with
    | none => rw [he] at hs; cases hs
    | some e => rw [he] at hs; exact ⟨n, hn, e, he, hs⟩
  · rintro ⟨n, hn, e, he, hs⟩
    exact ⟨n, hn, by rw [he]; exact hs⟩
theorem outsOf_nodup {L : List Ed} {mkr : Bs → Option Nat} (hm : makers L = some mkr) : ∀ {M : List Nat}, M.Nodup → (outsOf L M).Nodup
  | [], _ => by simp [outsOf]
  | a :: M, h => by
    obtain ⟨h1, h2⟩ := List.nodup_cons.1 h
    have ih := outsOf_nodup hm h2
    show ((match L[a]? with | some e => e.outs | none => []) ++ outsOf L M).Nodup
    cases he : L[a]? with
    | none => simpa using ih
    | some e =>
      refine List.nodup_append.2 ⟨?_, ih, fun p hp q hq e2 => ?_⟩
      · have := makers_nd hm
        have hsub : e.outs.Sublist (allOuts L) := by
          rw [allOuts, List.flatMap_def]
          exact List.sublist_flatten_of_mem (List.mem_map.2 ⟨e, List.mem_of_getElem? he, rfl⟩)
        exact this.sublist hsub
      · subst e2
        obtain ⟨n, hn, e4, he4, hs4⟩ := outsOf_mem.1 hq
        have h5 := (makers_iff hm p a).2 ⟨e, he, hp⟩
        have h6 := (makers_iff hm p n).2 ⟨e4, he4, hs4⟩
        rw [h5] at h6
        cases h6
        exact h1 hn

set_option maxRecDepth 100000 in
set_option maxHeartbeats 16000000 in
theorem above_c {w : World} {gp : Nat} {ve vd : Value} {m n : Nat} {L : List Ed} {D : List Bs} {mkr : Bs → Option Nat} (hG : Gph w gp ve vd m n L D mkr) (hm : makers L = some mkr) {j : Nat} {x : Ed} (hx : L[j]? = some x) :
    Calls Try.prog 30 #[.pointer (some ⟨gp, 0, none⟩), .int .i64 (j : Int)] w fun e w' => ∃ v K, e = .returned v ∧ Rising K (fun s => ∃ i e, Tc (depsL mkr L) j i ∧ L[i]? = some e ∧ s ∈ e.outs) ∧ StrsT w' v K ∧ K.length ≤ 10 * L.length ∧ Below w.heap.size w w' := by
  have hor := orNone_c (w := w) (ad := ⟨gp, 0, none⟩)
  have hed := edge_c hG hx
  have hsE := hG.small x (List.mem_of_getElem? hx)
  have HG := Lib.hid hG
  have HM := Lib.hid hm
  have HX := Lib.hid hx
  have HSE := Lib.hid hsE
  clear hG hm hx hsE
  go_enter Try.func30, Try.ntmps30
  go_wp2_with fail
  refine hor.mono ?_
  rintro e w1 ⟨rfl, rfl⟩
  clear hor
  go_wp2_with fail
  refine hed.mono ?_
  rintro e w1 ⟨q0, q1, q2, q3, rfl, hET, hb1⟩
  have hE : EdV w1 x q0 q1 q2 q3 := ⟨hET.o.1, hET.i.1, hET.m.1, hET.r.1⟩
  have hn := needs_c hE (by have := HSE.out.i; omega) (by have := HSE.out.m; omega) (by have := HSE.out.r; omega)
  have HB1 := Lib.hid hb1
  clear hed hET hb1 hE
  go_wp2_with fail
  refine hn.mono ?_
  rintro e w2 ⟨vN, rfl, hS, hb2⟩
  have HB2 := Lib.hid (HB1.out.trans (hb2.mono HB1.out.size))
  have hmk := making_c (HG.out.below HB2.out) hS.1 (fun y hy => by
    simp only [List.mem_append] at hy
    have : y.length ≤ 200 := by
      rcases hy with (hy | hy) | hy
      · exact HSE.out.xi y hy
      · exact HSE.out.xm y hy
      · exact HSE.out.xr y hy
    unfold maxLen
    omega) (by have := HSE.out.i; have := HSE.out.m; have := HSE.out.r; simp; omega)
  clear hn hS hb2
  go_wp2_with fail
  refine hmk.mono ?_
  rintro e w3 ⟨vM, M, rfl, hR, hP, hMe, hb3⟩
  have HB3 := Lib.hid (HB2.out.trans (hb3.mono HB2.out.size))
  obtain ⟨⟨aM, cM, rfl⟩, -⟩ := id hR
  have hMl : ∀ y ∈ M, y < L.length := fun y hy => ((hMe y).1 hy).lt HG.out.to
  have hMn : M.Nodup := hP.imp fun h => Nat.ne_of_lt h
  have hML : M.length ≤ 1000 := by
    have := sub_len (A := M) (B := List.range L.length) hMn fun y hy => List.mem_range.2 (hMl y hy)
    rw [List.length_range] at this
    have := HG.out.few
    omega
  have HME : Hid (∀ y, y ∈ M ↔ Tc (depsL mkr L) j y) := Lib.hid fun y => (hMe y).trans (reach_needs HX.out)
  have HMN := Lib.hid hMn
  have HML := Lib.hid hMl
  have HR := Lib.hid hR
  have HFW := Lib.hid HG.out.few
  clear hmk hR hP hMe hb3 hMl hMn
  go_wp2_with fail
  go_loopw [5, 7, 17] (fun v _ i W => ∃ (t : Nat) (A : List Bs) (aA : Option Addr) (cA : Nat), t ≤ M.length ∧ i = .int .i64 t ∧ v = .slice aA A.length cA ∧ Hid (A = outsOf L (M.take t)) ∧ A.length ≤ 10 * t ∧ Hid (W.ownsRow w3.heap.size 9 1 (.slice aA A.length cA) A.length (strV A)) ∧ Hid (Below w3.heap.size w3 W)) (fun _ _ i _ => M.length - (intOf i).toNat)
  case atStart => exact ⟨0, [], none, 0, Nat.zero_le _, rfl, rfl, Lib.hid rfl, by simp, Lib.hid (World.ownsRow_nil _ _ _ _), Lib.hid (Below.refl _ _)⟩
  case round =>
    obtain ⟨t, A, aA, cA, ht, rfl, rfl, HA, hAl, HO, HB⟩ := hrel
    by_cases hlt : t < M.length
    · have hy := List.getElem?_eq_getElem hlt
      have hyl := HML.out _ (List.getElem_mem hlt)
      generalize M[t] = y at *
      have hye := List.getElem?_eq_getElem hyl
      generalize L[y] = ed at *
      have hsd := HG.out.small ed (List.mem_of_getElem? hye)
      have hGr := HG.out.below (HB3.out.trans (HB.out.mono HB3.out.size))
      obtain ⟨ge, off, ce, v0, v1, v2, v3, rfl, hge, hE, r0, r1, r2, r3, r4, r5⟩ := hGr.ed.at hye
      have c0 : wr.cell? ⟨gp, 0, none⟩ = some (.slice (some ⟨ge, off, none⟩) L.length ce) := by simp [World.cell?, hGr.box]
      obtain ⟨y0, z0, y1, z1, y2, z2, y3, z3, rfl, rfl, rfl, rfl⟩ := hE.sl
      obtain ⟨a', c', W', hrun, hown, hg⟩ := run_appK HO.out HB.out.size hE.o (by have := hsd.o; omega)
      have HA2 : Hid (A ++ ed.outs = outsOf L (M.take (t + 1))) := Lib.hid (by rw [outsOf_take hy hye, HA.out])
      have HO2 := Lib.hid hown
      have HBB : Hid (Below w3.heap.size w3 W') := Lib.hid (HB.out.trans ⟨hg.os, hg.tape, hg.output, hg.size, fun q hq => hg.block q (by have := HB.out.size; omega) fun e => by
        have := (owns_block HO.out e.symm).1
        omega⟩)
      have HLN : Hid ((A ++ ed.outs).length = A.length + ed.outs.length ∧ ed.outs.length ≤ 10) := Lib.hid ⟨List.length_append, hsd.o⟩
      obtain ⟨_, _, eR, hRr⟩ := (HR.out.below (HB.out.mono (Nat.le_refl _))).read
      cases eR
      rcases hRr with h | ⟨gM, oM, rfl, hgM, hcM⟩
      · rw [h] at hlt; simp at hlt
      have m0 := hcM t _ hy
      have hi0 : (0 : Int) ≤ (t : Int) := by omega
      have hi1 : (t : Int) < (M.length : Int) := by omega
      have hy0 : (0 : Int) ≤ (y : Int) := by omega
      have hy1 : (y : Int) < (L.length : Int) := by omega
      clear hy hye hsd hGr hE hge hcM hown hg HO
      go_wp2_with (at_builtin; refine wpList_run rfl (.tmp 21) (.tmp 29) rfl rfl rfl hrun ?_)
      clear hrun m0 c0 r0 r1 r2 r3 r4 r5
      go_roundw
      case rel => exact ⟨t + 1, A ++ ed.outs, a', c', by omega, by go_num, by rw [HLN.out.1], HA2, by have := HLN.out; omega, HO2, HBB⟩
      case measure => simp [intOf]; omega
    · obtain rfl : t = M.length := by omega
      have hso := sortS_c HO.out (by omega)
      have hAn : A.Nodup := by rw [HA.out, List.take_length]; exact outsOf_nodup HM.out HMN.out
      have HRI : Hid (Rising (srt A) (fun s => ∃ i e, Tc (depsL mkr L) j i ∧ L[i]? = some e ∧ s ∈ e.outs)) := Lib.hid (sorted_rising hAn fun s => by
        rw [HA.out, List.take_length, outsOf_mem]
        constructor
        · rintro ⟨i, hi, e, he, hs⟩
          exact ⟨i, e, (HME.out i).1 hi, he, hs⟩
        · rintro ⟨i, e, hi, he, hs⟩
          exact ⟨i, (HME.out i).2 hi, e, he, hs⟩)
      have HBW := Lib.hid (HB3.out.trans (HB.out.mono HB3.out.size))
      have HLL : Hid (A.length ≤ 10 * L.length) := Lib.hid (by
        have := sub_len (A := M) (B := List.range L.length) HMN.out fun y hy => List.mem_range.2 (HML.out y hy)
        rw [List.length_range] at this
        omega)
      clear hAn
      go_wp2_with fail
      refine hso.mono ?_
      rintro e w5 ⟨rfl, hown, hg⟩
      have HST := Lib.hid (owns_strsT (by rw [srt_len]; exact hown : w5.ownsRow w3.heap.size 9 1 (.slice aA A.length cA) (srt A).length (strV (srt A))))
      have HBF : Hid (Below w.heap.size w w5) := Lib.hid (HBW.out.trans ⟨hg.os, hg.tape, hg.output, hg.size, fun q hq => hg.block q (by have := HBW.out.size; omega) fun e => by
        have h1 := (owns_block HO.out e.symm).1
        have h2 := HB3.out.size
        omega⟩)
      clear hso hown hg
      go_wp2_with fail
      go_ret
      exact ⟨_, srt A, rfl, HRI.out, HST.out, by rw [srt_len]; exact HLL.out, HBF.out⟩
end Go.Proofs.Ytbflodefmookiaa.Gr
