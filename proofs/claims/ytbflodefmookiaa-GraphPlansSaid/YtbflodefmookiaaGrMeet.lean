/-
  WHAT making HOLDS: who is met, and who is to be walked yet.
  meet: the makers of some files are met, and sent to be walked.
-/
import Derived.Test.YtbflodefmookiaaGrKeys
import Derived.Test.YtbflodefmookiaaGrReach
import Derived.Test.YtbflodefmookiaaGrComm
import Derived.Test.YtbflodefmookiaaGrIno
namespace Go.Proofs.Ytbflodefmookiaa.Gr
open Go.RowKit Go.Maps Go.Conc Go.Proofs.Ytbflodefmookiaa Go.Proofs.Ytbflodefmookiaa.Pr

/-- all blocks of cells stand -/
def KeepC (w w' : World) : Prop := ∀ (g : Nat) C t b, w.heap[g]? = some (.cells C t b) → w'.heap[g]? = w.heap[g]?
theorem KeepC.refl (w : World) : KeepC w w := fun _ _ _ _ _ => rfl
theorem KeepC.trans {a b c : World} (h : KeepC a b) (k : KeepC b c) : KeepC a c := fun g C t x hc => by
  have h1 := h g C t x hc
  exact (k g C t x (h1.trans hc)).trans h1
theorem KeepC.below {w w' : World} (h : Below w.heap.size w w') : KeepC w w' := fun g _ _ _ hc => h.block g (lt_some hc)
theorem KeepC.t {w w' : World} (h : KeepC w w') : KeepT w w' := fun g C b hc => h g C _ b hc
theorem block_of_cell {w : World} {g j : Nat} {v : Value} (h : w.cell? ⟨g, j, none⟩ = some v) : ∃ C t b, w.heap[g]? = some (.cells C t b) := by
  unfold World.cell? at h
  cases hb : w.heap[g]? with
  | none => rw [hb] at h; simp at h
  | some o =>
    rw [hb] at h
    cases o with
    | cells C t b => exact ⟨C, t, b, rfl⟩
    | _ => simp at h
theorem Strs.keepC {w w' : World} {v : Value} {K : List Bs} (h : Strs w v K) (hk : KeepC w w') (hs : w.heap.size ≤ w'.heap.size) : Strs w' v K := by
  obtain ⟨a, c, e, hc, h⟩ := h
  refine ⟨a, c, e, hc, ?_⟩
  rcases h with h | ⟨g, off, e, hg, hcell⟩
  · exact .inl h
  · refine .inr ⟨g, off, e, by omega, fun j p hp => ?_⟩
    obtain ⟨C, t, b, hbl⟩ := block_of_cell (hcell j p hp)
    exact (cell_of_block (hk g C t b hbl)).trans (hcell j p hp)

structure Mk (w0 w : World) (gb mb nb mm c gp cap : Nat) (S Q : List Nat) : Prop where
  gbx : w.heap[gb]? = some (.cells #[.pointer (some ⟨gp, 0, none⟩)] 27 (0, 0))
  mbx : w.heap[mb]? = some (.cells #[.map (some mm)] 98 (0, 0))
  nbx : w.heap[nb]? = some (.cells #[.chan (some c)] 99 (0, 0))
  set : Is w S.length mm S
  ch : ∃ s r, w.heap[c]? = some (.chan cap (intV Q).toArray false s r false)
  bel : Below w0.heap.size w0 w
  gm : w0.heap.size ≤ mm
  gc : w0.heap.size ≤ c
section
variable {w0 w w' : World} {gb mb nb mm c gp cap : Nat} {S Q : List Nat} {x : Nat}
theorem Mk.below (h : Mk w0 w gb mb nb mm c gp cap S Q) (hb : Below w.heap.size w w') : Mk w0 w' gb mb nb mm c gp cap S Q := by
  obtain ⟨s, r, hc⟩ := h.ch
  exact ⟨(hb.block _ (lt_some h.gbx)).trans h.gbx, (hb.block _ (lt_some h.mbx)).trans h.mbx, (hb.block _ (lt_some h.nbx)).trans h.nbx, h.set.kept (hb.block _ h.set.lt), ⟨s, r, (hb.block _ (lt_some hc)).trans hc⟩, h.bel.trans (hb.mono h.bel.size), h.gm, h.gc⟩
theorem Mk.put (h : Mk w0 w gb mb nb mm c gp cap S Q) (hn : S.length ≤ 1000000) (hx : x ≤ 1000000) :
    ∃ w', (Instr.mapUpdate 98 (.map (some mm)) (.int .i64 (x : Int)) (.agg #[])).run Try.prog w = .ok () w' ∧ Mk w0 w' gb mb nb mm c gp cap (S ++ [x]) Q ∧ KeepC w w' ∧ w'.heap.size = w.heap.size := by
  obtain ⟨w', hrun, hI, hg, hsz⟩ := h.set.put (by unfold maxLen; omega) hx
  obtain ⟨es, cl, hm⟩ := h.set.map
  obtain ⟨s, r, hc⟩ := h.ch
  have hk : KeepC w w' := fun g C t b hb => hg.block g (lt_some hb) fun e => by
    have e2 := Option.some.inj e
    rw [e2, hm] at hb
    cases hb
  refine ⟨w', hrun, ⟨(hk _ _ _ _ h.gbx).trans h.gbx, (hk _ _ _ _ h.mbx).trans h.mbx, (hk _ _ _ _ h.nbx).trans h.nbx, by rw [List.length_append]; exact hI, ⟨s, r, ?_⟩, h.bel.trans ⟨hg.os, hg.tape, hg.output, hg.size, fun q hq => hg.block q (by have := h.bel.size; omega) fun e => ?_⟩, h.gm, h.gc⟩, hk, hsz⟩
  · rw [hg.block c (lt_some hc) fun e => ?_]
    · exact hc
    · have e2 := Option.some.inj e
      rw [e2, hm] at hc
      cases hc
  · have := Option.some.inj e
    have := h.gm
    omega
theorem Mk.chan (h : Mk w0 w gb mb nb mm c gp cap S Q) (Q' : List Nat) (s r : Nat) : Mk w0 (w.setChan c cap (intV Q').toArray false s r false) gb mb nb mm c gp cap S Q' ∧ KeepC w (w.setChan c cap (intV Q').toArray false s r false) := by
  obtain ⟨s0, r0, hc⟩ := h.ch
  obtain ⟨es, cl, hm⟩ := h.set.map
  have hne : ∀ g, g ≠ c → (w.setChan c cap (intV Q').toArray false s r false).heap[g]? = w.heap[g]? := fun g hg => by simp [World.setChan, Array.getElem?_setIfInBounds_ne (Ne.symm hg)]
  have hk : KeepC w (w.setChan c cap (intV Q').toArray false s r false) := fun g C t b hb => hne g fun e => by
    rw [e, hc] at hb
    cases hb
  refine ⟨⟨(hk _ _ _ _ h.gbx).trans h.gbx, (hk _ _ _ _ h.mbx).trans h.mbx, (hk _ _ _ _ h.nbx).trans h.nbx, h.set.kept (hne mm fun e => ?_), ⟨s, r, heap_setChan w c cap _ false s r false (lt_some hc)⟩, below_setChan h.bel h.gc cap _ false s r false, h.gm, h.gc⟩, hk⟩
  rw [e, hc] at hm
  cases hm
theorem intV_push (Q : List Nat) (x : Nat) : (intV Q).toArray.push (.int .i64 (x : Int)) = (intV (Q ++ [x])).toArray := by simp [intV]
theorem intV_pop (q : Nat) (Q : List Nat) : (intV (q :: Q)).toArray.extract 1 (intV (q :: Q)).toArray.size = (intV Q).toArray := by
  simp only [intV, List.map_cons, List.extract_toArray, List.size_toArray, List.length_cons, List.length_map, List.extract_eq_take_drop, List.drop_succ_cons, List.drop_zero, Nat.add_sub_cancel]
  rw [List.take_of_length_le (by simp)]
end
end Go.Proofs.Ytbflodefmookiaa.Gr
namespace Go.Proofs.Ytbflodefmookiaa.Gr
open Go.RowKit Go.Maps Go.Conc Go.Proofs.Ytbflodefmookiaa Go.Proofs.Ytbflodefmookiaa.Pr

set_option maxRecDepth 100000 in
set_option maxHeartbeats 16000000 in
theorem meet_c {w0 w : World} {gp : Nat} {ve vd : Value} {m n : Nat} {L : List Ed} {D : List Bs} {mkr : Bs → Option Nat} {gb mb nb mm c : Nat} {S Q : List Nat} {vf : Value} {K : List Bs} (hG : Gph w0 gp ve vd m n L D mkr)
    (hM : Mk w0 w gb mb nb mm c gp L.length S Q) (hK : Strs w vf K) (hKl : ∀ x ∈ K, x.length ≤ maxLen) (hlen : K.length ≤ 1000000) (hS : S.Nodup) (hlt : ∀ x ∈ S, x < L.length) (hQ : Q.length ≤ S.length) :
    Calls Try.prog 50 #[vf, .pointer (some ⟨gb, 0, none⟩), .pointer (some ⟨mb, 0, none⟩), .pointer (some ⟨nb, 0, none⟩)] w fun e w' => e = .returned (.tuple #[]) ∧ ∃ T, meetL mkr S K = S ++ T ∧ Mk w0 w' gb mb nb mm c gp L.length (S ++ T) (Q ++ T) ∧ KeepC w w' := by
  obtain ⟨aK, cK, rfl, hcK, hrK⟩ := id hK
  have HG := Lib.hid hG
  have HM := Lib.hid hM
  have HK := Lib.hid hK
  have HKL := Lib.hid hKl
  have HS := Lib.hid hS
  have HLT := Lib.hid hlt
  have HQ := Lib.hid hQ
  clear hG hM hK hKl hcK hrK hS hlt hQ
  go_enter Try.func50, Try.ntmps50
  go_step3
  go_wp2_with fail
  go_step3
  go_wp2_with fail
  go_loopw [6, 7, 8, 9, 10, 13] (fun _ _ _ _ _ i W => ∃ (j : Nat) (T : List Nat), j ≤ K.length ∧ i = .int .i64 j ∧ Hid (meetL mkr S (K.take j) = S ++ T) ∧ Hid (Mk w0 W gb mb nb mm c gp L.length (S ++ T) (Q ++ T)) ∧ Hid (KeepC w W)) (fun _ _ _ _ _ i _ => K.length - (intOf i).toNat)
  case atStart => exact ⟨0, [], Nat.zero_le _, rfl, Lib.hid (by simp [meetL]), Lib.hid (by simpa using HM.out), Lib.hid (KeepC.refl _)⟩
  case round =>
    clear HM
    obtain ⟨j, T, hj, rfl, HT, HM, HC⟩ := hrel
    by_cases hlj : j < K.length
    · have hx := List.getElem?_eq_getElem hlj
      have hsl := HKL.out _ (List.getElem_mem hlj)
      generalize K[j] = s at *
      have hsz := HM.out.bel.size
      have hGr := HG.out.below HM.out.bel
      have cm : wr.cell? ⟨gp, 2, none⟩ = some (.map (some m)) := by simp [World.cell?, hGr.box]
      have cb : wr.cell? ⟨gb, 0, none⟩ = some (.pointer (some ⟨gp, 0, none⟩)) := by simp [World.cell?, HM.out.gbx]
      have hlk := hGr.mks.look (s := s) hsl
      have hKr := HK.out
      obtain ⟨_, _, eK, _, hKr⟩ := hKr
      cases eK
      rcases hKr with h | ⟨gK, oK, rfl, hgK, hcK⟩
      · rw [h] at hlj; simp at hlj
      have s0 : wr.cell? ⟨gK, oK + j, none⟩ = some (.string (mk s)) := by
        have h1 := hcK j s hx
        obtain ⟨C, t, b, hbl⟩ := block_of_cell h1
        exact (cell_of_block (HC.out gK C t b hbl)).trans h1
      have hj0 : (0 : Int) ≤ (j : Int) := by omega
      have hj1 : (j : Int) < (K.length : Int) := by omega
      have HX := Lib.hid hx
      cases hmk : mkr s with
      | none =>
        rw [hmk] at hlk
        have hlk : (Instr.lookup 68 (.map (some m)) (.string (mk s)) true).run Try.prog wr = .ok (.tuple #[.int .i64 0, .bool false]) wr := hlk
        have HT2 : Hid (meetL mkr S (K.take (j + 1)) = S ++ T) := Lib.hid (by rw [meetL_take HX.out, meet1_none hmk]; exact HT.out)
        clear hx hGr hcK hmk HT
        go_wp2_with fail
        go_roundw
        case rel => exact ⟨j + 1, T, by omega, by go_num, HT2, HM, HC⟩
        case measure => simp [intOf]; omega
      | some n =>
        rw [hmk] at hlk
        have hlk : (Instr.lookup 68 (.map (some m)) (.string (mk s)) true).run Try.prog wr = .ok (.tuple #[.int .i64 (n : Int), .bool true]) wr := hlk
        have hn := HG.out.to s n hmk
        have hfw := HG.out.few
        have cmb : wr.cell? ⟨mb, 0, none⟩ = some (.map (some mm)) := by simp [World.cell?, HM.out.mbx]
        have hlk2 := HM.out.set.look (x := n) (by omega)
        have HMK := Lib.hid hmk
        have hA := below_alloc wr (.cells #[] 78)
        by_cases hin : n ∈ S ++ T
        · rw [decide_eq_true hin] at hlk2
          have HT2 : Hid (meetL mkr S (K.take (j + 1)) = S ++ T) := Lib.hid (by rw [meetL_take HX.out, HT.out, meet1_old hmk hin])
          have HM1 := Lib.hid (HM.out.below hA)
          have HC1 := Lib.hid (HC.out.trans (KeepC.below hA))
          clear hx hGr hcK hmk HT hin hA HM HC
          go_wp2_with fail
          go_roundw
          case rel => exact ⟨j + 1, T, by omega, by go_num, HT2, HM1, HC1⟩
          case measure => simp [intOf]; omega
        · rw [decide_eq_false hin] at hlk2
          have HT2 : Hid (meetL mkr S (K.take (j + 1)) = S ++ (T ++ [n])) := Lib.hid (by rw [meetL_take HX.out, HT.out, meet1_new hmk hin, List.append_assoc])
          have hM1 := HM.out.below hA
          have hC1 := HC.out.trans (KeepC.below hA)
          have hnd : (S ++ T ++ [n]).Nodup := by
            have := HT2.out
            rw [← List.append_assoc] at this
            rw [← this]
            exact meetL_nodup HS.out
          have hlt : ∀ x ∈ S ++ T ++ [n], x < L.length := fun x hx => by
            rw [List.append_assoc, ← HT2.out] at hx
            rcases meetL_mem.1 hx with h | ⟨s, _, h⟩
            · exact HLT.out x h
            · exact HG.out.to s x h
          have hsub := sub_len (A := S ++ T ++ [n]) (B := List.range L.length) hnd fun x hx => List.mem_range.2 (hlt x hx)
          simp only [List.length_append, List.length_range, List.length_cons, List.length_nil] at hsub
          have hQl := HQ.out
          obtain ⟨w2, hrun, hM2, hC2, hs2⟩ := hM1.put (x := n) (by rw [List.length_append]; omega) (by omega)
          obtain ⟨sn, rn, hch⟩ := hM2.ch
          obtain ⟨hM3, hC3⟩ := hM2.chan (Q ++ T ++ [n]) (sn + 1) rn
          have cmb1 : (wr.alloc (.cells #[] 78)).cell? ⟨mb, 0, none⟩ = some (.map (some mm)) := by simp [World.cell?, hM1.mbx]
          have cnb : w2.cell? ⟨nb, 0, none⟩ = some (.chan (some c)) := by simp [World.cell?, hM2.nbx]
          have hroom : (intV (Q ++ T)).toArray.size < L.length := by rw [List.size_toArray, intV_len, List.length_append]; omega
          rw [List.append_assoc, List.append_assoc] at hM3
          rw [List.append_assoc] at hC3
          obtain ⟨W3, hW3⟩ : ∃ W3, w2.setChan c L.length (intV (Q ++ (T ++ [n]))).toArray false (sn + 1) rn false = W3 := ⟨_, rfl⟩
          rw [hW3] at hM3 hC3
          have HM3 := Lib.hid hM3
          have HC3 := Lib.hid (hC1.trans (hC2.trans hC3))
          have HW3 := Lib.hid hW3
          have HCH := Lib.hid hch
          have HR := Lib.hid hroom
          clear hx hGr hcK hmk HT hin hA HM HC hM1 hC1 hnd hlt hsub hQl hM2 hC2 hs2 hch hM3 hC3 hroom hW3
          go_upto_region 8 with fail
          apply wp_region_reg
          show RegW _ _ _ [0, 1, 2] _ _
          refine RegW.value (v := .chan (some c)) (w₁ := w2) rfl rfl (by simp [go_sem, execOp, Act.eval, cnb]) ?_
          refine RegW.value (v := .int .i64 (n : Int)) (w₁ := w2) rfl rfl (by simp [go_sem, execOp, Act.eval, Act.put]) ?_
          refine RegW.send (c := c) (v := .int .i64 (n : Int)) (z' := .tuple #[]) (w₁ := w2) rfl rfl (by simp [go_sem, execOp, Act.eval, Act.put, scase]) HCH.out HR.out ?_
          rw [intV_push, List.append_assoc, HW3.out]
          refine RegW.done ?_
          simp [Exit.inBlock, Exit.then, Act.put]
          go_at_K
          go_wp2_with fail
          go_roundw
          case rel => exact ⟨j + 1, T ++ [n], by omega, by go_num, HT2, HM3, HC3⟩
          case measure => simp [intOf]; omega
    · have hje : j = K.length := by omega
      subst hje
      go_wp2_with fail
      simp only [Exit.noGoto]
      go_end0
      exact ⟨rfl, T, by have := HT.out; rwa [List.take_length] at this, HM.out, HC.out⟩
end Go.Proofs.Ytbflodefmookiaa.Gr
