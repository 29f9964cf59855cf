/-
  meet: the makers of some files are met, and sent to be walked.
-/
import Derived.Test.YtbflodefmookiaaGrMeetM
namespace Go.Proofs.Ytbflodefmookiaa.Gr
open Go.RowKit Go.Maps Go.Conc Go.Proofs.Ytbflodefmookiaa Go.Proofs.Ytbflodefmookiaa.Pr

set_option maxRecDepth 100000 in
set_option maxHeartbeats 16000000 in
theorem meet_c {w0 w : World} {gp : Nat} {ve vd : Value} {m n : Nat} {L : List Ed} {D : List Bs} {mkr : Bs → Option Nat} {gb mb nb mm c : Nat} {S Q : List Nat} {vf : Value} {K : List Bs} (hG : Gph w0 gp ve vd m n L D mkr)
    (hM : Mk w0 w gb mb nb mm c gp L.length S Q) (hK : Strs w vf K) (hKl : ∀ x ∈ K, x.length ≤ maxLen) (hlen : K.length ≤ 1000000) (hS : S.Nodup) (hlt : ∀ x ∈ S, x < L.length) (hQ : Q.length ≤ S.length) :
    Calls Try.prog 50 #[vf, .pointer (some ⟨gb, 0, none⟩), .pointer (some ⟨mb, 0, none⟩), .pointer (some ⟨nb, 0, none⟩)] w fun e w' => e = .returned (.tuple #[]) ∧ ∃ T, meetL mkr S K = S ++ T ∧ Mk w0 w' gb mb nb mm c gp L.length (S ++ T) (Q ++ T) ∧ KeepC w w' := by
  obtain ⟨aK, cK, rfl, hcK, hrK⟩ := id hK
  have HG := Lib.hid hG
  have HM := Lib.hid hM
  have HK := Lib.hid hK
  have HKL := Lib.hid hKl
  have HS := Lib.hid hS
  have HLT := Lib.hid hlt
  have HQ := Lib.hid hQ
  clear hG hM hK hKl hcK hrK hS hlt hQ
  go_enter Try.func50, Try.ntmps50
  go_step3
  go_wp2_with fail
  go_step3
  go_wp2_with fail
  go_loopw [6, 7, 8, 9, 10, 13] (fun _ _ _ _ _ i W => ∃ (j : Nat) (T : List Nat), j ≤ K.length ∧ i = .int .i64 j ∧ Hid (meetL mkr S (K.take j) = S ++ T) ∧ Hid (Mk w0 W gb mb nb mm c gp L.length (S ++ T) (Q ++ T)) ∧ Hid (KeepC w W)) (fun _ _ _ _ _ i _ => K.length - (intOf i).toNat)
  case atStart => exact ⟨0, [], Nat.zero_le _, rfl, Lib.hid (by simp [meetL]), Lib.hid (by simpa using HM.out), Lib.hid (KeepC.refl _)⟩
  case round =>
    clear HM
    obtain ⟨j, T, hj, rfl, HT, HM, HC⟩ := hrel
    by_cases hlj : j < K.length
    · have hx := List.getElem?_eq_getElem hlj
      have hsl := HKL.out _ (List.getElem_mem hlj)
      generalize K[j] = s at *
      have hsz := HM.out.bel.size
      have hGr := HG.out.below HM.out.bel
      have cm : wr.cell? ⟨gp, 2, none⟩ = some (.map (some m)) := by simp [World.cell?, hGr.box]
      have cb : wr.cell? ⟨gb, 0, none⟩ = some (.pointer (some ⟨gp, 0, none⟩)) := by simp [World.cell?, HM.out.gbx]
      have hlk := hGr.mks.look (s := s) hsl
      have hKr := HK.out
      obtain ⟨_, _, eK, _, hKr⟩ := hKr
      cases eK
      rcases hKr with h | ⟨gK, oK, rfl, hgK, hcK⟩
      · rw [h] at hlj; simp at hlj
      have s0 : wr.cell? ⟨gK, oK + j, none⟩ = some (.string (mk s)) := by
        have h1 := hcK j s hx
        obtain ⟨C, t, b, hbl⟩ := block_of_cell h1
        exact (cell_of_block (HC.out gK C t b hbl)).trans h1
      have hj0 : (0 : Int) ≤ (j : Int) := by omega
      have hj1 : (j : Int) < (K.length : Int) := by omega
      have HX := Lib.hid hx
      cases hmk : mkr s with
      | none =>
        rw [hmk] at hlk
        have hlk : (Instr.lookup 68 (.map (some m)) (.string (mk s)) true).run Try.prog wr = .ok (.tuple #[.int .i64 0, .bool false]) wr := hlk
        have HT2 : Hid (meetL mkr S (K.take (j + 1)) = S ++ T) := Lib.hid (by rw [meetL_take HX.out, meet1_none hmk]; exact HT.out)
        clear hx hGr hcK hmk HT
        go_wp2_with fail
        go_roundw
        case rel => exact ⟨j + 1, T, by omega, by go_num, HT2, HM, HC⟩
        case measure => simp [intOf]; omega
      | some n =>
        rw [hmk] at hlk
        have hlk : (Instr.lookup 68 (.map (some m)) (.string (mk s)) true).run Try.prog wr = .ok (.tuple #[.int .i64 (n : Int), .bool true]) wr := hlk
        have hn := HG.out.to s n hmk
        have hfw := HG.out.few
        have cmb : wr.cell? ⟨mb, 0, none⟩ = some (.map (some mm)) := by simp [World.cell?, HM.out.mbx]
        have hlk2 := HM.out.set.look (x := n) (by omega)
        have HMK := Lib.hid hmk
        have hA := below_alloc wr (.cells #[] 78)
        by_cases hin : n ∈ S ++ T
        · rw [decide_eq_true hin] at hlk2
          have HT2 : Hid (meetL mkr S (K.take (j + 1)) = S ++ T) := Lib.hid (by rw [meetL_take HX.out, HT.out, meet1_old hmk hin])
          have HM1 := Lib.hid (HM.out.below hA)
          have HC1 := Lib.hid (HC.out.trans (KeepC.below hA))
          clear hx hGr hcK hmk HT hin hA HM HC
          go_wp2_with fail
          go_roundw
          case rel => exact ⟨j + 1, T, by omega, by go_num, HT2, HM1, HC1⟩
          case measure => simp [intOf]; omega
        · rw [decide_eq_false hin] at hlk2
          have HT2 : Hid (meetL mkr S (K.take (j + 1)) = S ++ (T ++ [n])) := Lib.hid (by rw [meetL_take HX.out, HT.out, meet1_new hmk hin, List.append_assoc])
          have hM1 := HM.out.below hA
          have hC1 := HC.out.trans (KeepC.below hA)
          have hnd : (S ++ T ++ [n]).Nodup := by
            have := HT2.out
            rw [← List.append_assoc] at this
            rw [← this]
            exact meetL_nodup HS.out
          have hlt : ∀ x ∈ S ++ T ++ [n], x < L.length := fun x hx => by
            rw [List.append_assoc, ← HT2.out] at hx
            rcases meetL_mem.1 hx with h | ⟨s, _, h⟩
            · exact HLT.out x h
            · exact HG.out.to s x h
          have hsub := sub_len (A := S ++ T ++ [n]) (B := List.range L.length) hnd fun x hx => List.mem_range.2 (hlt x hx)
          simp only [List.length_append, List.length_range, List.length_cons, List.length_nil] at hsub
          have hQl := HQ.out
          obtain ⟨w2, hrun, hM2, hC2, hs2⟩ := hM1.put (x := n) (by rw [List.length_append]; omega) (by omega)
          obtain ⟨sn, rn, hch⟩ := hM2.ch
          obtain ⟨hM3, hC3⟩ := hM2.chan (Q ++ T ++ [n]) (sn + 1) rn
          have cmb1 : (wr.alloc (.cells #[] 78)).cell? ⟨mb, 0, none⟩ = some (.map (some mm)) := by simp [World.cell?, hM1.mbx]
          have cnb : w2.cell? ⟨nb, 0, none⟩ = some (.chan (some c)) := by simp [World.cell?, hM2.nbx]
          have hroom : (intV (Q ++ T)).toArray.size < L.length := by rw [List.size_toArray, intV_len, List.length_append]; omega
          rw [List.append_assoc, List.append_assoc] at hM3
          rw [List.append_assoc] at hC3
          obtain ⟨W3, hW3⟩ : ∃ W3, w2.setChan c L.length (intV (Q ++ (T ++ [n]))).toArray false (sn + 1) rn false = W3 := ⟨_, rfl⟩
          rw [hW3] at hM3 hC3
          have HM3 := Lib.hid hM3
          have HC3 := Lib.hid (hC1.trans (hC2.trans hC3))
          have HW3 := Lib.hid hW3
          have HCH := Lib.hid hch
          have HR := Lib.hid hroom
          clear hx hGr hcK hmk HT hin hA HM HC hM1 hC1 hnd hlt hsub hQl hM2 hC2 hs2 hch hM3 hC3 hroom hW3
          go_upto_region 8 with fail
          apply wp_region_reg
          show RegW _ _ _ [0, 1, 2] _ _
          refine RegW.value (v := .chan (some c)) (w₁ := w2) rfl rfl (by simp [go_sem, execOp, Act.eval, cnb]) ?_
          refine RegW.value (v := .int .i64 (n : Int)) (w₁ := w2) rfl rfl (by simp [go_sem, execOp, Act.eval, Act.put]) ?_
          refine RegW.send (c := c) (v := .int .i64 (n : Int)) (z' := .tuple #[]) (w₁ := w2) rfl rfl (by simp [go_sem, execOp, Act.eval, Act.put, scase]) HCH.out HR.out ?_
          rw [intV_push, List.append_assoc, HW3.out]
          refine RegW.done ?_
          simp [Exit.inBlock, Exit.then, Act.put]
          go_at_K
          go_wp2_with fail
          go_roundw
          case rel => exact ⟨j + 1, T ++ [n], by omega, by go_num, HT2, HM3, HC3⟩
          case measure => simp [intOf]; omega
    · have hje : j = K.length := by omega
      subst hje
      go_wp2_with fail
      simp only [Exit.noGoto]
      go_end0
      exact ⟨rfl, T, by have := HT.out; rwa [List.take_length] at this, HM.out, HC.out⟩
end Go.Proofs.Ytbflodefmookiaa.Gr
