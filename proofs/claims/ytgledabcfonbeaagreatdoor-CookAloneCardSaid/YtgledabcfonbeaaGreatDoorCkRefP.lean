/-
  THE DOCUMENT'S ANSWER, WALKED.
-/
import Derived.Test.YtgledabcfonbeaaGreatDoorCkJ17
import Derived.Deep.CutBlock
import Derived.Deep.DeepCutAuto
namespace Go.Proofs.YtgledabcfonbeaaGreatDoor.Df
open Go.RowKit Go.Proofs.YtgledabcfonbeaaGreatDoor

theorem by_f {c : UInt8} (d : UInt8) (h : c ≠ d) : ((c.toNat : Int) == (d.toNat : Int)) = false := by
  rw [beq_eq_false_iff_ne]
  intro e
  exact h (UInt8.toNat_inj.1 (by omega))
theorem by_g {c : UInt8} (d : UInt8) (h : c ≠ d) : ((c.toNat : Int) != (d.toNat : Int)) = true := by
  rw [bne, by_f d h]; rfl
theorem fl_ne {cur : Bs} (h : cur ≠ []) : fl cur = [cur] := if_neg h
theorem emp_t {cur : Bs} (h : cur = []) : (mk cur).toList.isEmpty = true := by rw [mk_toList, h]; rfl
theorem emp_f {cur : Bs} (h : cur ≠ []) : (mk cur).toList.isEmpty = false := by
  rw [mk_toList]
  cases cur with
  | nil => exact absurd rfl h
  | cons a r => rfl

/-- what the document's Parse comes to -/
def outR : Option (Bs × List Bs) → Bs
  | none => []
  | some r => r.1
def depR : Option (Bs × List Bs) → List Bs
  | none => []
  | some r => r.2
def RfQ (w : World) (r : Option (Bs × List Bs)) (e : Ending) (w' : World) : Prop :=
  ∃ v, e = .returned (.tuple #[.string (mk (outR r)), v, .bool r.isSome]) ∧ Strs w' v (depR r) ∧ Below w.heap.size w w'
theorem RfQ.none {w w' : World} (h : Below w.heap.size w w') : RfQ w Option.none (.returned (.tuple #[.string ⟨#[]⟩, .slice Option.none 0 0, .bool false])) w' :=
  ⟨_, rfl, ⟨Option.none, 0, rfl, Nat.le_refl _, .inl rfl⟩, h⟩

set_option maxRecDepth 100000 in
set_option maxHeartbeats 16000000 in
theorem refParse0 (S : ByteArray) (s : Bs) (hS : Hid (S.data.toList = s)) (hs : S.size ≤ 16384) (w : World) :
    Calls Tryz.prog 15 #[.string S] w (RfQ w (tellW (trimNL (tokR [] s)))) := by
  have hz : Hid (s.length = S.size) := Lib.hid (by rw [Lib.size_eq, hS.out])
  have hb : decide ((16384 : Int) < (S.size : Int)) = false := decide_eq_false (by omega)
  obtain ⟨R, hR⟩ : ∃ R, tellW (trimNL (tokR [] s)) = R := ⟨_, rfl⟩
  rw [hR]
  have HR := Lib.hid hR
  clear hR
  go_enter Tryz.func15, Tryz.ntmps15
  go_wp2_with fail
  clear hb
  go_loopw [5, 6, 7, 8] (fun o c i _ wr => ∃ (j : Nat) (W : List Bs) (cur : Bs) (oa : Option Addr) (oc : Nat), j ≤ S.size + 1 ∧ i = .int .i64 j ∧ c = .string (mk cur) ∧ o = .slice oa W.length oc ∧ cur.length ≤ j ∧ Hid (W.length ≤ 2 * j) ∧ Hid (TI s j W cur) ∧ Hid (wr.ownsRow w.heap.size 9 1 (.slice oa W.length oc) W.length (strV W)) ∧ Hid (Below w.heap.size w wr)) (fun _ _ i _ _ => S.size + 2 - (intOf i).toNat)
  case atStart => exact ⟨0, [], [], none, 0, Nat.zero_le _, rfl, rfl, rfl, Nat.le_refl _, Lib.hid (Nat.le_refl _), Lib.hid TI.start, Lib.hid (World.ownsRow_nil _ _ _ _), Lib.hid (Below.refl _ _)⟩
  case round =>
    obtain ⟨j, W, cur, oa, oc, hj, rfl, rfl, rfl, hcl, hWl, hTI, hO, hB⟩ := hrel
    have z1 := mk_size cur
    by_cases hlt : j < S.size
    · have hbj := byte_at S hlt
      rw [hS.out] at hbj
      have d2 : decide ((j : Int) < (S.size : Int)) = true := decide_eq_true (by omega)
      by_cases hk : S[j] = 92 ∧ s[j + 1]? = some 10
      · obtain ⟨hc1, hc2⟩ := hk
        have hl1 : j + 1 < S.size := by rw [← hz.out]; exact (drop_at hc2).2
        have hc3 : S[j + 1] = 10 := by
          have := byte_at S hl1
          rw [hS.out, hc2] at this
          exact (Option.some.inj this).symm
        have d1 : decide ((j : Int) + 1 < (S.size : Int)) = true := decide_eq_true (by omega)
        rw [hc1] at hbj
        have hn := TI.cont hTI.out hbj hc2
        have f1 : ((S[j].toNat : Int) == 92) = true := by rw [hc1]; rfl
        have f2 : ((S[j + 1].toNat : Int) == 10) = true := by rw [hc3]; rfl
        have f3 : ((S[j].toNat : Int) != 32) = true := by rw [hc1]; rfl
        have f4 : ((S[j].toNat : Int) != 10) = true := by rw [hc1]; rfl
        have f5 : ((S[j].toNat : Int) != 58) = true := by rw [hc1]; rfl
        by_cases hc0 : cur = []
        · have e0 := emp_t hc0
          have HN : Hid (TI s (j + 2) W []) := Lib.hid (by rw [hc0] at hn; simpa [fl] using hn)
          clear hc0 hn hbj hc1 hc2 hc3
          go_wp2_with fail
          go_roundw
          case rel => exact ⟨j + 2, W, [], oa, oc, by omega, by go_num, rfl, rfl, Nat.zero_le _, Lib.hid (by have := hWl.out; omega), HN, hO, hB⟩
          case measure => simp [intOf] <;> omega
        · have e0 := emp_f hc0
          have HN : Hid (TI s (j + 2) (W ++ [cur]) []) := Lib.hid (by rw [fl_ne hc0] at hn; exact hn)
          obtain ⟨a1, c1, w1, hrun, hR1, hB1⟩ := push_c cur hO.out rfl hB.out (by have := hWl.out; omega)
          have HRUN := Lib.hid hrun
          have HR1 := Lib.hid hR1
          have HB1 := Lib.hid hB1
          clear hc0 hn hbj hc1 hc2 hc3 hrun hR1 hB1
          go_wp2_with (at_builtin; refine wpList_run rfl (.tmp 79) (.tmp 81) rfl rfl rfl HRUN.out ?_)
          go_roundw
          case rel => exact ⟨j + 2, W ++ [cur], [], a1, c1, by omega, by go_num, rfl, by simp, Nat.zero_le _, Lib.hid (by have := hWl.out; simp; omega), HN, HR1, HB1⟩
          case measure => simp [intOf] <;> omega
      · have hex : S.extract j (j + 1) = mk [S[j]] := by
          have h1 := Lib.extract_eq S j (j + 1)
          have h2 : (S.data.toList.drop j).take (j + 1 - j) = [S[j]] := by
            rw [hS.out, (drop_at hbj).1, show j + 1 - j = 1 by omega]
            rfl
          rw [h2] at h1
          exact h1
        cases hse : sepB S[j] with
        | true =>
          have hn := TI.sep hTI.out hbj hse
          have h3 : S[j] = 32 ∨ S[j] = 10 ∨ S[j] = 58 := by simpa [sepB, or_assoc] using hse
          clear hk hse
          rcases h3 with hcd | hcd | hcd
          · have f1 : ((S[j].toNat : Int) == 92) = false := by rw [hcd]; rfl
            have f3 : ((S[j].toNat : Int) != 32) = false := by rw [hcd]; rfl
            have f4 : ((S[j].toNat : Int) != 10) = true := by rw [hcd]; rfl
            have f5 : ((S[j].toNat : Int) != 58) = true := by rw [hcd]; rfl
            rw [hcd] at hn hex
            have htk : tk 32 = [] := rfl
            rw [htk, List.append_nil] at hn
            by_cases hc0 : cur = []
            · have e0 := emp_t hc0
              have HN : Hid (TI s (j + 1) W []) := Lib.hid (by rw [hc0] at hn; simpa [fl] using hn)
              clear hc0 hn hbj hcd htk
              by_cases hl1 : j + 1 < S.size
              · have d1 : decide ((j : Int) + 1 < (S.size : Int)) = true := decide_eq_true (by omega)
                go_wp2_with fail
                go_roundw
                case rel => exact ⟨j + 1, W, [], oa, oc, by omega, by go_num, rfl, rfl, Nat.zero_le _, Lib.hid (by have := hWl.out; omega), HN, hO, hB⟩
                case measure => simp [intOf] <;> omega
              · have d1 : decide ((j : Int) + 1 < (S.size : Int)) = false := decide_eq_false (by omega)
                go_wp2_with fail
                go_roundw
                case rel => exact ⟨j + 1, W, [], oa, oc, by omega, by go_num, rfl, rfl, Nat.zero_le _, Lib.hid (by have := hWl.out; omega), HN, hO, hB⟩
                case measure => simp [intOf] <;> omega
            · have e0 := emp_f hc0
              have HN : Hid (TI s (j + 1) (W ++ [cur]) []) := Lib.hid (by rw [fl_ne hc0] at hn; exact hn)
              obtain ⟨a1, c1, w1, hrun, hR1, hB1⟩ := push_c cur hO.out rfl hB.out (by have := hWl.out; omega)
              have HRUN := Lib.hid hrun
              have HR1 := Lib.hid hR1
              have HB1 := Lib.hid hB1
              clear hc0 hn hbj hcd htk hrun hR1 hB1
              by_cases hl1 : j + 1 < S.size
              · have d1 : decide ((j : Int) + 1 < (S.size : Int)) = true := decide_eq_true (by omega)
                go_wp2_with (at_builtin; refine wpList_run rfl (.tmp 79) (.tmp 81) rfl rfl rfl HRUN.out ?_)
                go_roundw
                case rel => exact ⟨j + 1, W ++ [cur], [], a1, c1, by omega, by go_num, rfl, by simp, Nat.zero_le _, Lib.hid (by have := hWl.out; simp; omega), HN, HR1, HB1⟩
                case measure => simp [intOf] <;> omega
              · have d1 : decide ((j : Int) + 1 < (S.size : Int)) = false := decide_eq_false (by omega)
                go_wp2_with (at_builtin; refine wpList_run rfl (.tmp 79) (.tmp 81) rfl rfl rfl HRUN.out ?_)
                go_roundw
                case rel => exact ⟨j + 1, W ++ [cur], [], a1, c1, by omega, by go_num, rfl, by simp, Nat.zero_le _, Lib.hid (by have := hWl.out; simp; omega), HN, HR1, HB1⟩
                case measure => simp [intOf] <;> omega
          · have f1 : ((S[j].toNat : Int) == 92) = false := by rw [hcd]; rfl
            have f3 : ((S[j].toNat : Int) != 32) = true := by rw [hcd]; rfl
            have f4 : ((S[j].toNat : Int) != 10) = false := by rw [hcd]; rfl
            have f5 : ((S[j].toNat : Int) != 58) = true := by rw [hcd]; rfl
            rw [hcd] at hn hex
            have htk : tk 10 = [[10]] := by decide
            rw [htk] at hn
            by_cases hc0 : cur = []
            · have e0 := emp_t hc0
              have HN : Hid (TI s (j + 1) (W ++ [[10]]) []) := Lib.hid (by rw [hc0] at hn; simpa [fl] using hn)
              obtain ⟨a1, c1, w1, hrun, hR1, hB1⟩ := push_c [10] hO.out rfl hB.out (by have := hWl.out; omega)
              have HRUN := Lib.hid hrun
              have HR1 := Lib.hid hR1
              have HB1 := Lib.hid hB1
              clear hc0 hn hbj hcd htk hrun hR1 hB1
              by_cases hl1 : j + 1 < S.size
              · have d1 : decide ((j : Int) + 1 < (S.size : Int)) = true := decide_eq_true (by omega)
                go_wp2_with (at_builtin; (try go_simp); refine wpList_run rfl (.tmp 97) (.tmp 103) rfl rfl rfl HRUN.out ?_)
                go_roundw
                case rel => exact ⟨j + 1, W ++ [[10]], [], a1, c1, by omega, by go_num, rfl, by simp, Nat.zero_le _, Lib.hid (by have := hWl.out; simp; omega), HN, HR1, HB1⟩
                case measure => simp [intOf] <;> omega
              · have d1 : decide ((j : Int) + 1 < (S.size : Int)) = false := decide_eq_false (by omega)
                go_wp2_with (at_builtin; (try go_simp); refine wpList_run rfl (.tmp 97) (.tmp 103) rfl rfl rfl HRUN.out ?_)
                go_roundw
                case rel => exact ⟨j + 1, W ++ [[10]], [], a1, c1, by omega, by go_num, rfl, by simp, Nat.zero_le _, Lib.hid (by have := hWl.out; simp; omega), HN, HR1, HB1⟩
                case measure => simp [intOf] <;> omega
            · have e0 := emp_f hc0
              have HN : Hid (TI s (j + 1) (W ++ [cur] ++ [[10]]) []) := Lib.hid (by rw [fl_ne hc0] at hn; exact hn)
              obtain ⟨a1, c1, w1, hrun, hR1, hB1⟩ := push_c cur hO.out rfl hB.out (by have := hWl.out; omega)
              have hW1l : (W ++ [cur]).length ≤ 2 * j + 1 := by have := hWl.out; simp; omega
              obtain ⟨W1, hW1⟩ : ∃ W1, W ++ [cur] = W1 := ⟨_, rfl⟩
              rw [hW1] at hrun hR1 HN hW1l
              obtain ⟨a2, c2, w2, hrun2, hR2, hB2⟩ := push_c [10] hR1 rfl hB1 (by omega)
              have HWL := Lib.hid hW1l
              clear hW1 hW1l
              have HRUN2 := Lib.hid hrun2
              have HR2 := Lib.hid hR2
              have HB2 := Lib.hid hB2
              clear hrun2 hR2 hB2
              have HRUN := Lib.hid hrun
              have HR1 := Lib.hid hR1
              have HB1 := Lib.hid hB1
              clear hc0 hn hbj hcd htk hrun hR1 hB1
              by_cases hl1 : j + 1 < S.size
              · have d1 : decide ((j : Int) + 1 < (S.size : Int)) = true := decide_eq_true (by omega)
                go_wp2_with (at_builtin; (try go_simp); first | refine wpList_run rfl (.tmp 79) (.tmp 81) rfl rfl rfl HRUN.out ?_ | refine wpList_run rfl (.tmp 97) (.tmp 103) rfl rfl rfl HRUN2.out ?_)
                go_roundw
                case rel => exact ⟨j + 1, W1 ++ [[10]], [], a2, c2, by omega, by go_num, rfl, by simp, Nat.zero_le _, Lib.hid (by have := HWL.out; simp; omega), HN, HR2, HB2⟩
                case measure => simp [intOf] <;> omega
              · have d1 : decide ((j : Int) + 1 < (S.size : Int)) = false := decide_eq_false (by omega)
                go_wp2_with (at_builtin; (try go_simp); first | refine wpList_run rfl (.tmp 79) (.tmp 81) rfl rfl rfl HRUN.out ?_ | refine wpList_run rfl (.tmp 97) (.tmp 103) rfl rfl rfl HRUN2.out ?_)
                go_roundw
                case rel => exact ⟨j + 1, W1 ++ [[10]], [], a2, c2, by omega, by go_num, rfl, by simp, Nat.zero_le _, Lib.hid (by have := HWL.out; simp; omega), HN, HR2, HB2⟩
                case measure => simp [intOf] <;> omega
          · have f1 : ((S[j].toNat : Int) == 92) = false := by rw [hcd]; rfl
            have f3 : ((S[j].toNat : Int) != 32) = true := by rw [hcd]; rfl
            have f4 : ((S[j].toNat : Int) != 10) = true := by rw [hcd]; rfl
            have f5 : ((S[j].toNat : Int) != 58) = false := by rw [hcd]; rfl
            rw [hcd] at hn hex
            have htk : tk 58 = [[58]] := by decide
            rw [htk] at hn
            by_cases hc0 : cur = []
            · have e0 := emp_t hc0
              have HN : Hid (TI s (j + 1) (W ++ [[58]]) []) := Lib.hid (by rw [hc0] at hn; simpa [fl] using hn)
              obtain ⟨a1, c1, w1, hrun, hR1, hB1⟩ := push_c [58] hO.out rfl hB.out (by have := hWl.out; omega)
              have HRUN := Lib.hid hrun
              have HR1 := Lib.hid hR1
              have HB1 := Lib.hid hB1
              clear hc0 hn hbj hcd htk hrun hR1 hB1
              by_cases hl1 : j + 1 < S.size
              · have d1 : decide ((j : Int) + 1 < (S.size : Int)) = true := decide_eq_true (by omega)
                go_wp2_with (at_builtin; (try go_simp); refine wpList_run rfl (.tmp 97) (.tmp 103) rfl rfl rfl HRUN.out ?_)
                go_roundw
                case rel => exact ⟨j + 1, W ++ [[58]], [], a1, c1, by omega, by go_num, rfl, by simp, Nat.zero_le _, Lib.hid (by have := hWl.out; simp; omega), HN, HR1, HB1⟩
                case measure => simp [intOf] <;> omega
              · have d1 : decide ((j : Int) + 1 < (S.size : Int)) = false := decide_eq_false (by omega)
                go_wp2_with (at_builtin; (try go_simp); refine wpList_run rfl (.tmp 97) (.tmp 103) rfl rfl rfl HRUN.out ?_)
                go_roundw
                case rel => exact ⟨j + 1, W ++ [[58]], [], a1, c1, by omega, by go_num, rfl, by simp, Nat.zero_le _, Lib.hid (by have := hWl.out; simp; omega), HN, HR1, HB1⟩
                case measure => simp [intOf] <;> omega
            · have e0 := emp_f hc0
              have HN : Hid (TI s (j + 1) (W ++ [cur] ++ [[58]]) []) := Lib.hid (by rw [fl_ne hc0] at hn; exact hn)
              obtain ⟨a1, c1, w1, hrun, hR1, hB1⟩ := push_c cur hO.out rfl hB.out (by have := hWl.out; omega)
              have hW1l : (W ++ [cur]).length ≤ 2 * j + 1 := by have := hWl.out; simp; omega
              obtain ⟨W1, hW1⟩ : ∃ W1, W ++ [cur] = W1 := ⟨_, rfl⟩
              rw [hW1] at hrun hR1 HN hW1l
              obtain ⟨a2, c2, w2, hrun2, hR2, hB2⟩ := push_c [58] hR1 rfl hB1 (by omega)
              have HWL := Lib.hid hW1l
              clear hW1 hW1l
              have HRUN2 := Lib.hid hrun2
              have HR2 := Lib.hid hR2
              have HB2 := Lib.hid hB2
              clear hrun2 hR2 hB2
              have HRUN := Lib.hid hrun
              have HR1 := Lib.hid hR1
              have HB1 := Lib.hid hB1
              clear hc0 hn hbj hcd htk hrun hR1 hB1
              by_cases hl1 : j + 1 < S.size
              · have d1 : decide ((j : Int) + 1 < (S.size : Int)) = true := decide_eq_true (by omega)
                go_wp2_with (at_builtin; (try go_simp); first | refine wpList_run rfl (.tmp 79) (.tmp 81) rfl rfl rfl HRUN.out ?_ | refine wpList_run rfl (.tmp 97) (.tmp 103) rfl rfl rfl HRUN2.out ?_)
                go_roundw
                case rel => exact ⟨j + 1, W1 ++ [[58]], [], a2, c2, by omega, by go_num, rfl, by simp, Nat.zero_le _, Lib.hid (by have := HWL.out; simp; omega), HN, HR2, HB2⟩
                case measure => simp [intOf] <;> omega
              · have d1 : decide ((j : Int) + 1 < (S.size : Int)) = false := decide_eq_false (by omega)
                go_wp2_with (at_builtin; (try go_simp); first | refine wpList_run rfl (.tmp 79) (.tmp 81) rfl rfl rfl HRUN.out ?_ | refine wpList_run rfl (.tmp 97) (.tmp 103) rfl rfl rfl HRUN2.out ?_)
                go_roundw
                case rel => exact ⟨j + 1, W1 ++ [[58]], [], a2, c2, by omega, by go_num, rfl, by simp, Nat.zero_le _, Lib.hid (by have := HWL.out; simp; omega), HN, HR2, HB2⟩
                case measure => simp [intOf] <;> omega
        | false =>
          have hn := TI.chr hTI.out hbj hk hse
          have hse2 : S[j] ≠ 32 ∧ S[j] ≠ 10 ∧ S[j] ≠ 58 := by simpa [sepB, and_assoc] using hse
          obtain ⟨g1, g2, g3⟩ := hse2
          have f3 : ((S[j].toNat : Int) != 32) = true := by_g 32 g1
          have f4 : ((S[j].toNat : Int) != 10) = true := by_g 10 g2
          have f5 : ((S[j].toNat : Int) != 58) = true := by_g 58 g3
          have hcat : mk cur ++ mk [S[j]] = mk (cur ++ [S[j]]) := mk_append _ _
          have z2 := mk_size [S[j]]
          have HN := Lib.hid hn
          have HL : Hid ((cur ++ [S[j]]).length ≤ j + 1) := Lib.hid (by simp; omega)
          simp only [List.length_singleton] at z2
          by_cases hl1 : j + 1 < S.size
          · have d1 : decide ((j : Int) + 1 < (S.size : Int)) = true := decide_eq_true (by omega)
            by_cases hc1 : S[j] = 92
            · have hc3 : S[j + 1] ≠ 10 := fun e => hk ⟨hc1, by
                have := byte_at S hl1
                rw [hS.out] at this
                rw [this, e]⟩
              have f1 : ((S[j].toNat : Int) == 92) = true := by rw [hc1]; rfl
              have f2 : ((S[j + 1].toNat : Int) == 10) = false := by_f 10 hc3
              clear hn hk hse hbj g1 g2 g3 hc1 hc3
              go_wp2_with fail
              go_roundw
              case rel => exact ⟨j + 1, W, _, oa, oc, by omega, by go_num, rfl, rfl, HL.out, Lib.hid (by have := hWl.out; omega), HN, hO, hB⟩
              case measure => simp [intOf] <;> omega
            · have f1 : ((S[j].toNat : Int) == 92) = false := by_f 92 hc1
              clear hn hk hse hbj g1 g2 g3 hc1
              go_wp2_with fail
              go_roundw
              case rel => exact ⟨j + 1, W, _, oa, oc, by omega, by go_num, rfl, rfl, HL.out, Lib.hid (by have := hWl.out; omega), HN, hO, hB⟩
              case measure => simp [intOf] <;> omega
          · have d1 : decide ((j : Int) + 1 < (S.size : Int)) = false := decide_eq_false (by omega)
            clear hn hk hse hbj g1 g2 g3
            go_wp2_with fail
            go_roundw
            case rel => exact ⟨j + 1, W, _, oa, oc, by omega, by go_num, rfl, rfl, HL.out, Lib.hid (by have := hWl.out; omega), HN, hO, hB⟩
            case measure => simp [intOf] <;> omega
    · by_cases hje : j = S.size
      · subst hje
        have d1 : decide ((S.size : Int) + 1 < (S.size : Int)) = false := decide_eq_false (by omega)
        have d2 : decide ((S.size : Int) < (S.size : Int)) = false := decide_eq_false (by omega)
        have hl := hTI.out
        rw [← hz.out] at hl
        have hn := TI.last hl
        rw [hz.out] at hn
        by_cases hc0 : cur = []
        · have e0 := emp_t hc0
          have HN : Hid (TI s (S.size + 1) W []) := Lib.hid (by rw [hc0] at hn; simpa [fl] using hn)
          clear hc0 hn hl hlt
          go_wp2_with fail
          go_roundw
          case rel => exact ⟨S.size + 1, W, [], oa, oc, Nat.le_refl _, by go_num, rfl, rfl, Nat.zero_le _, Lib.hid (by have := hWl.out; omega), HN, hO, hB⟩
          case measure => simp [intOf] <;> omega
        · have e0 := emp_f hc0
          have HN : Hid (TI s (S.size + 1) (W ++ [cur]) []) := Lib.hid (by rw [fl_ne hc0] at hn; exact hn)
          obtain ⟨a1, c1, w1, hrun, hR1, hB1⟩ := push_c cur hO.out rfl hB.out (by have := hWl.out; omega)
          have HRUN := Lib.hid hrun
          have HR1 := Lib.hid hR1
          have HB1 := Lib.hid hB1
          clear hc0 hn hl hlt hrun hR1 hB1
          go_wp2_with (at_builtin; refine wpList_run rfl (.tmp 79) (.tmp 81) rfl rfl rfl HRUN.out ?_)
          go_roundw
          case rel => exact ⟨S.size + 1, W ++ [cur], [], a1, c1, Nat.le_refl _, by go_num, rfl, by simp, Nat.zero_le _, Lib.hid (by have := hWl.out; simp; omega), HN, HR1, HB1⟩
          case measure => simp [intOf] <;> omega
      · obtain rfl : j = S.size + 1 := by omega
        have hW : tokR [] s = W := hTI.out.2 (by rw [hz.out]; omega)
        have HM : Hid (∀ x ∈ W, x.length ≤ 20000) := Lib.hid fun x hx => by
          rw [← hW] at hx
          have h1 := tokR_mem s [] x hx
          have h2 := hz.out
          simp only [List.length_nil] at h1
          omega
        have HR2 : Hid (tellW (trimNL W) = R) := Lib.hid (by rw [← hW]; exact HR.out)
        have hn : W.length ≤ 40000 := by have := hWl.out; omega
        have hst := owns_strs hO.out
        clear hW HR hTI hWl z1 hcl hj hlt hje
        by_cases hW0 : W = []
        · have hR0 : R = none := by rw [← HR2.out, hW0]; rfl
          subst hR0
          have h0 : W.length = 0 := by rw [hW0]; rfl
          rw [h0]
          rw [h0] at hO
          have hO2 := hO.out.2
          clear hst h0
          rcases hO2 with ⟨e, _⟩ | ⟨g, cap, cu, e, _, _, _, _⟩
          all_goals cases e
          all_goals
            clear hn
            go_wp2_with fail
            go_loopw [9] (fun i W' => i = .int .i64 0 ∧ wr = W') (fun i _ => 0)
            case atStart => exact ⟨rfl, rfl⟩
            case round =>
              obtain ⟨rfl, rfl⟩ := hrel
              go_wp2_with fail
              go_loopw [10] (fun i W' => i = .int .i64 0 ∧ wr = W') (fun i _ => 0)
              case atStart => exact ⟨rfl, rfl⟩
              case round =>
                obtain ⟨rfl, rfl⟩ := hrel
                go_wp2_with fail
                go_ret3
                exact RfQ.none hB.out
        · obtain ⟨oa', oc', e, hcap, hrow⟩ := hst
          injection e with e1 _ e3
          subst e1
          subst e3
          rcases hrow with h0 | ⟨g, off, e2, hg, hcell⟩
          · exact absurd h0 hW0
          subst e2
          have HC := Lib.hid hcell
          obtain ⟨n, hnn⟩ : ∃ n, W.length = n := ⟨_, rfl⟩
          have hcap2 : n ≤ oc := by rw [← hnn]; exact hcap
          rw [hnn] at hn hO ⊢
          have HNN := Lib.hid hnn
          clear hcap hcell hnn hW0
          go_upto_block 3 with fail
          go_cut [9] (fun s9 wx => wr = wx ∧ ∃ a : Nat, s9 = .int .i64 a ∧ a ≤ n ∧ Hid (dropNL W = W.drop a))
          case first =>
            go_wp2_with fail
            go_loopw [9] (fun i W' => wr = W' ∧ ∃ a : Nat, i = .int .i64 a ∧ a ≤ n ∧ Hid (dropNL W = dropNL (W.drop a))) (fun i _ => n - (intOf i).toNat)
            case atStart => exact ⟨rfl, 0, rfl, Nat.zero_le _, Lib.hid rfl⟩
            case round =>
              obtain ⟨rfl, a, rfl, ha, hD⟩ := hrel
              by_cases hlt : a < n
              · have hlW : a < W.length := by rw [HNN.out]; exact hlt
                have hx := List.getElem?_eq_getElem hlW
                have c0 := HC.out a _ hx
                generalize W[a] = x at *
                have hi0 : (0 : Int) ≤ (a : Int) := by omega
                have hi1 : (a : Int) < (n : Int) := by omega
                by_cases hnl : x = [10]
                · have HD2 : Hid (dropNL W = dropNL (W.drop (a + 1))) := Lib.hid (nl_at (by rw [hx, hnl]) hD.out)
                  have e1 : ((mk x).toList == [10]) = true := by rw [mk_toList, hnl]; rfl
                  clear hx hnl
                  go_wp2_with fail
                  go_roundw
                  case rel => exact ⟨trivial, a + 1, by go_num, by omega, HD2⟩
                  case measure => simp [intOf] <;> omega
                · have HD2 : Hid (dropNL W = W.drop a) := Lib.hid (nl_end (by rw [hx]; exact fun e => hnl (Option.some.inj e)) hD.out)
                  have e1 : ((mk x).toList == [10]) = false := by rw [mk_toList, beq_eq_false_iff_ne]; exact hnl
                  clear hx hnl
                  go_wp2_with fail
                  go_meet
                  exact ⟨rfl, a, rfl, ha, HD2⟩
              · have HD2 : Hid (dropNL W = W.drop a) := Lib.hid (nl_end (by rw [List.getElem?_eq_none (by rw [HNN.out]; omega)]; simp) hD.out)
                obtain rfl : a = n := by omega
                go_wp2_with fail
                go_meet
                exact ⟨rfl, a, rfl, ha, HD2⟩
          case rest =>
            obtain ⟨rfl, a, rfl, ha, hD⟩ := hcut
            go_upto_block 5 with fail
            go_cut [10] (fun s10 wx => wr = wx ∧ ∃ b : Nat, s10 = .int .i64 b ∧ a ≤ b ∧ b ≤ n ∧ Hid (trimNL W = (W.take b).drop a))
            case first =>
              go_wp2_with fail
              go_loopw [10] (fun i W' => wr = W' ∧ ∃ b : Nat, i = .int .i64 b ∧ a ≤ b ∧ b ≤ n ∧ Hid (trimNL W = (dropNL ((W.take b).drop a).reverse).reverse)) (fun i _ => (intOf i).toNat)
              case atStart => exact ⟨rfl, n, rfl, ha, Nat.le_refl _, Lib.hid (by rw [← HNN.out]; exact bk_start hD.out)⟩
              case round =>
                obtain ⟨rfl, b, rfl, hab, hb, hT⟩ := hrel
                have hbW : b ≤ W.length := by rw [HNN.out]; exact hb
                by_cases hlt : a < b
                · have hlW : b - 1 < W.length := by omega
                  have hx := List.getElem?_eq_getElem hlW
                  have c0 := HC.out (b - 1) _ hx
                  have hmax := HM.out _ (List.getElem_mem hlW)
                  generalize W[b - 1] = x at *
                  obtain ⟨q, rfl⟩ : ∃ q, b = q + 1 := ⟨b - 1, by omega⟩
                  rw [Nat.add_sub_cancel] at c0
                  have hi1 : (a : Int) < (q + 1 : Nat) := by omega
                  by_cases hnl : x = [10]
                  · have HD2 : Hid (trimNL W = (dropNL ((W.take q).drop a).reverse).reverse) := Lib.hid (bk_at hlt (by rw [hx, hnl]) hT.out)
                    have e1 : ((mk x).toList == [10]) = true := by rw [mk_toList, hnl]; rfl
                    clear hx hnl hbW hlW
                    go_wp2_with fail
                    go_roundw
                    case rel => exact ⟨trivial, q, by go_num, by omega, by omega, HD2⟩
                    case measure => simp [intOf] <;> omega
                  · have HD2 : Hid (trimNL W = (W.take (q + 1)).drop a) := Lib.hid (bk_end hbW (fun _ => by rw [hx]; exact fun e => hnl (Option.some.inj e)) hT.out)
                    have e1 : ((mk x).toList == [10]) = false := by rw [mk_toList, beq_eq_false_iff_ne]; exact hnl
                    clear hx hnl hbW hlW
                    go_wp2_with fail
                    go_meet
                    exact ⟨rfl, q + 1, rfl, hab, hb, HD2⟩
                · have HD2 : Hid (trimNL W = (W.take b).drop a) := Lib.hid (bk_end hbW (fun h => absurd h hlt) hT.out)
                  clear hbW
                  go_wp2_with fail
                  go_meet
                  exact ⟨rfl, b, rfl, hab, hb, HD2⟩
            case rest =>
              obtain ⟨rfl, b, rfl, hab, hb, hT⟩ := hcut
              obtain ⟨m, rfl⟩ : ∃ m, b = a + m := ⟨b - a, by omega⟩
              have hVn : ((W.take (a + m)).drop a).length = m := by
                have := HNN.out
                rw [List.length_drop, List.length_take]
                omega
              have hVc : ∀ (q : Nat) (x : Bs), ((W.take (a + m)).drop a)[q]? = some x → wr.cell? ⟨g, off + a + q, none⟩ = some (.string (mk x)) ∧ x.length ≤ 20000 := fun q x h => by
                rw [List.getElem?_drop] at h
                have h2 : W[a + q]? = some x := by
                  rw [List.getElem?_take] at h
                  split at h
                  · exact h
                  · cases h
                exact ⟨by rw [Nat.add_assoc]; exact HC.out _ _ h2, HM.out _ (List.mem_of_getElem? h2)⟩
              have hRV : tellW ((W.take (a + m)).drop a) = R := by rw [← hT.out]; exact HR2.out
              generalize (W.take (a + m)).drop a = V at *
              have HVC := Lib.hid hVc
              have HVN := Lib.hid hVn
              have HRV := Lib.hid hRV
              have hmn : m ≤ 40000 := by omega
              clear hT hD HC HR2 HM HNN hVn hVc hRV
              by_cases hm2 : m < 2
              · have hR0 : R = none := by rw [← HRV.out]; exact tell_short (by rw [HVN.out]; exact hm2)
                subst hR0
                go_wp2_with fail
                all_goals go_ret3
                all_goals exact RfQ.none hB.out
              · have hne : ¬ oc = a := by omega
                have hv0 : 0 < V.length := by rw [HVN.out]; omega
                have hv1 : 1 < V.length := by rw [HVN.out]; omega
                have hx0 := List.getElem?_eq_getElem hv0
                have hx1 := List.getElem?_eq_getElem hv1
                have c0 : wr.cell? ⟨g, off + a, none⟩ = some (.string (mk V[0])) := (HVC.out 0 _ hx0).1
                have c1 := (HVC.out 1 _ hx1).1
                have hol := (HVC.out 0 _ hx0).2
                generalize V[0] = o at *
                generalize V[1] = c at *
                have HX0 := Lib.hid hx0
                have HX1 := Lib.hid hx1
                have d2 : decide ((m : Int) < 2) = false := decide_eq_false (by omega)
                clear hx0 hx1 hv0 hv1
                by_cases ho58 : o = [58]
                · have hR0 : R = none := by rw [← HRV.out]; exact tell_bad HX0.out HX1.out (.inl ho58)
                  have e0 : ((mk o).toList == [58]) = true := by rw [mk_toList, ho58]; rfl
                  subst hR0
                  clear ho58
                  go_wp2_with fail
                  go_ret3
                  exact RfQ.none hB.out
                have e0 : ((mk o).toList == [58]) = false := by rw [mk_toList, beq_eq_false_iff_ne]; exact ho58
                by_cases hc58 : c = [58]
                rotate_left 1
                · have hR0 : R = none := by rw [← HRV.out]; exact tell_bad HX0.out HX1.out (.inr (.inl hc58))
                  have e1 : ((mk c).toList == [58]) = false := by rw [mk_toList, beq_eq_false_iff_ne]; exact hc58
                  subst hR0
                  clear ho58 hc58
                  go_wp2_with fail
                  go_ret3
                  exact RfQ.none hB.out
                have e1 : ((mk c).toList == [58]) = true := by rw [mk_toList, hc58]; rfl
                have HO58 := Lib.hid ho58
                have HC58 := Lib.hid hc58
                have HRF := Lib.hid fun (x : Bs) (hx : x.length ≤ 20000) (W : World) => refClean_c x (by omega) W
                have cr := HRF.out o hol wr
                have HT0 : Hid ((cleanL o).2 ≠ 0 → R = none) := Lib.hid fun h => by rw [← HRV.out]; exact tell_bad HX0.out HX1.out (.inr (.inr h))
                have HT1 : Hid ((cleanL o).2 = 0 → ((V.drop 2).all okTok = true) → R = some ((cleanL o).1, dp V m)) := Lib.hid fun h ha => by
                  rw [← HRV.out, ← HVN.out, dp_all]
                  exact tell_good HX0.out (by rw [HX1.out, HC58.out]) HO58.out h ha
                obtain ⟨⟨co, eo⟩, hco⟩ : ∃ p, cleanL o = p := ⟨_, rfl⟩
                rw [hco] at cr HT0 HT1
                have cr2 : Calls Tryz.prog 25 #[.string (mk o)] wr fun e w' => e = .returned (.tuple #[.string (mk co), .int .i64 eo]) ∧ Below wr.heap.size wr w' := cr
                have HRW : Hid (tellW V = R) := Lib.hid HRV.out
                clear cr hco ho58 hc58 hol HRV HX0 HX1
                go_wp2_with fail
                refine cr2.mono ?_
                rintro e w1 ⟨rfl, hb1⟩
                have HB1 := Lib.hid hb1
                clear cr2 hb1
                by_cases heo : eo = 0
                rotate_left 1
                · have hR0 := HT0.out heo
                  subst hR0
                  have e2 : (eo != 0) = true := by rw [bne_iff_ne]; exact heo
                  go_wp2_with fail
                  go_ret3
                  exact RfQ.none (hB.out.trans (HB1.out.mono hB.out.size))
                subst heo
                have HR1 : Hid ((V.drop 2).all okTok = true → R = some (co, dp V m)) := Lib.hid (HT1.out rfl)
                clear HT0 HT1 c0 c1 e0 e1 d2 HO58 HC58
                go_wp2_with fail
                generalize wr = w9 at *
                go_loopw [13, 14, 15, 16] (fun d i _ _ W' => ∃ (j : Nat) (da : Option Addr) (dc : Nat), 2 ≤ j ∧ j ≤ m ∧ i = .int .i64 j ∧ d = .slice da (dp V j).length dc ∧ Hid (((V.take j).drop 2).all okTok = true) ∧ Hid (W'.ownsRow w9.heap.size 9 1 (.slice da (dp V j).length dc) (dp V j).length (strV (dp V j))) ∧ Hid (Below w9.heap.size w9 W')) (fun _ i _ _ _ => m - (intOf i).toNat)
                case atStart => exact ⟨2, none, 0, Nat.le_refl _, by omega, rfl, by rw [dp_two]; rfl, Lib.hid (by rw [List.drop_of_length_le (by rw [List.length_take]; omega)]; rfl), by rw [dp_two]; exact Lib.hid (World.ownsRow_nil _ _ _ _), HB1⟩
                case round =>
                  obtain ⟨j, da, dc, hj2, hjm, rfl, rfl, hA, hD, hBj⟩ := hrel
                  by_cases hlt : j < m
                  · have hjV : j < V.length := by rw [HVN.out]; exact hlt
                    have hx := List.getElem?_eq_getElem hjV
                    obtain ⟨cc, hxl⟩ := HVC.out j _ hx
                    generalize V[j] = x at *
                    have HX := Lib.hid hx
                    have HKC : Hid (∀ W2, Below wr.heap.size wr W2 → W2.cell? ⟨g, off + a + j, none⟩ = some (.string (mk x))) := Lib.hid fun W2 hW2 => (cell_of_block ((hBj.out.trans (hW2.mono hBj.out.size)).block g hg)).trans cc
                    have ci : wr.cell? ⟨g, off + a + j, none⟩ = some (.string (mk x)) := HKC.out wr (Below.refl _ _)
                    obtain ⟨⟨cx, fx⟩, hcx⟩ : ∃ p, cleanL x = p := ⟨_, rfl⟩
                    have cr := HRF.out x hxl wr
                    rw [hcx] at cr
                    have cr2 : Calls Tryz.prog 25 #[.string (mk x)] wr fun e w' => e = .returned (.tuple #[.string (mk cx), .int .i64 fx]) ∧ Below wr.heap.size wr w' := cr
                    have hi0 : (0 : Int) ≤ (j : Int) := by omega
                    have hi1 : (j : Int) < (m : Int) := by omega
                    have HBD : Hid (okTok x = false → R = none) := Lib.hid fun h => by rw [← HRW.out]; exact tell_badD hj2 HX.out h
                    have HOK : Hid (x ≠ [58] → x ≠ [10] → fx = 0 → okTok x = true) := Lib.hid fun h1 h2 h3 => by unfold okTok; simp [h1, h2, hcx, h3]
                    have HBF : Hid (fx ≠ 0 → okTok x = false) := Lib.hid fun h => by unfold okTok; simp [hcx, h]
                    have HDP : Hid (dp V (j + 1) = if (dp V j).contains cx then dp V j else dp V j ++ [cx]) := Lib.hid (by rw [dp_step hj2 HX.out, hcx])
                    have HDL := dp_len V j
                    generalize dp V j = D at *
                    clear cc hxl hx hcx cr
                    by_cases hx58 : x = [58]
                    · have hR0 := HBD.out (by rw [hx58]; decide)
                      subst hR0
                      have e0 : ((mk x).toList == [58]) = true := by rw [mk_toList, hx58]; rfl
                      clear hx58
                      go_wp2_with fail
                      refine cr2.mono ?_
                      rintro e w5 ⟨rfl, hb5⟩
                      have cj := HKC.out w5 hb5
                      have HB5 := Lib.hid hb5
                      clear cr2 hb5 ci
                      go_wp2_with fail
                      go_ret3
                      exact RfQ.none (hB.out.trans ((hBj.out.trans (HB5.out.mono hBj.out.size)).mono hB.out.size))
                    have e0 : ((mk x).toList == [58]) = false := by rw [mk_toList, beq_eq_false_iff_ne]; exact hx58
                    by_cases hx10 : x = [10]
                    · have hR0 := HBD.out (by rw [hx10]; decide)
                      subst hR0
                      have e1 : ((mk x).toList == [10]) = true := by rw [mk_toList, hx10]; rfl
                      clear hx58 hx10
                      go_wp2_with fail
                      refine cr2.mono ?_
                      rintro e w5 ⟨rfl, hb5⟩
                      have cj := HKC.out w5 hb5
                      have HB5 := Lib.hid hb5
                      clear cr2 hb5 ci
                      go_wp2_with fail
                      go_ret3
                      exact RfQ.none (hB.out.trans ((hBj.out.trans (HB5.out.mono hBj.out.size)).mono hB.out.size))
                    have e1 : ((mk x).toList == [10]) = false := by rw [mk_toList, beq_eq_false_iff_ne]; exact hx10
                    by_cases hfx : fx = 0
                    rotate_left 1
                    · have hR0 := HBD.out (HBF.out hfx)
                      subst hR0
                      have e2 : (fx == 0) = false := by rw [beq_eq_false_iff_ne]; exact hfx
                      have e3 : (fx != 0) = true := by rw [bne_iff_ne]; exact hfx
                      clear hx58 hx10
                      go_wp2_with fail
                      refine cr2.mono ?_
                      rintro e w5 ⟨rfl, hb5⟩
                      have cj := HKC.out w5 hb5
                      have HB5 := Lib.hid hb5
                      clear cr2 hb5 ci
                      go_wp2_with fail
                      go_ret3
                      exact RfQ.none (hB.out.trans ((hBj.out.trans (HB5.out.mono hBj.out.size)).mono hB.out.size))
                    have HA2 : Hid (((V.take (j + 1)).drop 2).all okTok = true) := Lib.hid (all_step hj2 HX.out (HOK.out hx58 hx10 hfx) hA.out)
                    subst hfx
                    clear hx58 hx10 HOK HBF HBD
                    go_wp2_with fail
                    refine cr2.mono ?_
                    rintro e w5 ⟨rfl, hb5⟩
                    have cj := HKC.out w5 hb5
                    have HB5 := Lib.hid (hBj.out.trans (hb5.mono hBj.out.size))
                    have hD5 := owns_below hD.out hb5
                    have cn := in_c cx (owns_strs hD5) (by omega)
                    have HD5 := Lib.hid hD5
                    clear cr2 hb5 ci hD5
                    go_wp2_with fail
                    refine cn.mono ?_
                    rintro e w6 ⟨rfl, hb6⟩
                    have HB6 := Lib.hid (HB5.out.trans (hb6.mono HB5.out.size))
                    have hD6 := owns_below HD5.out hb6
                    obtain ⟨z, hz⟩ : ∃ z, D.contains cx = z := ⟨_, rfl⟩
                    rw [hz] at HDP ⊢
                    cases z with
                    | true =>
                      have HDP2 : Hid (dp V (j + 1) = D) := Lib.hid HDP.out
                      have HD6 := Lib.hid hD6
                      clear cn hb6 hD6 hz cj
                      go_wp2_with fail
                      go_roundw
                      case rel => exact ⟨j + 1, da, dc, by omega, by omega, by go_num, by rw [HDP2.out], HA2, by rw [HDP2.out]; exact HD6, HB6⟩
                      case measure => simp [intOf] <;> omega
                    | false =>
                      have HDP2 : Hid (dp V (j + 1) = D ++ [cx]) := Lib.hid HDP.out
                      obtain ⟨a7, c7, w7, hrun, hD7, hB7⟩ := push_c cx hD6 rfl HB6.out (by omega)
                      have HRUN := Lib.hid hrun
                      have HD7 := Lib.hid hD7
                      have HB7 := Lib.hid hB7
                      clear cn hb6 hD6 hz cj hrun hD7 hB7
                      go_wp2_with (at_builtin; (try go_simp); refine wpList_run rfl (.tmp 194) (.tmp 196) rfl rfl rfl HRUN.out ?_)
                      go_roundw
                      case rel => exact ⟨j + 1, a7, c7, by omega, by omega, by go_num, by rw [HDP2.out]; simp, HA2, by rw [HDP2.out]; exact HD7, HB7⟩
                      case measure => simp [intOf] <;> omega
                  · obtain rfl : j = m := by omega
                    have hR0 := HR1.out (by have := hA.out; rw [← HVN.out, List.take_length] at this; exact this)
                    subst hR0
                    go_wp2_with fail
                    go_ret3
                    exact ⟨_, rfl, owns_strs hD.out, hB.out.trans (hBj.out.mono hB.out.size)⟩

theorem refParse_c (s : Bs) (hs : s.length ≤ 16384) (w : World) : Calls Tryz.prog 15 #[.string (mk s)] w (RfQ w (parseP s)) := by
  have h := refParse0 (mk s) s (Lib.hid rfl) (by rw [mk_size]; exact hs) w
  have e : tellW (trimNL (tokR [] s)) = parseP s := by rw [← parse_eq, refP, if_neg (by omega)]
  rw [e] at h
  exact h
end Go.Proofs.YtgledabcfonbeaaGreatDoor.Df
