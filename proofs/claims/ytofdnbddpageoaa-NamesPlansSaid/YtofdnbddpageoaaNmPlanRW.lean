/-
  THE DOCUMENT's PLAN, WALKED.
-/
import Derived.Test.YtofdnbddpageoaaNmPlanR
namespace Go.Proofs.Ytofdnbddpageoaa.Nm
open Go.RowKit Go.Maps

theorem plQ_no {V W : World} {N : List ByteArray} {out : ByteArray} {time : Int} {deps : List ByteArray} {k : Nat} (hE : planE out time deps = k) (hk : k ≠ 0) (hb : Below V.heap.size V W) {e : Ending} (he : e = .returned (.tuple #[.slice Option.none 0 0, .int .i64 ((k : Nat) : Int)])) : PlQ V N out time deps e W := by
  subst hE
  exact ⟨_, he, by rw [if_neg hk]; exact rows_nil _ _ _, hb⟩

set_option maxRecDepth 100000 in
set_option maxHeartbeats 16000000 in
theorem refPlan_c {w : World} {q : Nat} {N : List ByteArray} {vN vL : Value} {out : ByteArray} {time : Int} {deps : List ByteArray} {da : Option Addr} {dc : Nat} (hbox : w.heap[q]? = some (.cells #[vN, vL] 30 (0, 0))) (hN : StrRow w vN N) (hno : NilOk vN) (hd : StrRow w (.slice da deps.length dc) deps) (hdl : deps.length ≤ 1000) (hNl : N.length ≤ 90000) :
    Calls Try.prog 22 #[.pointer (some ⟨q, 0, Option.none⟩), .agg #[.string out, .int .i64 time, .slice da deps.length dc]] w (PlQ w N out time deps) := by
  obtain ⟨W0, hW0⟩ : ∃ W, w.alloc (.cells #[.string out, .int .i64 time, .slice da deps.length dc] 42) = W := ⟨_, rfl⟩
  have hB0 : Below w.heap.size w W0 := by rw [← hW0]; exact Pk.below_alloc _ _
  have hbx : W0.heap[w.heap.size]? = some (.cells #[.string out, .int .i64 time, .slice da deps.length dc] 42 (0, 0)) := by rw [← hW0]; exact heap_alloc_new _ _
  obtain ⟨⟨b0, b1, b2⟩, -⟩ := thr_cells hbx
  have HB0 := Lib.hid hB0
  have HBX := Lib.hid hbx
  have HD := Lib.hid hd
  have HQ := Lib.hid ((hB0.block q (lt_some hbox)).trans hbox)
  have HN := Lib.hid hN
  have HNO := Lib.hid hno
  clear hB0 hbx hd hbox hN hno
  by_cases h1 : time < 0
  · have HE : Hid (planE out time deps = 1) := Lib.hid (if_pos (.inl h1))
    go_enter Try.func22, Try.ntmps22
    go_wp2_with fail
    go_ret2
    exact plQ_no HE.out (by decide) HB0.out rfl
  by_cases h2 : 4611686018427387904 ≤ time
  · have HE : Hid (planE out time deps = 1) := Lib.hid (if_pos (.inr h2))
    go_enter Try.func22, Try.ntmps22
    go_wp2_with fail
    go_ret2
    exact plQ_no HE.out (by decide) HB0.out rfl
  obtain ⟨tn, htn⟩ : ∃ tn : Nat, time = (tn : Int) := ⟨time.toNat, by omega⟩
  subst htn
  have htb : tn < 4611686018427387904 := by omega
  have hE : planE out (tn : Int) deps = if longS out = true ∨ 1000 < deps.length ∨ deps.any longS = true then 3 else 0 := if_neg (by omega)
  have h4' : ¬ ((1000 : Int) < (deps.length : Int)) := by omega
  have h4b : decide ((1000 : Int) < (deps.length : Int)) = false := decide_eq_false h4'
  cases h3 : longS out with
  | true =>
    have HE : Hid (planE out (tn : Int) deps = 3) := Lib.hid (by rw [hE, if_pos (.inl h3)])
    have h3' : (4000 : Int) < (out.size : Int) := by unfold longS at h3; have := of_decide_eq_true h3; omega
    clear hE h3
    go_enter Try.func22, Try.ntmps22
    go_wp2_with fail
    go_loopw [6, 7] (fun z i wr => ∃ j : Nat, j ≤ deps.length ∧ i = .int .i64 j ∧ z = .bool true ∧ W0 = wr) (fun _ i _ => deps.length - (intOf i).toNat)
    case atStart => exact ⟨0, Nat.zero_le _, rfl, rfl, rfl⟩
    case round =>
      obtain ⟨j, hj, rfl, rfl, rfl⟩ := hrel
      by_cases hlt : j < deps.length
      · have hi0 : (0 : Int) ≤ (j : Int) := by omega
        have hi1 : (j : Int) < (deps.length : Int) := by omega
        go_wp2_with fail
        go_roundw
        case rel => exact ⟨j + 1, by omega, by go_num, rfl, by simp⟩
        case measure => simp [intOf]; omega
      · obtain rfl : j = deps.length := by omega
        go_wp2_with fail
        go_ret2
        exact plQ_no HE.out (by decide) HB0.out rfl
  | false =>
    have h3' : decide ((4000 : Int) < (out.size : Int)) = false := decide_eq_false (by unfold longS at h3; have := of_decide_eq_false h3; omega)
    have HE : Hid (planE out (tn : Int) deps = if deps.any longS = true then 3 else 0) := Lib.hid (by
      rw [hE, h3]
      cases deps.any longS <;> simp <;> omega)
    have HOS : Hid (out.size ≤ 4000) := Lib.hid (by unfold longS at h3; have := of_decide_eq_false h3; omega)
    clear hE h3
    go_enter Try.func22, Try.ntmps22
    go_wp2_with fail
    go_loopw [6, 7] (fun z i wr => ∃ j : Nat, j ≤ deps.length ∧ i = .int .i64 j ∧ z = .bool ((deps.take j).any longS) ∧ W0 = wr) (fun _ i _ => deps.length - (intOf i).toNat)
    case atStart => exact ⟨0, Nat.zero_le _, rfl, by simp, rfl⟩
    case round =>
      obtain ⟨j, hj, rfl, rfl, rfl⟩ := hrel
      by_cases hlt : j < deps.length
      · have hx := List.getElem?_eq_getElem hlt
        have htk : (deps.take (j + 1)).any longS = ((deps.take j).any longS || longS deps[j]) := by
          rw [List.take_add_one, hx, List.any_append]
          generalize deps[j] = y
          simp
        obtain ⟨_, _, e, _, hrow⟩ := HD.out.below HB0.out
        cases e
        rcases hrow with h0 | ⟨b, off, rfl, hb, hcell⟩
        · rw [h0] at hlt; simp at hlt
        have hc0 := hcell j _ hx
        generalize deps[j] = s at *
        have HTK := Lib.hid htk
        have hi0 : (0 : Int) ≤ (j : Int) := by omega
        have hi1 : (j : Int) < (deps.length : Int) := by omega
        obtain ⟨z, hz⟩ : ∃ z, (deps.take j).any longS = z := ⟨_, rfl⟩
        rw [hz] at HTK ⊢
        clear hcell hx htk hz
        cases z with
        | true =>
          go_wp2_with fail
          go_roundw
          case rel => exact ⟨j + 1, by omega, by go_num, by rw [HTK.out]; rfl, by simp⟩
          case measure => simp [intOf]; omega
        | false =>
          go_wp2_with fail
          go_roundw
          case rel => exact ⟨j + 1, by omega, by go_num, by rw [HTK.out]; unfold longS; congr 1; simp; first | done | omega, by simp⟩
          case measure => simp [intOf]; omega
      · obtain rfl : j = deps.length := by omega
        rw [List.take_length]
        cases hany : deps.any longS with
        | true =>
          have HE3 : Hid (planE out (tn : Int) deps = 3) := Lib.hid (by rw [HE.out, if_pos hany])
          clear hany
          go_wp2_with fail
          go_ret2
          exact plQ_no HE3.out (by decide) HB0.out rfl
        | false =>
          have HE0 : Hid (planE out (tn : Int) deps = 0) := Lib.hid (by rw [HE.out, hany]; rfl)
          have HSZ : Hid (∀ s ∈ out :: deps, s.size ≤ 65535) := Lib.hid fun s hs => by
            rcases List.mem_cons.1 hs with rfl | hs
            · have := HOS.out; omega
            · have hf := List.any_eq_false.1 hany s hs
              unfold longS at hf
              have hf := of_decide_eq_false (Bool.eq_false_iff.2 hf)
              omega
          clear hany HE h1 h2
          obtain ⟨wA, hwA⟩ : ∃ W, W0.alloc (.cells #[] 9) = W := ⟨_, rfl⟩
          have hbA : Below W0.heap.size W0 wA := by rw [← hwA]; exact Pk.below_alloc _ _
          have oA : wA.ownsRow w.heap.size 9 1 (.slice (some ⟨W0.heap.size, 0, Option.none⟩) 0 0) 0 [] := by rw [← hwA]; exact World.ownsRow_made W0 #[] 0 HB0.out.size (by unfold maxLen; omega) rfl
          have hbA' := HB0.out.trans (hbA.mono HB0.out.size)
          obtain ⟨v1, wB, hrB, hoB, hgB, -⟩ := run_appS oA (HN.out.below hbA') HNO.out (by omega) hbA'.size 27
          rw [Nat.zero_add, List.nil_append] at hoB
          obtain ⟨na, nc, rfl⟩ := own_slice hoB
          have hbB : Below w.heap.size w wB := hbA'.trans ⟨hgB.os, hgB.tape, hgB.output, hgB.size, fun k hk => hgB.block k (by have := hbA'.size; omega) fun e => by have := (owns_block oA e.symm).1; omega⟩
          have hbxB : wB.heap[w.heap.size]? = some (.cells #[.string out, .int .i64 (tn : Int), .slice da deps.length dc] 42 (0, 0)) := by
            have x1 := (hbA.block _ (lt_some HBX.out)).trans HBX.out
            refine (hgB.block _ (lt_some x1) fun e => ?_).trans x1
            obtain ⟨_, cur, hc2⟩ := owns_block oA e.symm
            exact ne_type x1 hc2 (by decide) rfl
          have q0 : wA.cell? ⟨q, 0, Option.none⟩ = some vN := by
            have := (hbA.block q (lt_some HQ.out)).trans HQ.out
            simp [World.cell?, this]
          obtain ⟨wC, hwC⟩ : ∃ W, wB.alloc (.cells #[.slice na N.length nc, .slice Option.none 0 0] 30) = W := ⟨_, rfl⟩
          have hbC : Below wB.heap.size wB wC := by rw [← hwC]; exact Pk.below_alloc _ _
          have RP0 : Rp w wC w.heap.size wB.heap.size #[.string out, .int .i64 (tn : Int), .slice da deps.length dc] (.slice na N.length nc) (.slice Option.none 0 0) (.slice Option.none 0 0) 0 N [] [] :=
            ⟨(hbC.block _ (lt_some hbxB)).trans hbxB, by rw [← hwC]; exact heap_alloc_new _ _, Nat.le_refl _, hbB.size, owns_below hoB hbC, rows_nil _ _ _, World.ownsRow_nil _ _ _ _, hbB.trans (hbC.mono hbB.size)⟩
          obtain ⟨bd, hbd⟩ : ∃ k, w.heap.size = k := ⟨_, rfl⟩
          obtain ⟨bc, hbc⟩ : ∃ k, wB.heap.size = k := ⟨_, rfl⟩
          have HRB := Lib.hid hrB
          have R0 : Hid (Rp w wC bd bc #[.string out, .int .i64 (tn : Int), .slice da deps.length dc] (.slice na N.length nc) (.slice Option.none 0 0) (.slice Option.none 0 0) 0 N [] []) := by rw [← hbd, ← hbc]; exact Lib.hid RP0
          have HBD := Lib.hid hbd
          clear hbA oA hbA' hrB hoB hgB hbB hbxB hbC RP0 hbd
          go_wp2_with (at_builtin; refine wpList_run rfl (.tmp 52) (.tmp 56) rfl rfl rfl HRB.out ?_)

          clear b0 b1 b2
          rw [HBD.out]
          go_loopw [8, 10, 11, 12, 13, 14] (fun v8 v10 i _ _ _ wr => ∃ j : Nat, j ≤ deps.length + 1 ∧ i = .int .i64 ((j : Int) - 1) ∧ ∃ (ra : Option Addr) (rc : Nat) (ia : Option Addr) (ni ic : Nat) (na : Option Addr) (nc : Nat) (M : List ByteArray) (recs : List (List Nat)) (X : List Nat),
              v8 = .slice ra recs.length rc ∧ v10 = .slice ia ni ic ∧ Hid (Rp w wr bd bc #[.string out, .int .i64 (tn : Int), .slice da deps.length dc] (.slice na M.length nc) (.slice ra recs.length rc) (.slice ia ni ic) ni M recs X) ∧
              Hid (M = (tellAll N ((out :: deps).take j)).M ∧ recs = (tellAll N ((out :: deps).take j)).recs ∧ X = idB (tellAll N ((out :: deps).take j)).ids.tail)) (fun _ _ i _ _ _ _ => (deps.length - intOf i).toNat)
          case atStart => exact ⟨0, Nat.zero_le _, rfl, Option.none, 0, Option.none, 0, 0, na, nc, N, [], [], rfl, rfl, R0, Lib.hid ⟨rfl, rfl, rfl⟩⟩
          case round =>
            obtain ⟨j, hj, rfl, ra, rc, ia, ni, ic, na, nc, M, recs, X, rfl, rfl, HR, HT⟩ := hrel
            have HLEN : Hid (M.length ≤ 92000 ∧ recs.length ≤ 1001) := Lib.hid (by
              obtain ⟨l1, l2, l3⟩ := tell_len N ((out :: deps).take j)
              rw [← HT.out.1, List.length_take] at l1
              rw [← HT.out.2.1, List.length_take] at l2
              simp at l1 l2
              omega)
            clear R0
            obtain ⟨⟨b0, b1, b2⟩, b3, b4⟩ := HR.out.cells
            cases j with
            | zero =>
              have ei : ((0 : Nat) : Int) - 1 = -1 := rfl
              rw [ei]
              have hi1 : (-1 : Int) < (deps.length : Int) := by omega
              obtain ⟨s, hs⟩ : ∃ s, out = s := ⟨_, rfl⟩
              have HSS : Hid (s.size ≤ 65535) := Lib.hid (by have := HSZ.out out (by simp); rw [← hs]; exact this)
              have hat := HR.out.at s (by have := HLEN.out.1; omega)
              rw [hs] at b0
              have HS := Lib.hid hs
              have HT1 : Hid ((tellAll N ((out :: deps).take (0 + 1))) = (⟨M, recs, []⟩ : Tl).tell s) := Lib.hid (by
                have e : (⟨M, recs, []⟩ : Tl) = ⟨N, [], []⟩ := by rw [HT.out.1, HT.out.2.1]; rfl
                rw [e, ← hs]
                rfl)
              have HX : Hid (X = []) := Lib.hid HT.out.2.2
              clear hs ei
              go_wp2_with fail
              refine hat.mono ?_
              rintro e w4 ⟨rfl, rfl⟩
              clear hat
              unfold atZ
              cases hix : ixOf M s with
              | some i =>
                have HF : Hid (M = (tellAll N ((out :: deps).take (0 + 1))).M ∧ recs = (tellAll N ((out :: deps).take (0 + 1))).recs ∧ X = idB (tellAll N ((out :: deps).take (0 + 1))).ids.tail) := Lib.hid (by
                  rw [HT1.out, HX.out]
                  unfold Tl.tell
                  rw [hix]
                  exact ⟨rfl, rfl, rfl⟩)
                clear hix
                simp only []
                go_wp2_with fail
                go_roundw
                case rel => exact ⟨0 + 1, by omega, by go_num, ra, rc, ia, ni, ic, na, nc, M, recs, X, rfl, rfl, HR, HF⟩
                case measure => simp [intOf] <;> omega
              | none =>
                have HF : Hid (M ++ [s] = (tellAll N ((out :: deps).take (0 + 1))).M ∧ recs ++ [recN s] = (tellAll N ((out :: deps).take (0 + 1))).recs ∧ X = idB (tellAll N ((out :: deps).take (0 + 1))).ids.tail) := Lib.hid (by
                  rw [HT1.out, HX.out]
                  unfold Tl.tell
                  rw [hix]
                  exact ⟨rfl, rfl, rfl⟩)
                clear hix
                simp only []
                have hMl : M.length ≤ 92000 := HLEN.out.1
                obtain ⟨a9, c9, w9, hr9, ho9, hg9, hw9⟩ := str_app (s := s) HR.out.names HR.out.bel.size (by omega) 27
                obtain ⟨RP9, d0, d1⟩ := HR.out.named ho9 hg9
                have e9 : (M ++ [s]).length = M.length + 1 := by simp
                rw [e9] at hr9 RP9
                have HR9 := Lib.hid hr9
                obtain ⟨W9, hW9⟩ : ∃ W, w9.setCell ⟨bc, 0, Option.none⟩ (.slice a9 (M.length + 1) c9) = W := ⟨_, rfl⟩
                rw [hW9] at RP9
                have HRP9 := Lib.hid RP9
                have ct := Pk.reft_any s W9 HSS.out
                clear hr9 ho9 hg9 hw9 RP9 e9
                go_wp2_with (at_builtin; refine wpList_run rfl (.tmp 84) (.tmp 86) rfl rfl rfl HR9.out ?_)
                refine ct.mono ?_
                rintro e w4 ⟨ta, tn1, tc, rfl, hown4, hb4⟩
                have hlen4 : 1 + tn1 = (recN s).length := by
                  have := hown4.1
                  rw [Pk.bytesV_length] at this
                  unfold recN
                  rw [List.length_cons]
                  omega
                have hb5 : Below W9.heap.size W9 (w4.alloc (.cells #[.int .u8 1] 5)) := hb4.alloc hb4.size _
                have lit := World.ownsRow_lit (base := W9.heap.size) (e := 5) (size := 1) w4 #[.int .u8 1] 1 hb4.size (by unfold maxLen; omega) rfl
                obtain ⟨a5, c5, w5, hr5, ho5, hg5, -⟩ := app_any (xs := [1]) (ys := Pk.le s.size 2 ++ Pk.sb s) (W := w4.alloc (.cells #[.int .u8 1] 5)) lit (owns_below hown4 (Pk.below_alloc w4 (.cells #[.int .u8 1] 5))) (by have := HSS.out; unfold recN at hlen4; simp [Pk.le_length, Pk.sb_length] at hlen4; omega) hb5.size
                have hb6 : Below W9.heap.size W9 w5 := hb5.trans (Pk.below_grown lit hg5 hb5.size)
                rw [hlen4] at hr5 ho5
                obtain ⟨ra', rc', a6, c6, w6, ev6, hr6, RP6⟩ := HRP9.out.more hb6 (r := recN s) ho5 (by have := HLEN.out.2; omega)
                obtain ⟨rfl, -, rfl⟩ := Value.slice.inj ev6
                have HR5 := Lib.hid hr5
                have HR6 := Lib.hid hr6
                have HRP6 := Lib.hid RP6
                clear ct hown4 hb4 hlen4 hb5 lit hr5 ho5 hg5 hb6 hr6 RP6 ev6 d0 d1 hW9
                go_wp2_with (first | (at_builtin; refine wpList_run rfl (.tmp 96) (.tmp 97) rfl rfl rfl HR5.out ?_) | (at_builtin; refine wpList_run rfl (.tmp 95) (.tmp 99) rfl rfl rfl HR6.out ?_))

                go_roundw
                case rel => exact ⟨0 + 1, by omega, by go_num, a6, c6, ia, ni, ic, a9, c9, M ++ [s], recs ++ [recN s], X, by simp, rfl, by simpa using HRP6, HF⟩
                case measure => simp [intOf] <;> omega
            | succ k =>
              have ei : ((k + 1 : Nat) : Int) - 1 = (k : Int) := by omega
              rw [ei]
              by_cases hlt : k < deps.length
              · have hx := List.getElem?_eq_getElem hlt
                have hmem := HSZ.out _ (List.mem_cons_of_mem out (List.getElem_mem hlt))
                have HTK : Hid ((out :: deps).take (k + 1 + 1) = (out :: deps).take (k + 1) ++ [deps[k]]) := Lib.hid (by rw [List.take_succ_cons, List.take_succ_cons, List.take_add_one, hx]; rfl)
                obtain ⟨_, _, e, _, hrow⟩ := HD.out
                cases e
                rcases hrow with h0 | ⟨b, off, rfl, hb, hcell⟩
                · rw [h0] at hlt; simp at hlt
                have hc0 := hcell k _ hx
                obtain ⟨s, hs⟩ : ∃ s, deps[k] = s := ⟨_, rfl⟩
                rw [hs] at hc0 hmem HTK
                have hc1 : wr.cell? ⟨b, off + k, Option.none⟩ = some (.string s) := (cell_of_block (HR.out.bel.block b hb)).trans hc0
                have HC1 := Lib.hid hc0
                have HSS : Hid (s.size ≤ 65535) := Lib.hid hmem
                have hat := HR.out.at s (by have := HLEN.out.1; omega)
                have HT1 : Hid ((tellAll N ((out :: deps).take (k + 1 + 1))) = (tellAll N ((out :: deps).take (k + 1))).tell s) := Lib.hid (by rw [HTK.out, tellAll_snoc])
                have HX1 : Hid (idB (tellAll N ((out :: deps).take (k + 1 + 1))).ids.tail = X ++ Pk.le (numOf M s) 4) := Lib.hid (by
                  have e1 : (out :: deps).take (k + 1 + 1) = out :: (deps.take k ++ [s]) := HTK.out
                  rw [e1, ids_snoc, HT.out.2.2, HT.out.1]
                  rfl)
                have HNI : Hid (ni ≤ 4000) := Lib.hid (by
                  have e1 := HR.out.ids.1
                  rw [Pk.bytesV_length, HT.out.2.2] at e1
                  have e2 := ids_len N out (deps.take k)
                  rw [List.length_take] at e2
                  have e3 : (out :: deps).take (k + 1) = out :: deps.take k := rfl
                  rw [e3] at e1
                  omega)
                have hi0 : (0 : Int) ≤ (k : Int) := by omega
                have hi1 : (k : Int) < (deps.length : Int) := by omega
                clear hx hmem hcell hc0 hs ei
                go_wp2_with fail
                refine hat.mono ?_
                rintro e w4 ⟨rfl, rfl⟩
                clear hat
                unfold atZ
                cases hix : ixOf M s with
                | some i =>
                  have HF : Hid (M = (tellAll N ((out :: deps).take (k + 1 + 1))).M ∧ recs = (tellAll N ((out :: deps).take (k + 1 + 1))).recs ∧ X ++ Pk.le i 4 = idB (tellAll N ((out :: deps).take (k + 1 + 1))).ids.tail) := Lib.hid (by
                    rw [HX1.out, HT1.out, HT.out.1, HT.out.2.1]
                    rw [HT.out.1] at hix
                    unfold Tl.tell numOf
                    rw [hix]
                    exact ⟨rfl, rfl, rfl⟩)
                  have hil : i < M.length := ixOf_lt hix
                  have hat := HR.out.at s (by have := HLEN.out.1; omega)
                  unfold atZ at hat
                  rw [hix] at hat
                  have hat : Calls Try.prog 31 #[.pointer (some ⟨bc, 0, Option.none⟩), .string s] wr fun e w' => e = .returned (.int .i64 (i : Int)) ∧ wr = w' := hat
                  have hil2 : i < 92000 := by have := HLEN.out.1; omega
                  have hwz : IntKind.u64.wrap (i : Int) = (i : Int) := by rw [IntKind.wrap_u64]; omega
                  have cn := Pk.refnum_any i 4 wr (by omega) (by omega)
                  clear hix hil
                  simp only []
                  go_wp2_with fail
                  refine hat.mono ?_
                  rintro e w4 ⟨rfl, rfl⟩
                  clear hat
                  go_wp2_with fail
                  refine cn.mono ?_
                  rintro e w5 ⟨a5, n5, c5, rfl, hown5, hb5⟩
                  have hn5 : n5 = 4 := by have := hown5.1; rw [Pk.bytesV_length, Pk.le_length] at this; omega
                  subst hn5
                  obtain ⟨a7, c7, w7, hr7, RP7⟩ := HR.out.num hb5 hown5 (by have := HNI.out; omega)
                  have HR7 := Lib.hid hr7
                  have HRP7 := Lib.hid RP7
                  clear cn hown5 hb5 hr7 RP7 hil2 hwz
                  go_wp2_with (at_builtin; refine wpList_run rfl (.tmp 103) (.tmp 108) rfl rfl rfl HR7.out ?_)
                  go_roundw
                  case rel => exact ⟨k + 1 + 1, by omega, by go_num, ra, rc, a7, ni + 4, c7, na, nc, M, recs, _, rfl, rfl, HRP7, HF⟩
                  case measure => simp [intOf] <;> omega
                | none =>
                  have HF : Hid (M ++ [s] = (tellAll N ((out :: deps).take (k + 1 + 1))).M ∧ recs ++ [recN s] = (tellAll N ((out :: deps).take (k + 1 + 1))).recs ∧ X ++ Pk.le M.length 4 = idB (tellAll N ((out :: deps).take (k + 1 + 1))).ids.tail ∧ ixOf (M ++ [s]) s = some M.length) := Lib.hid (by
                    rw [HX1.out, HT1.out, HT.out.1, HT.out.2.1]
                    rw [HT.out.1] at hix
                    unfold Tl.tell numOf
                    rw [hix]
                    refine ⟨rfl, rfl, rfl, ?_⟩
                    rw [ixOf_snoc, hix, if_pos rfl]
                    rfl)
                  clear hix
                  simp only []
                  have hMl : M.length ≤ 92000 := HLEN.out.1
                  obtain ⟨a9, c9, w9, hr9, ho9, hg9, hw9⟩ := str_app (s := s) HR.out.names HR.out.bel.size (by omega) 27
                  obtain ⟨RP9, d0, d1⟩ := HR.out.named ho9 hg9
                  have e9 : (M ++ [s]).length = M.length + 1 := by simp
                  rw [e9] at hr9 RP9
                  have HR9 := Lib.hid hr9
                  obtain ⟨W9, hW9⟩ : ∃ W, w9.setCell ⟨bc, 0, Option.none⟩ (.slice a9 (M.length + 1) c9) = W := ⟨_, rfl⟩
                  rw [hW9] at RP9
                  have HRP9 := Lib.hid RP9
                  have ct := Pk.reft_any s W9 HSS.out
                  clear hr9 ho9 hg9 hw9 RP9 e9
                  go_wp2_with (at_builtin; refine wpList_run rfl (.tmp 84) (.tmp 86) rfl rfl rfl HR9.out ?_)
                  refine ct.mono ?_
                  rintro e w4 ⟨ta, tn1, tc, rfl, hown4, hb4⟩
                  have hlen4 : 1 + tn1 = (recN s).length := by
                    have := hown4.1
                    rw [Pk.bytesV_length] at this
                    unfold recN
                    rw [List.length_cons]
                    omega
                  have hb5 : Below W9.heap.size W9 (w4.alloc (.cells #[.int .u8 1] 5)) := hb4.alloc hb4.size _
                  have lit := World.ownsRow_lit (base := W9.heap.size) (e := 5) (size := 1) w4 #[.int .u8 1] 1 hb4.size (by unfold maxLen; omega) rfl
                  obtain ⟨a5, c5, w5, hr5, ho5, hg5, -⟩ := app_any (xs := [1]) (ys := Pk.le s.size 2 ++ Pk.sb s) (W := w4.alloc (.cells #[.int .u8 1] 5)) lit (owns_below hown4 (Pk.below_alloc w4 (.cells #[.int .u8 1] 5))) (by have := HSS.out; unfold recN at hlen4; simp [Pk.le_length, Pk.sb_length] at hlen4; omega) hb5.size
                  have hb6 : Below W9.heap.size W9 w5 := hb5.trans (Pk.below_grown lit hg5 hb5.size)
                  rw [hlen4] at hr5 ho5
                  obtain ⟨ra', rc', a6, c6, w6, ev6, hr6, RP6⟩ := HRP9.out.more hb6 (r := recN s) ho5 (by have := HLEN.out.2; omega)
                  obtain ⟨rfl, -, rfl⟩ := Value.slice.inj ev6
                  have HR5 := Lib.hid hr5
                  have HR6 := Lib.hid hr6
                  have HRP6 := Lib.hid RP6
                  clear ct hown4 hb4 hlen4 hb5 lit hr5 ho5 hg5 hb6 hr6 RP6 ev6 d0 d1 hW9
                  go_wp2_with (first | (at_builtin; refine wpList_run rfl (.tmp 96) (.tmp 97) rfl rfl rfl HR5.out ?_) | (at_builtin; refine wpList_run rfl (.tmp 95) (.tmp 99) rfl rfl rfl HR6.out ?_))

                  obtain ⟨⟨g0, g1, g2⟩, g3, g4⟩ := HRP6.out.cells
                  have hat := HRP6.out.at s (by have := HLEN.out.1; simp; omega)
                  unfold atZ at hat
                  rw [HF.out.2.2.2] at hat
                  have hat : Calls Try.prog 31 #[.pointer (some ⟨bc, 0, Option.none⟩), .string s] w6 fun e w' => e = .returned (.int .i64 (M.length : Int)) ∧ w6 = w' := hat
                  have hwz : IntKind.u64.wrap (M.length : Int) = (M.length : Int) := by rw [IntKind.wrap_u64]; omega
                  have cn := Pk.refnum_any M.length 4 w6 (by omega) (by omega)
                  refine hat.mono ?_
                  rintro e w4 ⟨rfl, rfl⟩
                  clear hat
                  go_wp2_with fail
                  refine cn.mono ?_
                  rintro e w5 ⟨a5, n5, c5, rfl, hown5, hb5⟩
                  have hn5 : n5 = 4 := by have := hown5.1; rw [Pk.bytesV_length, Pk.le_length] at this; omega
                  subst hn5
                  obtain ⟨a7, c7, w7, hr7, RP7⟩ := HRP6.out.num hb5 hown5 (by have := HNI.out; omega)
                  have HR7 := Lib.hid hr7
                  have HRP7 := Lib.hid RP7
                  clear cn hown5 hb5 hr7 RP7 hwz
                  go_wp2_with (at_builtin; refine wpList_run rfl (.tmp 103) (.tmp 108) rfl rfl rfl HR7.out ?_)
                  go_roundw
                  case rel => exact ⟨k + 1 + 1, by omega, by go_num, a6, c6, a7, ni + 4, c7, a9, c9, M ++ [s], recs ++ [recN s], _, by simp, rfl, by simpa using HRP7, Lib.hid ⟨HF.out.1, HF.out.2.1, HF.out.2.2.1⟩⟩
                  case measure => simp [intOf] <;> omega
              · obtain rfl : k = deps.length := by omega
                have eT : (out :: deps).take (deps.length + 1) = out :: deps := by rw [List.take_succ_cons, List.take_length]
                rw [eT] at HT
                obtain ⟨i, hi⟩ : ∃ i, (tellAll N (out :: deps)).ids.headD 0 = i := ⟨_, rfl⟩
                have hix : ixOf M out = some i := by rw [HT.out.1, ← hi]; exact head_ix N out deps
                have HFIN : Hid ([2] ++ Pk.le i 4 ++ Pk.le tn 8 ++ Pk.le deps.length 4 ++ X = recO ((tellAll N (out :: deps)).ids.headD 0) tn (tellAll N (out :: deps)).ids.tail ∧ X.length = 4 * deps.length) := Lib.hid (by
                  rw [hi, HT.out.2.2, ids_len]
                  refine ⟨?_, rfl⟩
                  have hl := (tell_len N (out :: deps)).2.2
                  unfold recO
                  rw [List.length_tail, hl]
                  simp)
                have hil : i < 92000 := Nat.lt_of_lt_of_le (ixOf_lt hix) HLEN.out.1
                have hNI : ni = 4 * deps.length := by have := HR.out.ids.1; rw [Pk.bytesV_length, HFIN.out.2] at this; omega
                have HNI := Lib.hid hNI
                have hwz : IntKind.u64.wrap (i : Int) = (i : Int) := by rw [IntKind.wrap_u64]; omega
                have hwt : IntKind.u64.wrap (tn : Int) = (tn : Int) := by rw [IntKind.wrap_u64]; omega
                have hwd : IntKind.u64.wrap (deps.length : Int) = (deps.length : Int) := by rw [IntKind.wrap_u64]; omega
                obtain ⟨wL, hwL⟩ : ∃ W, wr.alloc (.cells #[.int .u8 2] 5) = W := ⟨_, rfl⟩
                have hbL : Below wr.heap.size wr wL := by rw [← hwL]; exact Pk.below_alloc _ _
                have lit : wL.ownsRow wr.heap.size 5 1 (.slice (some ⟨wr.heap.size, 0, Option.none⟩) 1 1) 1 (Pk.bytesV [2]) := by rw [← hwL]; exact World.ownsRow_lit (base := wr.heap.size) (e := 5) (size := 1) wr #[.int .u8 2] 1 (Nat.le_refl _) (by unfold maxLen; omega) rfl
                obtain ⟨⟨g0, g1, g2⟩, g3, g4⟩ := (HR.out.below hbL).cells
                have hat := (HR.out.below hbL).at out (by have := HLEN.out.1; omega)
                unfold atZ at hat
                rw [hix] at hat
                have hat : Calls Try.prog 31 #[.pointer (some ⟨bc, 0, Option.none⟩), .string out] wL fun e w' => e = .returned (.int .i64 (i : Int)) ∧ wL = w' := hat
                have cn := Pk.refnum_any i 4 wL (by omega) (by omega)
                have HBL := Lib.hid hbL
                have HLIT := Lib.hid lit
                clear hix hi eT hbL lit hNI ei
                go_wp2_with fail
                refine hat.mono ?_
                rintro e w4 ⟨rfl, rfl⟩
                clear hat b0 b1 b2 b3 b4
                go_wp2_with fail
                refine cn.mono ?_
                rintro e w2 ⟨a2, n2, c2, rfl, hown2, hb2⟩
                have hn2 : n2 = 4 := by have := hown2.1; rw [Pk.bytesV_length, Pk.le_length] at this; omega
                subst hn2
                obtain ⟨a3, c3, w3, hr3, ho3, hb3⟩ := app_beside HLIT.out HBL.out hb2 hown2 (by omega)
                obtain ⟨⟨g0, g1, g2⟩, -⟩ := (HR.out.below hb3).cells
                have HR3 := Lib.hid hr3
                have HO3 := Lib.hid ho3
                have HB3 := Lib.hid hb3
                have cn := Pk.refnum_any tn 8 w3 (by omega) (by omega)
                clear hown2 hb2 hr3 ho3 hb3 hwz hil hwL
                go_wp2_with (at_builtin; refine wpList_run rfl (.tmp 110) (.tmp 116) rfl rfl rfl HR3.out ?_)
                refine cn.mono ?_
                rintro e w4 ⟨a4, n4, c4, rfl, hown4, hb4⟩
                have hn4 : n4 = 8 := by have := hown4.1; rw [Pk.bytesV_length, Pk.le_length] at this; omega
                subst hn4
                obtain ⟨a5, c5, w5, hr5, ho5, hb5⟩ := app_beside HO3.out HB3.out hb4 hown4 (by omega)
                obtain ⟨⟨g0, g1, g2⟩, -⟩ := (HR.out.below hb5).cells
                have HR5 := Lib.hid hr5
                have HO5 := Lib.hid ho5
                have HB5 := Lib.hid hb5
                have cn := Pk.refnum_any deps.length 4 w5 (by omega) (by omega)
                clear hown4 hb4 hr5 ho5 hb5 hwt
                go_wp2_with (at_builtin; refine wpList_run rfl (.tmp 118) (.tmp 122) rfl rfl rfl HR5.out ?_)
                refine cn.mono ?_
                rintro e w6 ⟨a6, n6, c6, rfl, hown6, hb6⟩
                have hn6 : n6 = 4 := by have := hown6.1; rw [Pk.bytesV_length, Pk.le_length] at this; omega
                subst hn6
                obtain ⟨a7, c7, w7, hr7, ho7, hb7⟩ := app_beside HO5.out HB5.out hb6 hown6 (by omega)
                have hids := (HR.out.below hb7).ids
                obtain ⟨a8, c8, w8, hr8, ho8, hb8⟩ := app_beside ho7 hb7 (Below.refl _ _) hids (by have := HNI.out; omega)
                have hlen8 : 1 + 4 + 8 + 4 + ni = (recO ((tellAll N (out :: deps)).ids.headD 0) tn (tellAll N (out :: deps)).ids.tail).length := by
                  rw [← HFIN.out.1]
                  simp only [List.length_append, Pk.le_length, List.length_cons, List.length_nil]
                  have := HNI.out
                  have := HFIN.out.2
                  omega
                rw [HFIN.out.1, hlen8] at ho8
                rw [hlen8] at hr8
                obtain ⟨ra', rc', a9, c9, w9, ev9, hr9, RP9⟩ := HR.out.more hb8 ho8 (by have := HLEN.out.2; omega)
                obtain ⟨rfl, -, rfl⟩ := Value.slice.inj ev9
                have HFIN2 : Hid (PlQ w N out (tn : Int) deps (.returned (.tuple #[.slice a9 (recs.length + 1) c9, .int .i64 0])) w9) := Lib.hid ⟨_, by rw [HE0.out]; rfl, by
                  rw [HE0.out, if_pos rfl]
                  have e : plan N out ((tn : Int)).toNat deps = recs ++ [recO ((tellAll N (out :: deps)).ids.headD 0) tn (tellAll N (out :: deps)).ids.tail] := by rw [HT.out.2.1]; rfl
                  rw [e]
                  exact ⟨RP9.rows.avoid (fun k hk => nomatch hk), RP9.bel⟩⟩
                have HR7 := Lib.hid hr7
                have HR8 := Lib.hid hr8
                have HR9 := Lib.hid hr9
                generalize (recO ((tellAll N (out :: deps)).ids.headD 0) tn (tellAll N (out :: deps)).ids.tail).length = rl at *
                clear hown6 hb6 hr7 hr8 hr9 ho7 hb7 ho8 hb8 hids hlen8 RP9 ev9 hwd g0 g1 g2 g3 g4
                go_wp2_with (first | (at_builtin; refine wpList_run rfl (.tmp 124) (.tmp 129) rfl rfl rfl HR7.out ?_) | (at_builtin; refine wpList_run rfl (.tmp 132) (.tmp 133) rfl rfl rfl HR8.out ?_) | (at_builtin; refine wpList_run rfl (.tmp 131) (.tmp 135) rfl rfl rfl HR9.out ?_))
                go_ret2
                exact HFIN2.out
end Go.Proofs.Ytofdnbddpageoaa.Nm
