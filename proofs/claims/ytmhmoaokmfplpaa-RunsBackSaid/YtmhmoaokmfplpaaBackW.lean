/-
  THE LAW RunsBack, WALKED.
-/
import Derived.Test.YtmhmoaokmfplpaaRnBk
import Derived.Test.YtmhmoaokmfplpaaRnOf
import Derived.Test.YtmhmoaokmfplpaaRnTold
import Derived.Test.YtmhmoaokmfplpaaRnAwake
import Derived.Test.YtmhmoaokmfplpaaRnRead6
namespace Go.Proofs.Ytmhmoaokmfplpaa.Rn
open Go.RowKit
open Go.Proofs.Ytmhmoaokmfplpaa.Cr

/-- the law's box of the run -/
structure BkW (w W : World) (r : Run) (vi vf : Value) (a : Option Addr) (l : List Nat) : Prop where
  box : W.heap[w.heap.size]? = some (.cells (runC r vi vf) 25 (0, 0))
  ins : InRow W vi r.ins
  fds : FdRow W vf r.found
  row : Pk.Row W a l
  bel : Below w.heap.size w W
  siz : w.heap.size + 1 ≤ W.heap.size

theorem BkW.next {w W W1 : World} {r : Run} {vi vf : Value} {a : Option Addr} {l : List Nat} (h : BkW w W r vi vf a l) (hb : Below W.heap.size W W1) : BkW w W1 r vi vf a l :=
  ⟨(hb.block _ (by have := h.siz; omega)).trans h.box, h.ins.below hb, h.fds.below hb, h.row.below hb, h.bel.trans (hb.mono h.bel.size), Nat.le_trans h.siz hb.size⟩

theorem rdQ_none {w w' : World} {b : List Nat} {e : Ending} (hf : fits b = false) (h : RdQ w b e w') : ∃ a c a' c', e = .returned (.tuple #[.agg #[.string ⟨#[]⟩, .string ⟨#[]⟩, .int .i64 0, .int .i64 0, .slice a 0 c, .slice a' 0 c'], .int .i64 4]) ∧ Below w.heap.size w w' := by
  obtain ⟨vi, vf, he, hi, hfd, hb⟩ := h
  have e1 : rdE b = 4 := by unfold rdE; rw [hf]; rfl
  have e2 : rdO b = none := by unfold rdO; rw [hf]; rfl
  rw [e2] at hi hfd
  obtain ⟨a, c, rfl, _⟩ := hi
  obtain ⟨a', c', rfl, _⟩ := hfd
  rw [e1, e2] at he
  exact ⟨a, c, a', c', he, hb⟩

theorem rdQ_some {w w' : World} {b : List Nat} {r : Run} {e : Ending} (hf : fits b = true) (hr : rdR b = r) (h : RdQ w b e w') : ∃ a c a' c', e = .returned (.tuple #[.agg (runC r (.slice a r.ins.length c) (.slice a' r.found.length c')), .int .i64 0]) ∧ InRow w' (.slice a r.ins.length c) r.ins ∧ FdRow w' (.slice a' r.found.length c') r.found ∧ Below w.heap.size w w' := by
  obtain ⟨vi, vf, he, hi, hfd, hb⟩ := h
  have e1 : rdE b = 0 := by unfold rdE; rw [hf]; rfl
  have e2 : rdO b = r := by unfold rdO; rw [hf, ← hr]; rfl
  rw [e2] at hi hfd
  rw [e1, e2] at he
  have hi' := hi
  have hfd' := hfd
  obtain ⟨a, c, rfl, _⟩ := hi
  obtain ⟨a', c', rfl, _⟩ := hfd
  exact ⟨a, c, a', c', he, hi', hfd', hb⟩

set_option maxRecDepth 100000 in
set_option maxHeartbeats 8000000 in
theorem back_main {w : World} {r : Run} {vi vf : Value} {a : Option Addr} {n c : Nat} {l : List Nat} (hi : InRow w vi r.ins) (hf : FdRow w vf r.found) (h64 : R64 r) (hsm : lightB r = true) (hrow : Pk.Row w a l) (hn : Hid (n = l.length)) (hl : ∀ x ∈ l, x < 256) (hlen : n ≤ 5000) :
    Calls Try.prog 6 #[.agg (runC r vi vf), .slice a n c] w fun e w' => e = .returned (.bool true) ∧ Below w.heap.size w w' := by
  obtain ⟨W0, hW0⟩ : ∃ W, w.alloc (.cells (runC r vi vf) 25) = W := ⟨_, rfl⟩
  have z1 : W0.heap.size = w.heap.size + 1 := by rw [← hW0]; exact Array.size_push _
  have x0 : BkW w W0 r vi vf a l := by
    have hB : Below w.heap.size w W0 := by rw [← hW0]; exact Pk.below_alloc _ _
    exact ⟨by rw [← hW0]; exact heap_alloc_new _ _, hi.below hB, hf.below hB, hrow.below hB, hB, by omega⟩
  have hFit := Lib.hid (fit_of hsm h64)
  obtain ⟨-, -, l3, l4, -⟩ := light_parts hsm
  have hSz := Lib.hid (light_size hsm)
  have cL := light_c x0.ins x0.fds
  rw [hsm] at cL
  have hSM := Lib.hid hsm
  have X0 := Lib.hid x0
  obtain ⟨⟨c0, c1, c2, c3, c4, c5⟩, -⟩ := six_cells x0.box
  unfold runC at hW0 cL ⊢
  clear x0 z1 hi hf hrow hsm
  go_enter Try.func6, Try.ntmps6
  go_wp2_with fail
  refine cL.mono ?_
  rintro e w1 ⟨rfl, hb1⟩
  have X1 := Lib.hid (X0.out.next hb1)
  clear cL c0 c1 c2 c3 c4 c5 hW0 hb1
  obtain ⟨⟨c0, c1, c2, c3, c4, c5⟩, -⟩ := six_cells X1.out.box
  have hn5 : ¬ (5000 : Int) < (n : Int) := by omega
  go_upto_region 3 with fail
  go_cut [5] (fun s5 wx => Hid (s5 = .bool (lateT r.time || lateT r.mark)) ∧ wx = w1)
  case first =>
    have eT := Lib.hid (lateT_int r.time)
    have eM := Lib.hid (lateT_int r.mark)
    by_cases hT : (4611686018427387904 : Int) ≤ r.time
    · go_wp2_with fail
      go_meet
      exact ⟨Lib.hid (by rw [eT.out, decide_eq_true hT]; rfl), rfl⟩
    · by_cases hM : (4611686018427387904 : Int) ≤ r.mark
      · go_wp2_with fail
        go_meet
        exact ⟨Lib.hid (by rw [eT.out, eM.out, decide_eq_true hM]; simp), rfl⟩
      · go_wp2_with fail
        go_meet
        exact ⟨Lib.hid (by rw [eT.out, eM.out, decide_eq_false (by omega), decide_eq_false (by omega)]; rfl), rfl⟩
  case rest =>
    obtain ⟨h5, rfl⟩ := hcut
    obtain ⟨ai, ci, rfl, hni, hci, hrowI⟩ := X1.out.ins
    obtain ⟨af, cf, rfl, hnf, hcf, hrowF⟩ := X1.out.fds
    have RI := Lib.hid hrowI
    have RF := Lib.hid hrowF
    have TI := Lib.hid (fun (j : Nat) (x : In) (hx : r.ins[j]? = some x) => anyI_next hx)
    have TF := Lib.hid (fun (j : Nat) (x : Int) (hx : r.found[j]? = some x) => anyF_next hx)
    have LT := Lib.hid lateT_int
    obtain rfl := h5.out
    have eB : Hid (∃ B, B = (lateT r.time || lateT r.mark)) := Lib.hid ⟨_, rfl⟩
    obtain ⟨B, hB⟩ := eB.out
    rw [← hB] at h5 ⊢
    have HB := Lib.hid hB
    clear hrowI hrowF hB eB h5
    go_wp2_with fail
    go_loop [5, 6] (fun s5 i => ∃ j : Nat, j ≤ r.ins.length ∧ i = .int .i64 j ∧ ∃ b : Bool, s5 = .bool b ∧ Hid (b = (B || anyI (r.ins.take j)))) (fun _ i => r.ins.length - (intOf i).toNat)
    case atStart => exact ⟨0, Nat.zero_le _, rfl, B, rfl, Lib.hid (by simp [anyI])⟩
    case round =>
      obtain ⟨j, hj, rfl, b, rfl, hb⟩ := hrel
      by_cases hlt : j < r.ins.length
      · have hx := List.getElem?_eq_getElem hlt
        rcases RI.out with h | ⟨bk, off, rfl, hbk, hcell⟩
        · rw [h] at hlt; simp at hlt
        obtain ⟨x0, x1⟩ := hcell j _ hx
        have hnx := TI.out j _ hx
        generalize r.ins[j] = x at *
        have HNX := Lib.hid hnx
        clear hnx hcell hx
        cases b with
        | true =>
          go_wp2_with fail
          go_round
          case rel => exact ⟨j + 1, by omega, by go_num, true, rfl, Lib.hid (by rw [HNX.out, ← Bool.or_assoc, ← hb.out]; rfl)⟩
          case measure => simp [intOf]; omega
        | false =>
          by_cases hT : (4611686018427387904 : Int) ≤ x.time
          · have HT := Lib.hid hT
            go_wp2_with fail
            go_round
            case rel => exact ⟨j + 1, by omega, by go_num, true, rfl, Lib.hid (by rw [HNX.out, ← Bool.or_assoc, ← hb.out, LT.out, decide_eq_true HT.out]; rfl)⟩
            case measure => simp [intOf]; omega
          · have HT := Lib.hid hT
            go_wp2_with fail
            go_round
            case rel => exact ⟨j + 1, by omega, by go_num, false, rfl, Lib.hid (by rw [HNX.out, ← Bool.or_assoc, ← hb.out, LT.out, decide_eq_false HT.out]; rfl)⟩
            case measure => simp [intOf]; omega
      · obtain rfl : j = r.ins.length := by omega
        rw [List.take_length] at hb
        go_wp2_with fail
        go_loop [5, 7] (fun s5 i => ∃ j : Nat, j ≤ r.found.length ∧ i = .int .i64 j ∧ ∃ b : Bool, s5 = .bool b ∧ Hid (b = ((B || anyI r.ins) || anyF (r.found.take j)))) (fun _ i => r.found.length - (intOf i).toNat)
        case atStart => exact ⟨0, Nat.zero_le _, rfl, b, rfl, Lib.hid (by rw [hb.out]; simp [anyF])⟩
        case round =>
          obtain ⟨j, hj, rfl, b, rfl, hb⟩ := hrel
          by_cases hlt : j < r.found.length
          · have hx := List.getElem?_eq_getElem hlt
            rcases RF.out with h | ⟨bk, off, rfl, hbk, hcell⟩
            · rw [h] at hlt; simp at hlt
            have x0 := hcell j _ hx
            have hnx := TF.out j _ hx
            generalize r.found[j] = x at *
            have HNX := Lib.hid hnx
            clear hnx hcell hx
            cases b with
            | true =>
              go_wp2_with fail
              go_round
              case rel => exact ⟨j + 1, by omega, by go_num, true, rfl, Lib.hid (by rw [HNX.out, ← Bool.or_assoc, ← hb.out]; rfl)⟩
              case measure => simp [intOf]; omega
            | false =>
              by_cases hT : (4611686018427387904 : Int) ≤ x
              · have HT := Lib.hid hT
                go_wp2_with fail
                go_round
                case rel => exact ⟨j + 1, by omega, by go_num, true, rfl, Lib.hid (by rw [HNX.out, ← Bool.or_assoc, ← hb.out, LT.out, decide_eq_true HT.out]; rfl)⟩
                case measure => simp [intOf]; omega
              · have HT := Lib.hid hT
                go_wp2_with fail
                go_round
                case rel => exact ⟨j + 1, by omega, by go_num, false, rfl, Lib.hid (by rw [HNX.out, ← Bool.or_assoc, ← hb.out, LT.out, decide_eq_false HT.out]; rfl)⟩
                case measure => simp [intOf]; omega
          · obtain rfl : j = r.found.length := by omega
            rw [List.take_length] at hb
            have hL : b = lateR r := by rw [hb.out, HB.out]; rfl
            have HL := Lib.hid hL
            clear hL hb
            have hof := Oq.of_c (r := r) X1.out.ins X1.out.fds (by omega) (by omega)
            unfold runC at hof
            go_wp2_with fail
            refine hof.mono ?_
            rintro e w2 ⟨ui, uf, rfl, hi2, hf2, hb2⟩
            have hwr := write_c (r := r) hi2 hf2 (by omega) (by omega) hSz.out (parts_lt hFit.out)
            have X2 := Lib.hid (X1.out.next hb2)
            unfold runC at hwr
            clear hof hi2 hf2 hb2
            go_wp2_with fail
            refine hwr.mono ?_
            rintro e w3 ⟨a3, n3, k3, rfl, hown, hb3⟩
            have X3 := Lib.hid (X2.out.next hb3)
            clear hwr hb3 c0 c1 c2 c3 c4 c5
            obtain ⟨⟨c0, c1, c2, c3, c4, c5⟩, -⟩ := six_cells X3.out.box
            by_cases he : wrE r = 0
            · rw [he]
              have hbB : wrB r = recB r := if_pos he
              rw [hbB] at hown
              obtain ⟨hn3, hrow3, -⟩ := Pk.owned_row hown
              have hlen3 : n3 ≤ 4096 := by
                have := recB_length r
                rw [hn3.out, this]
                unfold wrE at he
                split at he
                · omega
                · split at he <;> omega
              have hrd := read_c (c := k3) hn3 hrow3 (recB_lt r) (by omega)
              obtain ⟨q1, q2⟩ := back_fwd hFit.out he
              have Q1 := Lib.hid q1
              have Q2 := Lib.hid q2
              clear he hbB hown hn3 hrow3 hlen3 q1 q2
              go_wp2_with fail
              refine hrd.mono ?_
              intro e w4 hq
              cases b with
              | true =>
                obtain ⟨va, vc, va', vc', rfl, hb4⟩ := rdQ_none (by rw [Q1.out, ← HL.out]; rfl) hq
                have X4 := Lib.hid (X3.out.next hb4)
                clear hrd hq hb4
                go_wp2_with fail
                go_quiet (fail)
                go_wp2_with fail
                have XX := Lib.hid (X4.out.next (below_drawn (Pk.below_alloc w4 (.cells #[.string ⟨#[]⟩, .string ⟨#[]⟩, .int .i64 0, .int .i64 0, .slice va 0 vc, .slice va' 0 vc'] 33)) nq))
                clear c0 c1 c2 c3 c4 c5 X0 X1 X2 X3 X4 RI RF TI TF LT HB Q1 Q2 hni hci hnf hcf
                generalize (w4.alloc (.cells #[.string ⟨#[]⟩, .string ⟨#[]⟩, .int .i64 0, .int .i64 0, .slice va 0 vc, .slice va' 0 vc'] 33)).drewN nq = Wx at *
                have hrd := read_c (c := c) hn XX.out.row hl (by omega)
                refine hrd.mono ?_
                intro e w7 hq
                clear hrd
                by_cases hfit : fits l = true
                · obtain ⟨F1, F2, F3, F4⟩ := back_bwd hl hfit
                  obtain ⟨pa, pc, pa', pc', rfl, hi7, hf7, hb7⟩ := rdQ_some hfit rfl hq
                  generalize rdR l = q at *
                  have X7 := Lib.hid (XX.out.next hb7)
                  obtain ⟨W8, hW8⟩ : ∃ W, w7.alloc (.cells (runC q (.slice pa q.ins.length pc) (.slice pa' q.found.length pc')) 33) = W := ⟨_, rfl⟩
                  have hb8 : Below w7.heap.size w7 W8 := by rw [← hW8]; exact Pk.below_alloc _ _
                  have X8 := Lib.hid (X7.out.next hb8)
                  have h8 : W8.heap[w7.heap.size]? = some (.cells (runC q (.slice pa q.ins.length pc) (.slice pa' q.found.length pc')) 33 (0, 0)) := by rw [← hW8]; exact heap_alloc_new _ _
                  obtain ⟨⟨k0, k1, k2, k3', k4, k5⟩, -⟩ := six_cells h8
                  have hns := few_parts q
                  have hwq := write_c (r := q) (hi7.below hb8) (hf7.below hb8) (by have := hn.out; omega) (by have := hn.out; omega) (by have := hn.out; omega) (parts_lt F1)
                  unfold runC at hwq hW8
                  have HF2 := Lib.hid F2
                  have HF3 := Lib.hid F3
                  clear hi7 hf7 hb7 hq h8 hns hfit F1 F2 F3 F4 hb8
                  try unfold runC
                  go_wp2_with fail
                  refine hwq.mono ?_
                  rintro e w9 ⟨a9, n9, c9, rfl, hown, hb9⟩
                  have X9 := Lib.hid (X8.out.next hb9)
                  clear hwq k0 k1 k2 k3' k4 k5 hW8
                  by_cases h4 : 4096 < l.length
                  · have e3 : wrE q = 3 := by rw [HF2.out, if_pos h4]
                    rw [e3]
                    have h4' : ¬ (n : Int) ≤ 4096 := by have := hn.out; omega
                    have h4'' : (4096 : Int) < (n : Int) := by have := hn.out; omega
                    have haw := awake_c w9
                    clear hown e3 h4 hb9
                    go_wp2_with fail
                    refine haw.mono ?_
                    rintro e w10 ⟨rfl, hb10⟩
                    have HB := Lib.hid (X9.out.next hb10).bel
                    clear haw hb10
                    go_wp2_with fail
                    go_ret
                    exact ⟨rfl, HB.out⟩
                  · have e3 : wrE q = 0 := by rw [HF2.out, if_neg h4]
                    rw [e3]
                    have hbB : wrB q = l := by unfold wrB; rw [if_pos e3]; exact HF3.out
                    rw [hbB] at hown
                    obtain ⟨hn9, hrow9, -⟩ := Pk.owned_row hown
                    have v1 := Pk.conv_row hn9.out hrow9 hl c9
                    have v2 := Pk.conv_row hn.out X9.out.row hl c
                    have h4' : (n : Int) ≤ 4096 := by have := hn.out; omega
                    have h4'' : ¬ (4096 : Int) < (n : Int) := by have := hn.out; omega
                    have haw := awake_c w9
                    clear hown e3 h4 hb9 hbB hn9 hrow9
                    go_wp2_with fail
                    refine haw.mono ?_
                    rintro e w10 ⟨rfl, hb10⟩
                    have HB := Lib.hid (X9.out.next hb10).bel
                    clear haw hb10
                    go_wp2_with fail
                    go_ret
                    exact ⟨rfl, HB.out⟩
                · obtain ⟨pa, pc, pa', pc', rfl, hb7⟩ := rdQ_none (by simpa using hfit) hq
                  have X7 := Lib.hid (XX.out.next hb7)
                  obtain ⟨W8, hW8⟩ : ∃ W, w7.alloc (.cells #[.string ⟨#[]⟩, .string ⟨#[]⟩, .int .i64 0, .int .i64 0, .slice pa 0 pc, .slice pa' 0 pc'] 33) = W := ⟨_, rfl⟩
                  have hb8 : Below w7.heap.size w7 W8 := by rw [← hW8]; exact Pk.below_alloc _ _
                  have X8 := Lib.hid (X7.out.next hb8)
                  have haw := awake_c W8
                  clear hb7 hb8 hq hfit
                  go_wp2_with fail
                  refine haw.mono ?_
                  rintro e w10 ⟨rfl, hb10⟩
                  have HB := Lib.hid (X8.out.next hb10).bel
                  clear haw hb10
                  go_wp2_with fail
                  go_ret
                  exact ⟨rfl, HB.out⟩
              | false =>
                obtain ⟨va, vc, va', vc', rfl, hi4, hf4, hb4⟩ := rdQ_some (by rw [Q1.out, ← HL.out]; rfl) Q2.out hq
                have X4 := Lib.hid (X3.out.next hb4)
                clear hrd hq hb4
                obtain ⟨W5, hW5⟩ : ∃ W, w4.alloc (.cells (runC r (.slice va r.ins.length vc) (.slice va' r.found.length vc')) 33) = W := ⟨_, rfl⟩
                have hb5 : Below w4.heap.size w4 W5 := by rw [← hW5]; exact Pk.below_alloc _ _
                have X5 := Lib.hid (X4.out.next hb5)
                have h5 : W5.heap[w4.heap.size]? = some (.cells (runC r (.slice va r.ins.length vc) (.slice va' r.found.length vc')) 33 (0, 0)) := by rw [← hW5]; exact heap_alloc_new _ _
                have hto := Tq.told_c (w := W5.drew) (r := r) (vi := .slice va r.ins.length vc) (vf := .slice va' r.found.length vc') (hi4.below (below_drew hb5)) (hf4.below (below_drew hb5)) (by omega) (by omega)
                have H5 := Lib.hid h5
                obtain ⟨⟨k0, k1, k2, k3', k4, k5⟩, -⟩ := six_cells h5
                clear c0 c1 c2 c3 c4 c5
                obtain ⟨⟨c0, c1, c2, c3, c4, c5⟩, -⟩ := six_cells X5.out.box
                have hs4 := lt_some h5
                unfold runC at hW5 hto ⊢
                clear hi4 hf4 hb5 h5
                go_wp2_with fail
                go_region_held3 (fun w' => (w'.cell? ⟨w.heap.size, 0, Option.none⟩ = some (.string r.out) ∧ w'.cell? ⟨w.heap.size, 1, Option.none⟩ = some (.string r.cmd) ∧ w'.cell? ⟨w.heap.size, 2, Option.none⟩ = some (.int .i64 r.time) ∧ w'.cell? ⟨w.heap.size, 3, Option.none⟩ = some (.int .i64 r.mark) ∧ w'.cell? ⟨w.heap.size, 4, Option.none⟩ = some (.slice ai r.ins.length ci) ∧ w'.cell? ⟨w.heap.size, 5, Option.none⟩ = some (.slice af r.found.length cf)) ∧
                    (w'.cell? ⟨w4.heap.size, 0, Option.none⟩ = some (.string r.out) ∧ w'.cell? ⟨w4.heap.size, 1, Option.none⟩ = some (.string r.cmd) ∧ w'.cell? ⟨w4.heap.size, 2, Option.none⟩ = some (.int .i64 r.time) ∧ w'.cell? ⟨w4.heap.size, 3, Option.none⟩ = some (.int .i64 r.mark) ∧ w'.cell? ⟨w4.heap.size, 4, Option.none⟩ = some (.slice va r.ins.length vc) ∧ w'.cell? ⟨w4.heap.size, 5, Option.none⟩ = some (.slice va' r.found.length vc')))
                  (first | exact ⟨⟨c0, c1, c2, c3, c4, c5⟩, ⟨k0, k1, k2, k3', k4, k5⟩⟩ | exact ⟨m6, j6⟩ | exact ⟨m7, j7⟩ | fail)
                  (first
                    | (go_at_call 18; (with_reducible refine hto.mono ?_); rintro e w6 ⟨ti, tf, rfl, ti6, tf6, hb6⟩; have hb6' : Below W5.heap.size W5 w6 := below_of_drew hb6; have X6 := Lib.hid (X5.out.next hb6'); obtain ⟨m6, -⟩ := six_cells X6.out.box; obtain ⟨j6, -⟩ := six_cells ((hb6'.block _ hs4).trans H5.out); have hsa := same_c (r := r) (q := r) (by omega) (by omega) ti6 tf6 X6.out.ins X6.out.fds; rw [sameB_yes rfl] at hsa; unfold runC at hsa)
                    | (go_at_call 17; (with_reducible refine hsa.mono ?_); rintro e w7 ⟨rfl, hb7⟩; have X7 := Lib.hid (X6.out.next hb7); obtain ⟨m7, -⟩ := six_cells X7.out.box; obtain ⟨j7, -⟩ := six_cells ((hb7.block _ (Nat.lt_of_lt_of_le hs4 hb6'.size)).trans ((hb6'.block _ hs4).trans H5.out))))
                go_wp2_with fail
                have XX := X7
                clear c0 c1 c2 c3 c4 c5 X0 X1 X2 X3 X4 X5 X6 X7 RI RF TI TF LT HB Q1 Q2 hni hci hnf hcf k0 k1 k2 k3' k4 k5 H5 hs4 hto hsa m6 m7 j6 j7 hb6 hb6' hb7 hW5
                have hrd := read_c (c := c) hn XX.out.row hl (by omega)
                refine hrd.mono ?_
                intro e w7 hq
                clear hrd
                by_cases hfit : fits l = true
                · obtain ⟨F1, F2, F3, F4⟩ := back_bwd hl hfit
                  obtain ⟨pa, pc, pa', pc', rfl, hi7, hf7, hb7⟩ := rdQ_some hfit rfl hq
                  generalize rdR l = q at *
                  have X7 := Lib.hid (XX.out.next hb7)
                  obtain ⟨W8, hW8⟩ : ∃ W, w7.alloc (.cells (runC q (.slice pa q.ins.length pc) (.slice pa' q.found.length pc')) 33) = W := ⟨_, rfl⟩
                  have hb8 : Below w7.heap.size w7 W8 := by rw [← hW8]; exact Pk.below_alloc _ _
                  have X8 := Lib.hid (X7.out.next hb8)
                  have h8 : W8.heap[w7.heap.size]? = some (.cells (runC q (.slice pa q.ins.length pc) (.slice pa' q.found.length pc')) 33 (0, 0)) := by rw [← hW8]; exact heap_alloc_new _ _
                  obtain ⟨⟨k0, k1, k2, k3', k4, k5⟩, -⟩ := six_cells h8
                  have hns := few_parts q
                  have hwq := write_c (r := q) (hi7.below hb8) (hf7.below hb8) (by have := hn.out; omega) (by have := hn.out; omega) (by have := hn.out; omega) (parts_lt F1)
                  unfold runC at hwq hW8
                  have HF2 := Lib.hid F2
                  have HF3 := Lib.hid F3
                  clear hi7 hf7 hb7 hq h8 hns hfit F1 F2 F3 F4 hb8
                  try unfold runC
                  go_wp2_with fail
                  refine hwq.mono ?_
                  rintro e w9 ⟨a9, n9, c9, rfl, hown, hb9⟩
                  have X9 := Lib.hid (X8.out.next hb9)
                  clear hwq k0 k1 k2 k3' k4 k5 hW8
                  by_cases h4 : 4096 < l.length
                  · have e3 : wrE q = 3 := by rw [HF2.out, if_pos h4]
                    rw [e3]
                    have h4' : ¬ (n : Int) ≤ 4096 := by have := hn.out; omega
                    have h4'' : (4096 : Int) < (n : Int) := by have := hn.out; omega
                    have haw := awake_c w9
                    clear hown e3 h4 hb9
                    go_wp2_with fail
                    refine haw.mono ?_
                    rintro e w10 ⟨rfl, hb10⟩
                    have HB := Lib.hid (X9.out.next hb10).bel
                    clear haw hb10
                    go_wp2_with fail
                    go_ret
                    exact ⟨rfl, HB.out⟩
                  · have e3 : wrE q = 0 := by rw [HF2.out, if_neg h4]
                    rw [e3]
                    have hbB : wrB q = l := by unfold wrB; rw [if_pos e3]; exact HF3.out
                    rw [hbB] at hown
                    obtain ⟨hn9, hrow9, -⟩ := Pk.owned_row hown
                    have v1 := Pk.conv_row hn9.out hrow9 hl c9
                    have v2 := Pk.conv_row hn.out X9.out.row hl c
                    have h4' : (n : Int) ≤ 4096 := by have := hn.out; omega
                    have h4'' : ¬ (4096 : Int) < (n : Int) := by have := hn.out; omega
                    have haw := awake_c w9
                    clear hown e3 h4 hb9 hbB hn9 hrow9
                    go_wp2_with fail
                    refine haw.mono ?_
                    rintro e w10 ⟨rfl, hb10⟩
                    have HB := Lib.hid (X9.out.next hb10).bel
                    clear haw hb10
                    go_wp2_with fail
                    go_ret
                    exact ⟨rfl, HB.out⟩
                · obtain ⟨pa, pc, pa', pc', rfl, hb7⟩ := rdQ_none (by simpa using hfit) hq
                  have X7 := Lib.hid (XX.out.next hb7)
                  obtain ⟨W8, hW8⟩ : ∃ W, w7.alloc (.cells #[.string ⟨#[]⟩, .string ⟨#[]⟩, .int .i64 0, .int .i64 0, .slice pa 0 pc, .slice pa' 0 pc'] 33) = W := ⟨_, rfl⟩
                  have hb8 : Below w7.heap.size w7 W8 := by rw [← hW8]; exact Pk.below_alloc _ _
                  have X8 := Lib.hid (X7.out.next hb8)
                  have haw := awake_c W8
                  clear hb7 hb8 hq hfit
                  go_wp2_with fail
                  refine haw.mono ?_
                  rintro e w10 ⟨rfl, hb10⟩
                  have HB := Lib.hid (X8.out.next hb10).bel
                  clear haw hb10
                  go_wp2_with fail
                  go_ret
                  exact ⟨rfl, HB.out⟩
            · have hk0 : ¬ ((wrE r : Nat) : Int) = 0 := by omega
              generalize wrE r = ke at *
              go_wp2_with fail
              have XX := X3
              clear c0 c1 c2 c3 c4 c5 X0 X1 X2 X3 RI RF TI TF LT HB hni hci hnf hcf hown he
              have hrd := read_c (c := c) hn XX.out.row hl (by omega)
              refine hrd.mono ?_
              intro e w7 hq
              clear hrd
              by_cases hfit : fits l = true
              · obtain ⟨F1, F2, F3, F4⟩ := back_bwd hl hfit
                obtain ⟨pa, pc, pa', pc', rfl, hi7, hf7, hb7⟩ := rdQ_some hfit rfl hq
                generalize rdR l = q at *
                have X7 := Lib.hid (XX.out.next hb7)
                obtain ⟨W8, hW8⟩ : ∃ W, w7.alloc (.cells (runC q (.slice pa q.ins.length pc) (.slice pa' q.found.length pc')) 33) = W := ⟨_, rfl⟩
                have hb8 : Below w7.heap.size w7 W8 := by rw [← hW8]; exact Pk.below_alloc _ _
                have X8 := Lib.hid (X7.out.next hb8)
                have h8 : W8.heap[w7.heap.size]? = some (.cells (runC q (.slice pa q.ins.length pc) (.slice pa' q.found.length pc')) 33 (0, 0)) := by rw [← hW8]; exact heap_alloc_new _ _
                obtain ⟨⟨k0, k1, k2, k3', k4, k5⟩, -⟩ := six_cells h8
                have hns := few_parts q
                have hwq := write_c (r := q) (hi7.below hb8) (hf7.below hb8) (by have := hn.out; omega) (by have := hn.out; omega) (by have := hn.out; omega) (parts_lt F1)
                unfold runC at hwq hW8
                have HF2 := Lib.hid F2
                have HF3 := Lib.hid F3
                clear hi7 hf7 hb7 hq h8 hns hfit F1 F2 F3 F4 hb8
                try unfold runC
                go_wp2_with fail
                refine hwq.mono ?_
                rintro e w9 ⟨a9, n9, c9, rfl, hown, hb9⟩
                have X9 := Lib.hid (X8.out.next hb9)
                clear hwq k0 k1 k2 k3' k4 k5 hW8
                by_cases h4 : 4096 < l.length
                · have e3 : wrE q = 3 := by rw [HF2.out, if_pos h4]
                  rw [e3]
                  have h4' : ¬ (n : Int) ≤ 4096 := by have := hn.out; omega
                  have h4'' : (4096 : Int) < (n : Int) := by have := hn.out; omega
                  have haw := awake_c w9
                  clear hown e3 h4 hb9
                  go_wp2_with fail
                  refine haw.mono ?_
                  rintro e w10 ⟨rfl, hb10⟩
                  have HB := Lib.hid (X9.out.next hb10).bel
                  clear haw hb10
                  go_wp2_with fail
                  go_ret
                  exact ⟨rfl, HB.out⟩
                · have e3 : wrE q = 0 := by rw [HF2.out, if_neg h4]
                  rw [e3]
                  have hbB : wrB q = l := by unfold wrB; rw [if_pos e3]; exact HF3.out
                  rw [hbB] at hown
                  obtain ⟨hn9, hrow9, -⟩ := Pk.owned_row hown
                  have v1 := Pk.conv_row hn9.out hrow9 hl c9
                  have v2 := Pk.conv_row hn.out X9.out.row hl c
                  have h4' : (n : Int) ≤ 4096 := by have := hn.out; omega
                  have h4'' : ¬ (4096 : Int) < (n : Int) := by have := hn.out; omega
                  have haw := awake_c w9
                  clear hown e3 h4 hb9 hbB hn9 hrow9
                  go_wp2_with fail
                  refine haw.mono ?_
                  rintro e w10 ⟨rfl, hb10⟩
                  have HB := Lib.hid (X9.out.next hb10).bel
                  clear haw hb10
                  go_wp2_with fail
                  go_ret
                  exact ⟨rfl, HB.out⟩
              · obtain ⟨pa, pc, pa', pc', rfl, hb7⟩ := rdQ_none (by simpa using hfit) hq
                have X7 := Lib.hid (XX.out.next hb7)
                obtain ⟨W8, hW8⟩ : ∃ W, w7.alloc (.cells #[.string ⟨#[]⟩, .string ⟨#[]⟩, .int .i64 0, .int .i64 0, .slice pa 0 pc, .slice pa' 0 pc'] 33) = W := ⟨_, rfl⟩
                have hb8 : Below w7.heap.size w7 W8 := by rw [← hW8]; exact Pk.below_alloc _ _
                have X8 := Lib.hid (X7.out.next hb8)
                have haw := awake_c W8
                clear hb7 hb8 hq hfit
                go_wp2_with fail
                refine haw.mono ?_
                rintro e w10 ⟨rfl, hb10⟩
                have HB := Lib.hid (X8.out.next hb10).bel
                clear haw hb10
                go_wp2_with fail
                go_ret
                exact ⟨rfl, HB.out⟩
end Go.Proofs.Ytmhmoaokmfplpaa.Rn
