/-
  THE DOCUMENT's Write, WALKED.
-/
import Derived.Test.YtdijpoemimebmaaRwMath
import Derived.Test.YtdijpoemimebmaaRnWrite3
namespace Go.Proofs.Ytdijpoemimebmaa.Rn
open Go.RowKit
open Go.Proofs.Ytdijpoemimebmaa.Cr

/-- the run's box stands -/
structure WB (w W : World) (r : Run) (vi vf : Value) : Prop where
  box : W.heap[w.heap.size]? = some (.cells (runC r vi vf) 25 (0, 0))
  bel : Below w.heap.size w W
  siz : w.heap.size + 1 ≤ W.heap.size

theorem WB.next {w W W1 : World} {r : Run} {vi vf : Value} (h : WB w W r vi vf) (hb : Below (w.heap.size + 1) W W1) : WB w W1 r vi vf :=
  ⟨(hb.block _ (by omega)).trans h.box, h.bel.trans (hb.mono (by omega)), Nat.le_trans h.siz hb.size⟩

/-- .. and a record's beginning is put together -/
structure RA (w W : World) (r : Run) (vi vf : Value) (v : Value) (n : Nat) (xs : List Nat) : Prop where
  wb : WB w W r vi vf
  own : W.ownsRow (w.heap.size + 1) 5 1 v n (Pk.bytesV xs)

theorem owns_base {W : World} {b b' : Nat} {e k : Nat} {v : Value} {n : Nat} {xs : List Value} (h : W.ownsRow b e k v n xs) (hb : b' ≤ b) : W.ownsRow b' e k v n xs :=
  ⟨h.1, h.2.imp id fun ⟨g, cap, cur, e, hbg, rest⟩ => ⟨g, cap, cur, e, Nat.le_trans hb hbg, rest⟩⟩

section
variable {w W W1 : World} {r : Run} {vi vf v v' : Value} {n n' : Nat} {xs ys : List Nat}
theorem RA.call (h : RA w W r vi vf v n xs) (hb : Below W.heap.size W W1) : RA w W1 r vi vf v n xs :=
  ⟨h.wb.next (hb.mono h.wb.siz), owns_below h.own hb⟩
theorem RA.app (h : RA w W r vi vf v n xs) (ho : W1.ownsRow (w.heap.size + 1) 5 1 v' n' (Pk.bytesV ys)) (hb : Below (w.heap.size + 1) W W1) : RA w W1 r vi vf v' n' ys :=
  ⟨h.wb.next hb, ho⟩
theorem RA.len (h : RA w W r vi vf v n xs) : n = xs.length := by have := h.own.1; rw [Pk.bytesV_length] at this; omega
end

theorem RA.grow {w W W1 : World} {r : Run} {vi vf v v' : Value} {n n' : Nat} {xs ys : List Nat} (h : RA w W r vi vf v n xs) (hg : W.grownBy W1 v.ownBlock) (ho : W1.ownsRow (w.heap.size + 1) 5 1 v' n' (Pk.bytesV ys)) : RA w W1 r vi vf v' n' ys :=
  h.app ho ⟨hg.os, hg.tape, hg.output, hg.size, fun k hk => hg.block k (by have := h.wb.siz; omega) fun e => by have := (h.own.lt k e.symm).1; omega⟩

theorem RA.two {w W : World} {r : Run} {vi vf v : Value} {n : Nat} {xs : List Nat} (h : RA w W r vi vf v n xs) {bk o : Nat} {u : Value} (hbk : bk < w.heap.size) (hu : w.cell? ⟨bk, o, Option.none⟩ = some u) :
    W.cell? ⟨w.heap.size, 4, Option.none⟩ = some vi ∧ W.cell? ⟨bk, o, Option.none⟩ = some u := by
  refine ⟨?_, (cell_of_block (j := o) (h.wb.bel.block bk hbk)).trans hu⟩
  simp [World.cell?, h.wb.box, runC]

theorem num_kept {W1 W2 W3 : World} {b k n m : Nat} {v u : Value} {xs ys : List Value} (h1 : W1.ownsRow b 5 1 v n xs) (h3 : W2.ownsRow W1.heap.size 5 1 u m ys) (hg : W2.grownBy W3 v.ownBlock) : W3.ownsRow W1.heap.size 5 1 u m ys := by
  refine h3.kept hg ?_
  cases hu : u.ownBlock with
  | none => exact .inl rfl
  | some k =>
    refine .inr fun e => ?_
    have x1 := (h3.lt k hu).1
    have x2 := (h1.lt k e.symm).2
    omega

theorem step_appB {ops : Array Oper} {o : Oper} {a : Act} {w : World} {K : Act → World → Prop} {Q : Exit → Act → World → Prop} {E : Prop} (hgd : o.guard = Option.none) (s x : Operand)
    (ho : o.op = .call { callee := .builtin .append, args := #[s, x], argTypes := #[27, 27] })
    (base : Nat) (v : Value) (n : Nat) (xs : List Nat) (hs : a.eval s = v) (hown : w.ownsRow base 5 1 v n (Pk.bytesV xs))
    (ad : Option Addr) (m c : Nat) (l : List Nat) (hx : a.eval x = .slice ad m c) (hm : m = l.length) (hrow : Pk.Row w ad l) (hne : l ≠ [])
    (hbytes : n + m ≤ 140737488351232) (hbase : base ≤ w.heap.size)
    (h : ∀ a' n' c' w', w'.ownsRow base 5 1 (.slice a' n' c') n' (Pk.bytesV (xs ++ l)) → Hid (n' = n + m) → w.grownBy w' v.ownBlock → K (a.put o.dst (.slice a' n' c')) w') :
    if Region.wanted o (yielded ops a.tmps) = true then Oper.wp Try.prog o a w K Q else E := by
  obtain ⟨i0, hi, hz0, hz1, hz2⟩ := info_parts Pk.info5
  rw [if_pos (by simp [Region.wanted, hgd])]
  obtain ⟨b, off, rfl, hb, hc⟩ : ∃ b off, ad = some ⟨b, off, Option.none⟩ ∧ b < w.heap.size ∧ ∀ i, i < l.length → w.cell? ⟨b, off + i, Option.none⟩ = some (.int .u8 ((l.getD i 0 : Nat) : Int)) := by
    rcases hrow with h | h
    · exact absurd h hne
    · exact h
  refine wp_append_own w s x 27 ho base 5 i0 (.int .u8 0) 1 1 Try.underlying27 hi hz0 hz1 hz2 rfl (by decide) v n (Pk.bytesV xs) hs hown ⟨b, off, Option.none⟩ m c (Pk.bytesV l) hx (by rw [Pk.bytesV_length]; omega) (Pk.row_cells (.inr ⟨b, off, rfl, hb, hc⟩)) ?_ (by unfold maxLen; omega) (by omega) hbase ?_
  · intro u hu
    unfold Pk.bytesV at hu
    obtain ⟨k, _, rfl⟩ := List.mem_map.1 hu
    rfl
  · intro v' w' h1 h2 _
    rw [← Pk.bytesV_append] at h1
    obtain ⟨a', c', rfl, _, _, _⟩ := Pk.row_owned h1
    exact h a' (n + m) c' w' h1 (Lib.hid rfl) h2

theorem refnum_w8 (N : Nat) (w : World) (hN : N < 9223372036854775808) :
    Calls Try.prog 36 #[.int .u64 (IntKind.u64.wrap (N : Int)), .int .i64 8] w fun e w' => Pk.Owned w.heap.size (Pk.le N 8) w e w' := by
  have hw : IntKind.u64.wrap (N : Int) = (N : Int) := by rw [IntKind.wrap_u64]; omega
  rw [hw]
  exact Pk.refnum_any N 8 w (by omega) (by omega)

theorem wrQ_rec {w W : World} {r : Run} {vi vf : Value} {a : Option Addr} {n k : Nat} (he : wrE r = 0) (h : RA w W r vi vf (.slice a n k) n (recB r)) : WrQ w r (.returned (.tuple #[.slice a n k, .int .i64 0])) W := by
  refine ⟨a, n, k, by rw [he]; rfl, ?_, h.wb.bel⟩
  have : wrB r = recB r := if_pos he
  rw [this]
  exact owns_base h.own (by omega)

set_option maxRecDepth 100000 in
set_option maxHeartbeats 8000000 in
theorem refWrite_c {w : World} {r : Run} {vi vf : Value} (hi : InRow w vi r.ins) (hf : FdRow w vf r.found) (h64 : R64 r) (hsm : lightB r = true) :
    Calls Try.prog 13 #[.agg (runC r vi vf)] w (WrQ w r) := by
  obtain ⟨W0, hW0⟩ : ∃ W, w.alloc (.cells (runC r vi vf) 25) = W := ⟨_, rfl⟩
  have z1 : W0.heap.size = w.heap.size + 1 := by rw [← hW0]; exact Array.size_push _
  have x0 : WB w W0 r vi vf := by
    have hB : Below w.heap.size w W0 := by rw [← hW0]; exact Pk.below_alloc _ _
    exact ⟨by rw [← hW0]; exact heap_alloc_new _ _, hB, by omega⟩
  have hFit := Lib.hid (fit_of hsm h64)
  obtain ⟨l1, l2, l3, l4, l5⟩ := light_parts hsm
  have hSz := Lib.hid (light_size hsm)
  have L5 := Lib.hid l5
  obtain ⟨⟨c0, c1, c2, c3, c4, c5⟩, -⟩ := six_cells x0.box
  obtain ⟨ai, ci, rfl, hni, hci, hrowI⟩ := hi
  obtain ⟨af, cf, rfl, hnf, hcf, hrowF⟩ := hf
  have RI := Lib.hid hrowI
  have RF := Lib.hid hrowF
  have S0 := Lib.hid x0
  have TI := Lib.hid (fun (j : Nat) (x : In) (hx : r.ins[j]? = some x) => And.intro (ngI_next hx) (szI_next hx))
  have TF := Lib.hid (fun (j : Nat) (x : Int) (hx : r.found[j]? = some x) => ngF_next hx)
  have NG := Lib.hid (neg_split r)
  have SZ := Lib.hid (szR_split r)
  have ST := Lib.hid (size_take r.ins)
  have hSb : size (insP r.ins) ≤ 3000000 := by
    have := size_ins r.ins l5
    have h2 : r.ins.length * (10 + 5000) ≤ 500 * 5010 := Nat.mul_le_mul l3 (by omega)
    omega
  have HSb := Lib.hid hSb
  have G0 : ∀ (b off i : Nat), b < w.heap.size → W0.cell? ⟨b, off + i, Option.none⟩ = w.cell? ⟨b, off + i, Option.none⟩ := fun b off i hb => cell_of_block (x0.bel.block b hb)
  have HG0 := Lib.hid G0
  unfold runC at hW0 ⊢
  clear x0 z1 hsm h64 l5 hrowI hrowF hSb G0
  go_enter Try.func13, Try.ntmps13
  go_upto_region 1 with fail
  go_cut [4] (fun s4 wx => Hid (s4 = .bool (decide (r.time < 0) || decide (r.mark < 0))) ∧ wx = W0)
  case first =>
    by_cases hT : r.time < 0
    · have HT := Lib.hid hT
      go_wp2_with fail
      go_meet
      exact ⟨Lib.hid (by rw [decide_eq_true HT.out]; rfl), rfl⟩
    · have HT := Lib.hid hT
      by_cases hM : r.mark < 0
      · have HM := Lib.hid hM
        go_wp2_with fail
        go_meet
        exact ⟨Lib.hid (by rw [decide_eq_true HM.out]; simp), rfl⟩
      · have HM := Lib.hid hM
        go_wp2_with fail
        go_meet
        exact ⟨Lib.hid (by rw [decide_eq_false (by have := HM.out; omega), decide_eq_false (by have := HT.out; omega)]; rfl), rfl⟩
  case rest =>
    obtain ⟨h5, rfl⟩ := hcut
    obtain rfl := h5.out
    have eB : Hid (∃ B, B = (decide (r.time < 0) || decide (r.mark < 0))) := Lib.hid ⟨_, rfl⟩
    obtain ⟨B, hB⟩ := eB.out
    rw [← hB] at h5 ⊢
    have HB := Lib.hid hB
    clear hB eB h5
    go_wp2_with fail
    go_loop [4, 5, 6] (fun s4 s5 i => ∃ j : Nat, j ≤ r.ins.length ∧ i = .int .i64 j ∧ (∃ b : Bool, s4 = .bool b ∧ Hid (b = (B || ngI (r.ins.take j)))) ∧ ∃ S : Nat, s5 = .int .i64 S ∧ S ≤ 4000000 ∧ Hid (S = (36 + r.out.size + r.cmd.size) + size (insP (r.ins.take j)))) (fun _ _ i => r.ins.length - (intOf i).toNat)
    case atStart => exact ⟨0, Nat.zero_le _, rfl, ⟨B, rfl, Lib.hid (by simp [ngI])⟩, 36 + r.out.size + r.cmd.size, by congr 1; omega, by omega, Lib.hid (by simp [insP, size])⟩
    case round =>
      obtain ⟨j, hj, rfl, ⟨b, rfl, hb⟩, S, rfl, hS, hSe⟩ := hrel
      by_cases hlt : j < r.ins.length
      · have hx := List.getElem?_eq_getElem hlt
        rcases RI.out with h | ⟨bk, off, rfl, hbk, hcell⟩
        · rw [h] at hlt; simp at hlt
        obtain ⟨x0, x1⟩ := hcell j _ hx
        obtain ⟨hnx, hsz⟩ := TI.out j _ hx
        have hnm := L5.out _ (List.getElem_mem hlt)
        rw [Nat.add_assoc] at x1
        rw [← HG0.out bk off (j * 2) hbk] at x0
        rw [← HG0.out bk off (j * 2 + 1) hbk, ← Nat.add_assoc] at x1
        have hle := ST.out (j + 1)
        have HSN : S + (10 + (r.ins[j]).name.size) ≤ 4000000 := by have := hSe.out; have := HSb.out; omega
        generalize r.ins[j] = x at *
        have HNX := Lib.hid hnx
        have HSZ := Lib.hid hsz
        clear hnx hsz hcell hx hle
        cases b with
        | true =>
          go_wp2_with fail
          go_round
          case rel => exact ⟨j + 1, by omega, by go_num, ⟨true, rfl, Lib.hid (by rw [HNX.out, ← Bool.or_assoc, ← hb.out]; rfl)⟩, S + (10 + x.name.size), by go_num, HSN, Lib.hid (by rw [HSZ.out, hSe.out]; omega)⟩
          case measure => simp [intOf]; omega
        | false =>
          by_cases hT : x.time < 0
          · have HT := Lib.hid hT
            go_wp2_with fail
            go_round
            case rel => exact ⟨j + 1, by omega, by go_num, ⟨true, rfl, Lib.hid (by rw [HNX.out, ← Bool.or_assoc, ← hb.out, decide_eq_true HT.out]; rfl)⟩, S + (10 + x.name.size), by go_num, HSN, Lib.hid (by rw [HSZ.out, hSe.out]; omega)⟩
            case measure => simp [intOf]; omega
          · have HT := Lib.hid hT
            go_wp2_with fail
            go_round
            case rel => exact ⟨j + 1, by omega, by go_num, ⟨false, rfl, Lib.hid (by rw [HNX.out, ← Bool.or_assoc, ← hb.out, decide_eq_false (by have := HT.out; omega)]; rfl)⟩, S + (10 + x.name.size), by go_num, HSN, Lib.hid (by rw [HSZ.out, hSe.out]; omega)⟩
            case measure => simp [intOf]; omega
      · obtain rfl : j = r.ins.length := by omega
        rw [List.take_length] at hb hSe
        go_wp2_with fail
        go_loop [4, 5, 7] (fun s4 s5 i => ∃ j : Nat, j ≤ r.found.length ∧ i = .int .i64 j ∧ (∃ b : Bool, s4 = .bool b ∧ Hid (b = ((B || ngI r.ins) || ngF (r.found.take j)))) ∧ ∃ Z : Nat, s5 = .int .i64 Z ∧ Z ≤ 4000000 + j * 8 ∧ Hid (Z = ((36 + r.out.size + r.cmd.size) + size (insP r.ins)) + j * 8)) (fun _ _ i => r.found.length - (intOf i).toNat)
        case atStart => exact ⟨0, Nat.zero_le _, rfl, ⟨b, rfl, Lib.hid (by rw [hb.out]; simp [ngF])⟩, S, rfl, by omega, Lib.hid (by rw [hSe.out]; omega)⟩
        case round =>
          obtain ⟨j, hj, rfl, ⟨b, rfl, hb⟩, Z, rfl, hZ, hZe⟩ := hrel
          by_cases hlt : j < r.found.length
          · have hx := List.getElem?_eq_getElem hlt
            rcases RF.out with h | ⟨bk, off, rfl, hbk, hcell⟩
            · rw [h] at hlt; simp at hlt
            have x0 := hcell j _ hx
            have hnx := TF.out j _ hx
            rw [← HG0.out bk off j hbk] at x0
            generalize r.found[j] = x at *
            have HNX := Lib.hid hnx
            clear hnx hcell hx
            cases b with
            | true =>
              go_wp2_with fail
              go_round
              case rel => exact ⟨j + 1, by omega, by go_num, ⟨true, rfl, Lib.hid (by rw [HNX.out, ← Bool.or_assoc, ← hb.out]; rfl)⟩, Z + 8, by go_num, by omega, Lib.hid (by rw [hZe.out]; omega)⟩
              case measure => simp [intOf]; omega
            | false =>
              by_cases hT : x < 0
              · have HT := Lib.hid hT
                go_wp2_with fail
                go_round
                case rel => exact ⟨j + 1, by omega, by go_num, ⟨true, rfl, Lib.hid (by rw [HNX.out, ← Bool.or_assoc, ← hb.out, decide_eq_true HT.out]; rfl)⟩, Z + 8, by go_num, by omega, Lib.hid (by rw [hZe.out]; omega)⟩
                case measure => simp [intOf]; omega
              · have HT := Lib.hid hT
                go_wp2_with fail
                go_round
                case rel => exact ⟨j + 1, by omega, by go_num, ⟨false, rfl, Lib.hid (by rw [HNX.out, ← Bool.or_assoc, ← hb.out, decide_eq_false (by have := HT.out; omega)]; rfl)⟩, Z + 8, by go_num, by omega, Lib.hid (by rw [hZe.out]; omega)⟩
                case measure => simp [intOf]; omega
          · obtain rfl : j = r.found.length := by omega
            rw [List.take_length] at hb
            have hbe : b = negR r := by rw [hb.out, HB.out]; exact NG.out.symm
            have hZs : Z = sizeR r := by rw [hZe.out]; exact SZ.out.symm
            have HBE := Lib.hid hbe
            have HZS := Lib.hid hZs
            clear hb hZe hbe hZs
            cases b with
            | true =>
              have he : wrE r = 1 := by unfold wrE; rw [← HBE.out]; rfl
              have HE := Lib.hid he
              clear he
              go_wp2_with fail
              go_ret2
              exact wrQ_none (k := 1) S0.out.bel HE.out (by decide)
            | false =>
              by_cases hbig : 4096 < Z
              · have he : wrE r = 3 := by unfold wrE; rw [← HBE.out, if_neg (by decide), if_pos (by rw [← HZS.out]; exact hbig)]
                have HE := Lib.hid he
                clear he
                have hbig' : (4096 : Int) < (Z : Int) := by omega
                go_wp2_with fail
                go_ret2
                exact wrQ_none (k := 3) S0.out.bel HE.out (by decide)
              · have he : wrE r = 0 := by unfold wrE; rw [← HBE.out, if_neg (by decide), if_neg (by rw [← HZS.out]; exact hbig)]
                have HE := Lib.hid he
                have hbig' : ¬ (4096 : Int) < (Z : Int) := by omega
                obtain ⟨y0, y1, y2, y3, y4, y5, y6, y7, y8⟩ := len_X (r := r) (by rw [← HZS.out]; omega)
                obtain ⟨t1, t2, t3, t4⟩ := neg_time (r := r) HBE.out.symm
                obtain ⟨tm, em, em', hm⟩ := nat_time t1 hFit.out.time
                obtain ⟨mk, ek, ek', hk⟩ := nat_time t2 hFit.out.mark
                have EM := Lib.hid em'
                have EK := Lib.hid ek'
                have T3 := Lib.hid t3
                have T4 := Lib.hid t4
                have Y6 := Lib.hid y6
                have Y7 := Lib.hid y7
                have Y8 := Lib.hid y8
                have MT := Lib.hid em
                have KT := Lib.hid ek
                obtain ⟨cap, V1, hrun, hrow1, hB1⟩ := conv_str wc r.cmd
                have hh := Ch.refhash_any (some ⟨wc.heap.size, 0, Option.none⟩) r.cmd.size cap (Pk.sb r.cmd) V1 (Pk.sb_lt _) (by rw [Pk.sb_length]; omega) (by rw [Pk.sb_length]) hrow1
                have hn0 := Pk.refnum_any (Crc.hash (Pk.sb r.cmd)) 8 V1 (Crc.hash_lt _) (by omega)
                have S1 := Lib.hid (S0.out.next (hB1.mono S0.out.siz))
                clear hrow1 hB1 t1 t2 t3 t4 y6 y7 y8 em ek em' ek' he
                go_wp2_with fail
                refine hh.mono ?_
                rintro e w' ⟨rfl, rfl⟩
                go_wp2_with fail
                refine hn0.mono ?_
                rintro e U0 ⟨a0, n0, k0, rfl, hown, hb2⟩
                have A0 := Lib.hid (RA.mk (xs := X0 r) (S1.out.next (hb2.mono S1.out.siz)) (owns_base hown S1.out.siz))
                clear hh hn0 hrun hown hb2 c0 c1 c2 c3 c4 c5 S1 hbig hbig'
                obtain ⟨⟨c0, c1, c2, c3, c4, c5⟩, -⟩ := six_cells A0.out.wb.box
                have q0 : n0 ≤ 4096 := by have := A0.out.len; omega
                have hc := Pk.reft_any r.out U0 (by omega)
                go_wp2_with fail
                refine hc.mono ?_
                rintro e B0 ⟨d0, m0, g0, rfl, hown, hb⟩
                obtain ⟨hm', hr', hz'⟩ := Pk.owned_row hown
                have hmb : m0 ≤ 6000 := by have := hm'.out; simp [Pk.le_length, Pk.sb_length] at this; omega
                have D0 := Lib.hid (A0.out.call hb)
                have od := D0.out.own
                have zd := D0.out.wb.siz
                have hys : X0 r ++ (Pk.le r.out.size 2 ++ Pk.sb r.out) = X1 r := rfl
                have HYS := Lib.hid hys
                have hzz : n0 + m0 ≤ 140737488351232 := by omega
                clear hc hown hb hys c0 c1 c2 c3 c4 c5 A0
                go_wp2_with (at_builtin; refine Pk.wpList_append_bytes rfl (.tmp 92) (.tmp 93) rfl (w.heap.size + 1) (.slice a0 n0 k0) n0 (X0 r) rfl od d0 m0 g0 (Pk.le r.out.size 2 ++ Pk.sb r.out) rfl hm'.out hz'.out hr' (X1 r) HYS.out hzz zd ?_; intro a1 n1 k1 U1 hown1 Hn1 hle1 _ _ hb1; have A1 := Lib.hid (D0.out.app hown1 hb1); (have q1 : n1 ≤ 4096 := by (have := A1.out.len; omega)); obtain ⟨⟨c0, c1, c2, c3, c4, c5⟩, -⟩ := six_cells A1.out.wb.box; clear hm' hr' hz' hown1 Hn1 hle1 hb1 od zd D0 hzz)
                have hc := Pk.reft_any r.cmd U1 (by omega)
                go_wp2_with fail
                refine hc.mono ?_
                rintro e B1 ⟨d1, m1, g1, rfl, hown, hb⟩
                obtain ⟨hm', hr', hz'⟩ := Pk.owned_row hown
                have hmb : m1 ≤ 6000 := by have := hm'.out; simp [Pk.le_length, Pk.sb_length] at this; omega
                have D1 := Lib.hid (A1.out.call hb)
                have od := D1.out.own
                have zd := D1.out.wb.siz
                have hys : X1 r ++ (Pk.le r.cmd.size 2 ++ Pk.sb r.cmd) = X2 r := rfl
                have HYS := Lib.hid hys
                have hzz : n1 + m1 ≤ 140737488351232 := by omega
                clear hc hown hb hys c0 c1 c2 c3 c4 c5 A1
                go_wp2_with (at_builtin; refine Pk.wpList_append_bytes rfl (.tmp 101) (.tmp 102) rfl (w.heap.size + 1) (.slice a1 n1 k1) n1 (X1 r) rfl od d1 m1 g1 (Pk.le r.cmd.size 2 ++ Pk.sb r.cmd) rfl hm'.out hz'.out hr' (X2 r) HYS.out hzz zd ?_; intro a2 n2 k2 U2 hown2 Hn2 hle2 _ _ hb2; have A2 := Lib.hid (D1.out.app hown2 hb2); (have q2 : n2 ≤ 4096 := by (have := A2.out.len; omega)); obtain ⟨⟨c0, c1, c2, c3, c4, c5⟩, -⟩ := six_cells A2.out.wb.box; rw [MT.out] at c2; clear hm' hr' hz' hown2 Hn2 hle2 hb2 od zd D1 hzz)
                have hc := Pk.refnum_any tm 8 U2 (by omega) (by omega)
                go_wp2_with fail
                refine hc.mono ?_
                rintro e B2 ⟨d2, m2, g2, rfl, hown, hb⟩
                obtain ⟨hm', hr', hz'⟩ := Pk.owned_row hown
                have hmb : m2 ≤ 6000 := by have := hm'.out; simp [Pk.le_length, Pk.sb_length] at this; omega
                have D2 := Lib.hid (A2.out.call hb)
                have od := D2.out.own
                have zd := D2.out.wb.siz
                have hys : X2 r ++ (Pk.le tm 8) = X3 r := by rw [← EM.out]; rfl
                have HYS := Lib.hid hys
                have hzz : n2 + m2 ≤ 140737488351232 := by omega
                clear hc hown hb hys c0 c1 c2 c3 c4 c5 A2
                go_wp2_with (at_builtin; refine Pk.wpList_append_bytes rfl (.tmp 104) (.tmp 108) rfl (w.heap.size + 1) (.slice a2 n2 k2) n2 (X2 r) rfl od d2 m2 g2 (Pk.le tm 8) rfl hm'.out hz'.out hr' (X3 r) HYS.out hzz zd ?_; intro a3 n3 k3 U3 hown3 Hn3 hle3 _ _ hb3; have A3 := Lib.hid (D2.out.app hown3 hb3); (have q3 : n3 ≤ 4096 := by (have := A3.out.len; omega)); obtain ⟨⟨c0, c1, c2, c3, c4, c5⟩, -⟩ := six_cells A3.out.wb.box; rw [KT.out] at c3; clear hm' hr' hz' hown3 Hn3 hle3 hb3 od zd D2 hzz)
                have hc := Pk.refnum_any mk 8 U3 (by omega) (by omega)
                go_wp2_with fail
                refine hc.mono ?_
                rintro e B3 ⟨d3, m3, g3, rfl, hown, hb⟩
                obtain ⟨hm', hr', hz'⟩ := Pk.owned_row hown
                have hmb : m3 ≤ 6000 := by have := hm'.out; simp [Pk.le_length, Pk.sb_length] at this; omega
                have D3 := Lib.hid (A3.out.call hb)
                have od := D3.out.own
                have zd := D3.out.wb.siz
                have hys : X3 r ++ (Pk.le mk 8) = X4 r := by rw [← EK.out]; rfl
                have HYS := Lib.hid hys
                have hzz : n3 + m3 ≤ 140737488351232 := by omega
                clear hc hown hb hys c0 c1 c2 c3 c4 c5 A3
                go_wp2_with (at_builtin; refine Pk.wpList_append_bytes rfl (.tmp 110) (.tmp 114) rfl (w.heap.size + 1) (.slice a3 n3 k3) n3 (X3 r) rfl od d3 m3 g3 (Pk.le mk 8) rfl hm'.out hz'.out hr' (X4 r) HYS.out hzz zd ?_; intro a4 n4 k4 U4 hown4 Hn4 hle4 _ _ hb4; have A4 := Lib.hid (D3.out.app hown4 hb4); (have q4 : n4 ≤ 4096 := by (have := A4.out.len; omega)); obtain ⟨⟨c0, c1, c2, c3, c4, c5⟩, -⟩ := six_cells A4.out.wb.box; clear hm' hr' hz' hown4 Hn4 hle4 hb4 od zd D3 hzz)
                have hc := Pk.refnum_any r.ins.length 4 U4 (by omega) (by omega)
                go_wp2_with fail
                refine hc.mono ?_
                rintro e B4 ⟨d4, m4, g4, rfl, hown, hb⟩
                obtain ⟨hm', hr', hz'⟩ := Pk.owned_row hown
                have hmb : m4 ≤ 6000 := by have := hm'.out; simp [Pk.le_length, Pk.sb_length] at this; omega
                have D4 := Lib.hid (A4.out.call hb)
                have od := D4.out.own
                have zd := D4.out.wb.siz
                have hys : X4 r ++ (Pk.le r.ins.length 4) = X5 r := rfl
                have HYS := Lib.hid hys
                have hzz : n4 + m4 ≤ 140737488351232 := by omega
                clear hc hown hb hys c0 c1 c2 c3 c4 c5 A4
                go_wp2_with (at_builtin; refine Pk.wpList_append_bytes rfl (.tmp 116) (.tmp 121) rfl (w.heap.size + 1) (.slice a4 n4 k4) n4 (X4 r) rfl od d4 m4 g4 (Pk.le r.ins.length 4) rfl hm'.out hz'.out hr' (X5 r) HYS.out hzz zd ?_; intro a5 n5 k5 U5 hown5 Hn5 hle5 _ _ hb5; have A5 := Lib.hid (D4.out.app hown5 hb5); (have q5 : n5 ≤ 4096 := by (have := A5.out.len; omega)); obtain ⟨⟨c0, c1, c2, c3, c4, c5⟩, -⟩ := six_cells A5.out.wb.box; clear hm' hr' hz' hown5 Hn5 hle5 hb5 od zd D4 hzz)
                go_loopw [8, 11] (fun v i wr => ∃ j : Nat, j ≤ r.ins.length ∧ i = .int .i64 j ∧ ∃ a n k, v = .slice a n k ∧ Hid (RA w wr r (.slice ai r.ins.length ci) (.slice af r.found.length cf) (.slice a n k) n (X6 r j))) (fun _ i _ => r.ins.length - (intOf i).toNat)
                case atStart => exact ⟨0, Nat.zero_le _, rfl, a5, n5, k5, rfl, Lib.hid (by rw [X6_0]; exact A5.out)⟩
                case round =>
                  obtain ⟨j, hj, rfl, pa, pn, pk, rfl, hA⟩ := hrel
                  clear A5 c0 c1 c2 c3 c4 c5 q5 y0 y1 y2 y3 y4 y5
                  obtain ⟨⟨c0, c1, c2, c3, c4, c5⟩, -⟩ := six_cells hA.out.wb.box
                  by_cases hlt : j < r.ins.length
                  · have hx := List.getElem?_eq_getElem hlt
                    rcases RI.out with h | ⟨bk, off, rfl, hbk, hcell⟩
                    · rw [h] at hlt; simp at hlt
                    obtain ⟨x0, x1⟩ := hcell j _ hx
                    have hnm := L5.out _ (List.getElem_mem hlt)
                    have htn := T3.out _ (List.getElem_mem hlt)
                    have htm := (hFit.out.ins _ (List.getElem_mem hlt)).2
                    have hnext := X6_next hx
                    have qj := Y6.out j
                    have qn : pn ≤ 4096 := by have := hA.out.len; omega
                    generalize r.ins[j] = x at *
                    obtain ⟨ti, et, et', hti⟩ := nat_time htn htm
                    rw [et] at x1
                    rw [et'] at hnext
                    have HNEXT := Lib.hid hnext
                    have X1' := Lib.hid x1
                    have z0 := (cell_of_block (j := off + j * 2) (hA.out.wb.bel.block bk hbk)).trans x0
                    have z1 := (cell_of_block (j := off + j * 2 + 1) (hA.out.wb.bel.block bk hbk)).trans x1
                    have hc := Pk.reft_any x.name wr (by omega)
                    clear hnext et et' htn htm x0 x1 hcell hx qj
                    go_wp2_with fail
                    refine hc.mono ?_
                    rintro e B1 ⟨d1, m1, g1, rfl, hown, hb⟩
                    obtain ⟨hm', hr', -⟩ := Pk.owned_row hown
                    have hne : Pk.le x.name.size 2 ++ Pk.sb x.name ≠ [] := fun e => by have := congrArg List.length e; simp [Pk.le_length] at this
                    have A1 := Lib.hid (hA.out.call (below_drew hb))
                    have R1 : Pk.Row B1.drew d1 (Pk.le x.name.size 2 ++ Pk.sb x.name) := hr'
                    have hN : Pk.le ti 8 ≠ [] := fun e => by have := congrArg List.length e; simp [Pk.le_length] at this
                    have hmb : m1 ≤ 6000 := by have := hm'.out; simp [Pk.le_length, Pk.sb_length] at this; omega
                    have hz1 : pn + m1 ≤ 140737488351232 := by omega
                    have hNa := refnum_w8 ti B1.drew hti
                    clear hc hown hb hr' c0 c1 c2 c3 c4 c5 z0 z1
                    obtain ⟨⟨-, -, -, -, c4, -⟩, -⟩ := six_cells A1.out.wb.box
                    have c4' : B1.cell? ⟨w.heap.size, 4, Option.none⟩ = some (.slice (some ⟨bk, off, Option.none⟩) r.ins.length ci) := c4
                    have z1 : B1.cell? ⟨bk, off + j * 2 + 1, Option.none⟩ = some (.int .i64 (ti : Int)) := (cell_of_block (j := off + j * 2 + 1) (A1.out.wb.bel.block bk hbk)).trans X1'.out
                    have z1' : B1.drew.cell? ⟨bk, off + j * 2 + 1, Option.none⟩ = some (.int .i64 (ti : Int)) := z1
                    go_wp2_with fail
                    go_region_held3 (fun w' => w'.cell? ⟨w.heap.size, 4, Option.none⟩ = some (.slice (some ⟨bk, off, Option.none⟩) r.ins.length ci) ∧ w'.cell? ⟨bk, off + j * 2 + 1, Option.none⟩ = some (.int .i64 (ti : Int)))
                      (first | exact ⟨c4', z1⟩ | exact ⟨c4, z1'⟩ | exact M2 | exact M3 | exact M4 | fail)
                      (first
                        | (refine step_appB rfl (.tmp 140) (.tmp 141) rfl (w.heap.size + 1) (.slice pa pn pk) pn (X6 r j) (by simp [Act.eval]) A1.out.own d1 m1 g1 (Pk.le x.name.size 2 ++ Pk.sb x.name) (by simp [Act.eval]) hm'.out R1 hne hz1 A1.out.wb.siz ?_; intro a2 n2 k2 W2 hown2 hn2 hg2; have A2 := Lib.hid (A1.out.grow hg2 hown2); have M2 := A2.out.two hbk X1'.out; have hNb := refnum_w8 ti W2 hti; clear hown2 hg2)
                        | (go_at_call 36; (with_reducible refine hNb.mono ?_); rintro e W3 ⟨a3, n3, k3, rfl, hown3, hb3⟩; obtain ⟨hm3, hr3, -⟩ := Pk.owned_row hown3; have A3 := Lib.hid (A2.out.call hb3); have M3 := A3.out.two hbk X1'.out; have hz3 : n2 + n3 ≤ 140737488351232 := (by (have := hm3.out; have := hn2.out; simp [Pk.le_length] at *; omega)); clear hown3 hb3)
                        | (go_at_call 36; (with_reducible refine hNa.mono ?_); rintro e W2 ⟨a3, n3, k3, rfl, hown3, hb3⟩; obtain ⟨hm3, -, -⟩ := Pk.owned_row hown3; have A2 := Lib.hid (A1.out.call hb3); have M3 := A2.out.two hbk X1'.out; have R2 := R1.below hb3; have HO3 := Lib.hid hown3; clear hown3 hb3)
                        | (refine step_appB rfl (.tmp 140) (.tmp 141) rfl (w.heap.size + 1) (.slice pa pn pk) pn (X6 r j) (by simp [Act.eval]) A2.out.own d1 m1 g1 (Pk.le x.name.size 2 ++ Pk.sb x.name) (by simp [Act.eval]) hm'.out R2 hne hz1 A2.out.wb.siz ?_; intro a2 n2 k2 W3 hown2 hn2 hg2; have A3 := Lib.hid (A2.out.grow hg2 hown2); have M4 := A3.out.two hbk X1'.out; obtain ⟨-, hr3, -⟩ := Pk.owned_row (num_kept A1.out.own HO3.out hg2); have hz3 : n2 + n3 ≤ 140737488351232 := (by (have := hm3.out; have := hn2.out; simp [Pk.le_length] at *; omega)); clear hown2 hg2)
                        | (refine step_appB rfl (.tmp 142) (.tmp 150) rfl (w.heap.size + 1) (.slice a2 n2 k2) n2 (X6 r j ++ (Pk.le x.name.size 2 ++ Pk.sb x.name)) (by simp [Act.eval]) A3.out.own a3 n3 k3 (Pk.le ti 8) (by simp [Act.eval]) hm3.out hr3 hN hz3 A3.out.wb.siz ?_; intro a9 n9 k9 W9 hown9 hn9 hg9; have A9 := Lib.hid (A3.out.grow hg9 hown9); have M4 := A9.out.two hbk X1'.out; clear hown9 hg9))
                    all_goals
                      rw [HNEXT.out] at A9
                      go_wp2_with fail
                      go_roundw
                      case rel => exact ⟨j + 1, by omega, by go_num, a9, n9, k9, rfl, A9⟩
                      case measure => simp [intOf]; omega
                  · obtain rfl : j = r.ins.length := by omega
                    have y6 := Y6.out r.ins.length
                    have qn : pn ≤ 4096 := by have := hA.out.len; omega
                    have hc := Pk.refnum_any r.found.length 4 wr (by omega) (by omega)
                    go_wp2_with fail
                    refine hc.mono ?_
                    rintro e B6 ⟨d6, m6, g6, rfl, hown, hb⟩
                    obtain ⟨hm', hr', hz'⟩ := Pk.owned_row hown
                    have hmb : m6 ≤ 6000 := by have := hm'.out; simp [Pk.le_length] at this; omega
                    have D6 := Lib.hid (hA.out.call hb)
                    have od := D6.out.own
                    have zd := D6.out.wb.siz
                    have hys : X6 r r.ins.length ++ Pk.le r.found.length 4 = X7 r := rfl
                    have HYS := Lib.hid hys
                    have hzz : pn + m6 ≤ 140737488351232 := by omega
                    clear hc hown hb hys c0 c1 c2 c3 c4 c5 hA
                    go_wp2_with (at_builtin; refine Pk.wpList_append_bytes rfl (.tmp 152) (.tmp 157) rfl (w.heap.size + 1) (.slice pa pn pk) pn (X6 r r.ins.length) rfl od d6 m6 g6 (Pk.le r.found.length 4) rfl hm'.out hz'.out hr' (X7 r) HYS.out hzz zd ?_; intro a7 n7 k7 U7 hown7 Hn7 hle7 _ _ hb7; have A7 := Lib.hid (D6.out.app hown7 hb7); obtain ⟨⟨c0, c1, c2, c3, c4, c5⟩, -⟩ := six_cells A7.out.wb.box; clear hm' hr' hz' hown7 Hn7 hle7 hb7 od zd D6 hzz)
                    go_loopw [8, 12] (fun v i wr => ∃ j : Nat, j ≤ r.found.length ∧ i = .int .i64 j ∧ ∃ a n k, v = .slice a n k ∧ Hid (RA w wr r (.slice ai r.ins.length ci) (.slice af r.found.length cf) (.slice a n k) n (X8 r j))) (fun _ i _ => r.found.length - (intOf i).toNat)
                    case atStart => exact ⟨0, Nat.zero_le _, rfl, a7, n7, k7, rfl, Lib.hid (by rw [X8_0]; exact A7.out)⟩
                    case round =>
                      obtain ⟨j, hj, rfl, pa, pn, pk, rfl, hA⟩ := hrel
                      clear A7 c0 c1 c2 c3 c4 c5
                      obtain ⟨⟨c0, c1, c2, c3, c4, c5⟩, -⟩ := six_cells hA.out.wb.box
                      by_cases hlt : j < r.found.length
                      · have hx := List.getElem?_eq_getElem hlt
                        rcases RF.out with h | ⟨bk, off, rfl, hbk, hcell⟩
                        · rw [h] at hlt; simp at hlt
                        have x0 := hcell j _ hx
                        have htn := T4.out _ (List.getElem_mem hlt)
                        have htm := hFit.out.fds _ (List.getElem_mem hlt)
                        have hnext := X8_next hx
                        have qj := Y8.out j (by omega)
                        have qn : pn ≤ 4096 := by have := hA.out.len; omega
                        generalize r.found[j] = x at *
                        obtain ⟨ti, et, et', hti⟩ := nat_time htn htm
                        rw [et] at x0
                        rw [et'] at hnext
                        have z0 := (cell_of_block (j := off + j) (hA.out.wb.bel.block bk hbk)).trans x0
                        have hc := Pk.refnum_any ti 8 wr (by omega) (by omega)
                        have HYS := Lib.hid hnext
                        clear hnext et et' htn htm x0 hcell hx qj
                        go_wp2_with fail
                        refine hc.mono ?_
                        rintro e B6 ⟨d6, m6, g6, rfl, hown, hb⟩
                        obtain ⟨hm', hr', hz'⟩ := Pk.owned_row hown
                        have hmb : m6 ≤ 6000 := by have := hm'.out; simp [Pk.le_length] at this; omega
                        have D6 := Lib.hid (hA.out.call hb)
                        have od := D6.out.own
                        have zd := D6.out.wb.siz
                        have hzz : pn + m6 ≤ 140737488351232 := by omega
                        clear hc hown hb c0 c1 c2 c3 c4 c5 hA z0
                        go_wp2_with (at_builtin; refine Pk.wpList_append_bytes rfl (.tmp 166) (.tmp 173) rfl (w.heap.size + 1) (.slice pa pn pk) pn (X8 r j) rfl od d6 m6 g6 (Pk.le ti 8) rfl hm'.out hz'.out hr' (X8 r (j + 1)) HYS.out hzz zd ?_; intro a7 n7 k7 U7 hown7 Hn7 hle7 _ _ hb7; have A7 := Lib.hid (D6.out.app hown7 hb7); clear hm' hr' hz' hown7 Hn7 hle7 hb7 od zd D6 hzz)
                        go_roundw
                        case rel => exact ⟨j + 1, by omega, by go_num, a7, n7, k7, rfl, A7⟩
                        case measure => simp [intOf]; omega
                      · obtain rfl : j = r.found.length := by omega
                        have EE := Lib.hid (X8_all r)
                        go_wp2_with fail
                        go_ret2
                        have hA' := hA.out
                        rw [EE.out] at hA'
                        exact wrQ_rec HE.out hA'
end Go.Proofs.Ytdijpoemimebmaa.Rn
