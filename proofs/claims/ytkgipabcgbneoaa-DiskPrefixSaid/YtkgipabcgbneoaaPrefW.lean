/-
  THE LAW DiskPrefix, WALKED.
-/
import Derived.Test.YtkgipabcgbneoaaOne
namespace Go.Proofs.Ytkgipabcgbneoaa
open Go.RowKit Go.Maps

variable {X : Nat → Prop} {K : Nat} {w : World} {p : Nat} {q : Pl} {d : Ds}

theorem wpList_append_app {w w2 : World} {ops : Array Oper} {rest : List Oper} {o : Oper} {a : Act} {Q : Exit → Act → World → Prop} (hgd : o.guard = none) (s x : Operand)
    (ho : o.op = .call { callee := .builtin .append, args := #[s, x], argTypes := #[22, 22] }) (hty : o.type = 22) (v1 v2 v : Value) (hs : a.eval s = v1) (hx : a.eval x = v2)
    (hrun : (Builtin.append_ #[22, 22] 22 #[v1, v2]).run Try.prog w = .ok v w2) (h : wpList Try.prog ops Q rest (a.put o.dst v) w2) : wpList Try.prog ops Q (o :: rest) a w := by
  refine wpList_plain hgd fun K hK => ?_
  unfold Oper.wp
  simp [execOp, ho, hty, resolve, invoke, builtin, hs, hx, hrun, Result.andThen]
  exact hK _ _ h

/-- rows of bytes that came in -/
def Mat (w : World) (v : Value) (rows : List (List UInt8)) : Prop :=
  ∃ a cap, v = .slice a rows.length cap ∧ ∀ j r, rows[j]? = some r → ∃ b o u, a = some ⟨b, o, none⟩ ∧ b < w.heap.size ∧ w.cell? ⟨b, o + j, none⟩ = some u ∧ BRow w u r

def pre (rows : List (List UInt8)) (i : Nat) : List UInt8 := (rows.take i).flatten
theorem pre_succ {rows : List (List UInt8)} {i : Nat} {r : List UInt8} (h : rows[i]? = some r) : pre rows (i + 1) = pre rows i ++ r := by
  have := (List.getElem?_eq_some_iff.1 h)
  obtain ⟨hi, rfl⟩ := this
  unfold pre
  rw [List.take_succ_eq_append_getElem hi, List.flatten_append, List.flatten_cons, List.flatten_nil, List.append_nil]
theorem pre_all (rows : List (List UInt8)) : pre rows rows.length = rows.flatten := by unfold pre; rw [List.take_length]

/-- the law's own row, and the disk beside it -/
structure Lie (w0 : World) (X : Nat → Prop) (K : Nat) (w : World) (p : Nat) (d : Ds) (va : Value) (bs : List UInt8) : Prop where
  disk : Dk X K w p d
  old : ∀ k, k < w0.heap.size → X k
  below : Below w0.heap.size w0 w
  row : w.ownsRow 0 5 1 va bs.length (bytesV bs)
  own : ∀ k, va.ownBlock = some k → X k ∧ w0.heap.size ≤ k

theorem Lie.mono {w0 : World} {va : Value} {bs : List UInt8} (h : Lie w0 X K w p d va bs) {K' : Nat} (hK : K ≤ K') : Lie w0 X K' w p d va bs := ⟨h.disk.mono hK, h.old, h.below, h.row, h.own⟩
theorem Lie.same {w0 : World} {va : Value} {bs : List UInt8} (h : Lie w0 X K w p d va bs) {w' : World} {K' : Nat} {d' : Ds} (hs : Same X w w') (hd : Dk X K' w' p d') : Lie w0 X K' w' p d' va bs := by
  have hin : ∀ k, X k → k < w.heap.size := by obtain ⟨q, hq⟩ := h.disk; exact hq.inX
  exact ⟨hd, h.old, h.below.trans (hs.below h.below.size h.old), row_kept h.row fun k hk => hs.block k (hin k (h.own k hk).1) (h.own k hk).1, h.own⟩
theorem Lie.up {w0 : World} {va : Value} {bs : List UInt8} (h : Lie w0 X K w p d va bs) {w' : World} (hb : Below w.heap.size w w') : Lie w0 (Since X w w') K w' p d va bs := by
  have hin : ∀ k, X k → k < w.heap.size := by obtain ⟨q, hq⟩ := h.disk; exact hq.inX
  exact ⟨h.disk.since hb, fun k hk => .inl (h.old k hk), h.below.trans (hb.mono h.below.size), row_kept h.row fun k hk => hb.block k (hin k (h.own k hk).1), fun k hk => ⟨.inl (h.own k hk).1, (h.own k hk).2⟩⟩
theorem Lie.app {w0 : World} {va : Value} {bs : List UInt8} (h : Lie w0 X K w p d va bs) {w' : World} {va' : Value} {bs' : List UInt8} (hg : w.grownBy w' va.ownBlock) (hr : w'.ownsRow 0 5 1 va' bs'.length (bytesV bs'))
    (hb : ∀ k, va'.ownBlock = some k → va.ownBlock = some k ∨ w.heap.size ≤ k) : Lie w0 (Since X w w') K w' p d va' bs' := by
  have hin : ∀ k, X k → k < w.heap.size := by obtain ⟨q, hq⟩ := h.disk; exact hq.inX
  have hlt : ∀ k, va'.ownBlock = some k → k < w'.heap.size := fun k hk => by
    obtain ⟨cur, hc⟩ := row_elem hr hk
    exact lt_of_some hc
  refine ⟨h.disk.frame hg.size (fun k hk hX => hg.block k hk fun e => hX (h.own k e.symm).1) (fun k hk hY => ?_) (fun k hY => ?_), fun k hk => .inl (h.old k hk), ?_, hr, fun k hk => ?_⟩
  · rcases hY with hY | hY
    · exact hY
    · have := hY.1; omega
  · rcases hY with hY | hY
    · exact Nat.lt_of_lt_of_le (hin k hY) hg.size
    · exact hY.2
  · exact h.below.trans ⟨hg.os, hg.tape, hg.output, hg.size, fun k hk => hg.block k (Nat.lt_of_lt_of_le hk h.below.size) fun e => by have := (h.own k e.symm).2; omega⟩
  · rcases hb k hk with h1 | h1
    · exact ⟨.inl (h.own k h1).1, (h.own k h1).2⟩
    · exact ⟨.inr ⟨h1, hlt k hk⟩, Nat.le_trans h.below.size h1⟩

theorem slice_of {v : Value} {bs : List UInt8} (h : BRow w v bs) : ∃ a c, v = .slice a bs.length c := by
  rcases h with ⟨rfl, rfl⟩ | ⟨a, c, rfl, _⟩
  · exact ⟨_, _, rfl⟩
  · exact ⟨_, _, rfl⟩

set_option maxRecDepth 100000 in
set_option maxHeartbeats 8000000 in
theorem prefix_main {v : Value} {rows : List (List UInt8)} (a t : Int) (ha : 0 ≤ a ∧ a ≤ 255) (ht : -9223372036854775808 ≤ t ∧ t ≤ 9223372036854775807) (w : World) (hM : Mat w v rows) (hn : 1 ≤ rows.length ∧ rows.length ≤ 20) :
    Calls Try.prog 5 #[v, .int .u8 a, .int .i64 t] w fun e w' => e = .returned (.bool true) ∧ Below w.heap.size w w' := by
  obtain ⟨la, lc, rfl, hrow⟩ := hM
  obtain ⟨r0, hr0⟩ : ∃ r, rows[0]? = some r := ⟨rows[0], List.getElem?_eq_getElem (by omega)⟩
  obtain ⟨b, o, _, rfl, hb, _, _⟩ := hrow 0 r0 hr0
  have hrow2 : ∀ j r, rows[j]? = some r → ∃ u, w.cell? ⟨b, o + j, none⟩ = some u ∧ BRow w u r := fun j r hj => by
    obtain ⟨b', o', u, e, _, hc, hr⟩ := hrow j r hj
    cases e
    exact ⟨u, hc, hr⟩
  have hget : ∀ j, j < rows.length → ∃ r, rows[j]? = some r := fun j hj => ⟨rows[j], List.getElem?_eq_getElem hj⟩
  have HR := Lib.hid hrow2
  have HGET := Lib.hid hget
  have HPA := Lib.hid (pre_all rows)
  clear hrow hrow2 hget hr0
  generalize hN : rows.length = n at *
  have HNN := Lib.hid hN
  clear hN
  obtain ⟨m, rfl⟩ : ∃ m : Nat, a = (m : Int) := ⟨a.toNat, by omega⟩
  obtain ⟨k, hk1, hkn⟩ : ∃ k : Nat, m % n = k ∧ k < n := ⟨m % n, rfl, Nat.mod_lt _ (by omega)⟩
  have hk2 : (m : Int) % (n : Int) = (k : Int) := by omega
  have hk3 : (m : Int).tmod (n : Int) = (k : Int) := by rw [Int.tmod_eq_emod_of_nonneg (by omega)]; exact hk2
  have hn0 : ((n : Int) == 0) = false := by simp; omega
  have hn1 : decide ((n : Int) = 0) = false := decide_eq_false (by omega)
  clear hk1
  have hfr := fresh_c w
  go_enter Try.func5, Try.ntmps5
  go_wp2_with fail
  refine hfr.mono ?_
  rintro e w1 ⟨p, rfl, hp, hb1, hd1⟩
  have HL0 : Hid (Lie w (fun k => k < w.heap.size) (5 * 0) w1 p (newD 16777216) (.slice none 0 0) (pre rows 0)) := Lib.hid ⟨hd1.mono (by omega), fun _ hk => hk, hb1, World.ownsRow_nil _ _ _ _, fun k hk => by cases hk⟩
  clear hfr hd1 hb1 hp
  go_wp2
  go_loopw [10, 11, 12] (fun va vs vi wr => ∃ i : Nat, i ≤ n ∧ vi = .int .i64 i ∧ ∃ (X : Nat → Prop) (d : Ds) (s : Option Nat) (m an ac : Nat) (aa : Option Addr), va = .slice aa an ac ∧ vs = .int .i64 m ∧ Hid (an = (pre rows i).length) ∧ Hid (Lie w X (5 * i) wr p d (.slice aa an ac) (pre rows i)) ∧ Hid (Cur (pre rows i) s d) ∧ Hid ((i ≤ k ∧ s = none) ∨ (k < i ∧ s = some m ∧ m ≤ (pre rows i).length)) ∧ Hid ((pre rows i).length ≤ 300 * i)) (fun _ _ vi _ => n - (intOf vi).toNat)
  case atStart => exact ⟨0, Nat.zero_le _, rfl, _, newD 16777216, none, 0, 0, 0, none, rfl, rfl, Lib.hid rfl, HL0, Lib.hid (.inl ⟨rfl, rfl, rfl⟩), Lib.hid (.inl ⟨Nat.zero_le _, rfl⟩), Lib.hid (Nat.le_refl _)⟩
  case round =>
    obtain ⟨i, hi, rfl, X, d, s, sm, an, ac, aa, rfl, rfl, han, hL, hC, hS, hlen⟩ := hrel
    clear HL0
    by_cases hlt : i < n
    · obtain ⟨r, hr⟩ := HGET.out i hlt
      obtain ⟨u, hcell, hbr⟩ := HR.out i r hr
      obtain ⟨ua, uc, rfl⟩ := slice_of hbr
      obtain ⟨rn, hrn⟩ : ∃ rn, r.length = rn := ⟨_, rfl⟩
      have hbl := hL.out.below
      have hcw : wr.cell? ⟨b, o + i, none⟩ = some (.slice ua rn uc) := (hbl.cell (p := ⟨b, o + i, none⟩) hb).trans (by rw [← hrn]; exact hcell)
      by_cases hr300 : rn ≤ 300
      · have hst := one_step (K := 5 * i) hL.out.disk (by omega) hC.out (hbr.below hbl) (fun k hk => hL.out.old k (hbr.lt hk)) (by have := hlen.out; omega)
        have HCELL := Lib.hid hcell
        have HBR := Lib.hid hbr
        have HRN := Lib.hid hrn
        have HRR := Lib.hid hr
        rw [hrn] at hst
        clear hcell hbr hbl hrn hr
        go_wp2_with fail
        refine hst.mono ?_
        rintro e w3 ⟨rfl, hs3, d3, hd3, id, hO3⟩
        have hL3 := hL.out.same hs3 hd3
        have hc3 : w3.cell? ⟨b, o + i, none⟩ = some (.slice ua rn uc) := (hL3.below.cell (p := ⟨b, o + i, none⟩) hb).trans (by rw [← HRN.out]; exact HCELL.out)
        obtain ⟨a4, c4, w4, hrun, hown4, hg4, hbl4⟩ := run_app hL3.row (HBR.out.below hL3.below) (by have := hlen.out; have := HRN.out; omega) 22
        have hL4 := hL3.app hg4 hown4 hbl4
        rw [← pre_succ HRR.out] at hL4 hO3
        have hlen4 : (pre rows (i + 1)).length = an + rn := by rw [pre_succ HRR.out, List.length_append, han.out, HRN.out]
        rw [HRN.out, ← han.out] at hrun hL4
        have HL4 := Lib.hid hL4
        have HO3 := Lib.hid hO3
        have HLEN4 := Lib.hid hlen4
        clear hst hs3 hd3 hL3 hown4 hg4 hbl4 hL4 hO3 hlen4 hcw
        by_cases hik : i = k
        · subst hik
          go_wp2_with (at_builtin; refine wpList_append_app rfl _ _ rfl rfl _ _ _ rfl rfl hrun ?_)
          clear hrun hc3
          obtain rfl : s = none := by
            rcases hS.out with h | h
            · exact h.2
            · omega
          have hsy := one_sync_c HL4.out.disk (by omega) HO3.out
          clear hS
          refine hsy.mono ?_
          rintro e w5 ⟨rfl, hs5, hd5⟩
          have hL5 := HL4.out.same hs5 hd5
          have hdi := one_dir_c hd5 (by omega) HO3.out
          have HL5 := Lib.hid hL5
          clear hsy hs5 hd5 hL5
          go_wp2_with fail
          refine hdi.mono ?_
          rintro e w6 ⟨rfl, hs6, d6, hd6, id6, hO6⟩
          have HL6 := Lib.hid (HL5.out.same hs6 hd6)
          have HO6 := Lib.hid hO6
          clear hdi hs6 hd6 hO6
          go_wp2
          go_roundw
          case rel => exact ⟨i + 1, by omega, by go_num, _, d6, _, an + rn, _, _, _, rfl, by go_num, Lib.hid HLEN4.out.symm, Lib.hid (HL6.out.mono (by omega)), Lib.hid (.inr ⟨_, HO6.out⟩), Lib.hid (.inr ⟨by omega, by rw [HLEN4.out], by rw [HLEN4.out]; exact Nat.le_refl _⟩), Lib.hid (by have := HLEN4.out; have := hlen.out; have := han.out; omega)⟩
          case measure => simp [intOf]; omega
        · have hikb : ((i : Int) == (k : Int)) = false := by simp; omega
          go_wp2_with (at_builtin; refine wpList_append_app rfl _ _ rfl rfl _ _ _ rfl rfl hrun ?_)
          clear hrun hc3 hikb
          go_roundw
          case rel => exact ⟨i + 1, by omega, by go_num, _, d3, s, sm, _, _, _, rfl, rfl, Lib.hid HLEN4.out.symm, Lib.hid (HL4.out.mono (by omega)), Lib.hid (.inr ⟨_, HO3.out⟩), Lib.hid (by
            rcases hS.out with h | h
            · exact .inl ⟨by omega, h.2⟩
            · exact .inr ⟨by omega, h.2.1, by have := HLEN4.out; have := han.out; have := h.2.2; omega⟩), Lib.hid (by have := HLEN4.out; have := hlen.out; have := han.out; omega)⟩
          case measure => simp [intOf]; omega
      · go_wp2
        go_ret
        exact ⟨rfl, hL.out.below⟩
    · obtain rfl : i = n := by omega
      obtain ⟨hs1, hsm⟩ : s = some sm ∧ sm ≤ (pre rows i).length := by
        rcases hS.out with h | h
        · omega
        · exact h.2
      subst hs1
      obtain ⟨id, hO⟩ : ∃ id, One (pre rows i) (some sm) id d := by
        rcases hC.out with ⟨_, _, h⟩ | h
        · cases h
        · exact h
      have HAN6 : Hid (an ≤ 6000) := Lib.hid (by have := hlen.out; have := han.out; omega)
      clear hC hS hlen
      obtain ⟨bs, hbs⟩ : ∃ bs, pre rows i = bs := ⟨_, rfl⟩
      rw [hbs] at han hL hsm hO
      clear hbs
      have hst := stat_some (l := [102]) hL.out.disk (by unfold maxLen; simp) hO.1 (by rw [hO.2.2.2.1, if_pos rfl])
      rw [hO.2.2.2.2.1, ← han.out] at hst
      obtain ⟨T0, hT0⟩ : ∃ T, (d.files id).time = T := ⟨_, rfl⟩
      rw [hT0] at hst
      have HO := Lib.hid hO
      have HSM := Lib.hid hsm
      have HT0 := Lib.hid hT0
      clear hO hsm hT0 hlt hi
      go_wp2_with fail
      refine hst.mono ?_
      rintro e w7 ⟨rfl, hb7⟩
      have hL8 := hL.out.up (hb7.trans ((below_alloc w7 (.cells #[.int .i64 an, .int .i64 T0] 35)).mono hb7.size))
      have c8 : (w7.alloc (.cells #[.int .i64 an, .int .i64 T0] 35)).cell? ⟨w7.heap.size, 1, none⟩ = some (.int .i64 T0) := cell_at_new _ _ _ _ _ rfl
      have hX8 : Since X wr (w7.alloc (.cells #[.int .i64 an, .int .i64 T0] 35)) w7.heap.size := .inr ⟨hb7.size, by simp⟩
      have h8 : w7.heap.size < (w7.alloc (.cells #[.int .i64 an, .int .i64 T0] 35)).heap.size := by simp
      obtain ⟨w8, hw8⟩ : ∃ W, w7.alloc (.cells #[.int .i64 an, .int .i64 T0] 35) = W := ⟨_, rfl⟩
      obtain ⟨X8, hX8'⟩ : ∃ Y, Since X wr (w7.alloc (.cells #[.int .i64 an, .int .i64 T0] 35)) = Y := ⟨_, rfl⟩
      rw [hX8'] at hL8 hX8
      rw [hw8] at hL8 c8 h8
      have hL9 := hL8.up (below_alloc w8 (.cells #[.int .i64 t] 3))
      have c9 : (w8.alloc (.cells #[.int .i64 t] 3)).cell? ⟨w7.heap.size, 1, none⟩ = some (.int .i64 T0) := ((below_alloc w8 _).cell (p := ⟨w7.heap.size, 1, none⟩) h8).trans c8
      have hre := restart_ok (ts := [t]) (tv := .slice (some ⟨w8.heap.size, 0, none⟩) 1 1) hL9.disk (by omega) 0 ⟨_, _, rfl, .inr ⟨_, _, rfl, by simp, fun i t' hi => by
        match i, hi with
        | 0, hi => simp at hi; subst hi; exact cell_at_new _ _ _ _ _ rfl⟩⟩ (fun x hx => by simp [Value.rowBlock] at hx; subst hx; exact .inr ⟨Nat.le_refl _, by simp⟩) (by simp)
      have h9 : w7.heap.size < (w8.alloc (.cells #[.int .i64 t] 3)).heap.size := by simp; omega
      have HL9 := Lib.hid hL9
      have C9 := Lib.hid c9
      have H9 := Lib.hid h9
      have HX9 := Lib.hid (show Since X8 w8 (w8.alloc (.cells #[.int .i64 t] 3)) w7.heap.size from .inl hX8)
      have HW8 := Lib.hid hw8
      have e8 : w8.heap.size = w7.heap.size + 1 := by rw [← hw8]; simp
      rw [e8] at hre
      clear e8 hst hb7 hL8 c8 hX8 h8 hX8' hL9 c9 h9 hw8
      go_wp2_with fail
      rw [HW8.out]
      refine hre.mono ?_
      rintro e wA ⟨⟨xA, rfl⟩, hsA, ns, ⟨hnd, hmem, _⟩, hdA⟩
      obtain ⟨hup, hnow, hby, hle, htime⟩ := one_back HO.out HSM.out t hnd hmem
      have hdA' : Dk (Since X8 w8 (w8.alloc (.cells #[.int .i64 t] 3))) (5 * i + 1) wA p (lostAll [t] 0 ns (back d 0)) := hdA
      have hLA := HL9.out.same hsA hdA'
      have cA : wA.cell? ⟨w7.heap.size, 1, none⟩ = some (.int .i64 T0) := (hsA.cell (p := ⟨w7.heap.size, 1, none⟩) H9.out HX9.out).trans C9.out
      have hA7 : w7.heap.size < wA.heap.size := Nat.lt_of_lt_of_le H9.out hsA.size
      have hbl : bs.length = an := by rw [← han.out]
      obtain ⟨kk, hkk⟩ : ∃ kk, stay sm t bs.length = kk := ⟨_, rfl⟩
      have hwant : (sm : Int) + min (max t 0) ((an : Int) - sm) = (kk : Int) := by
        have := HSM.out
        rw [← hkk, hbl]; unfold stay; omega
      rw [hkk] at hby hle htime
      rw [HT0.out] at htime
      have hlk : (bs.take kk).length = kk := by rw [List.length_take]; omega
      obtain ⟨D, hD⟩ : ∃ D, lostAll [t] 0 ns (back d 0) = D := ⟨_, rfl⟩
      rw [hD] at hup hnow hby htime hLA
      have hrd := read_some (l := [102]) hLA.disk (by unfold maxLen; simp) hup hnow
      obtain ⟨T1, hT1⟩ : ∃ T, (D.files id).time = T := ⟨_, rfl⟩
      rw [hT1] at htime
      rw [hby] at hrd
      rw [hlk] at hrd
      have HLA := Lib.hid hLA
      have CA := Lib.hid cA
      have HA7 := Lib.hid hA7
      have HTIME := Lib.hid htime
      have HWANT := Lib.hid hwant
      have HLK := Lib.hid hlk
      have HUP := Lib.hid hup
      have HNOW := Lib.hid hnow
      have HBY := Lib.hid hby
      have HT1 := Lib.hid hT1
      have HBL := Lib.hid hbl
      have HLE := Lib.hid hle
      clear hre hdA hdA' hsA hmem hnd hLA cA hA7 htime hwant hlk hup hnow hby hT1 hbl hle hkk hD
      go_wp2_with fail
      refine hrd.mono ?_
      rintro e wB ⟨y, rfl, hrowy, hbB⟩
      have hcy := fun W (hb : Below wB.heap.size wB W) => conv_b ((row_bytes (by rw [HLK.out]; exact hrowy)).below hb)
      obtain ⟨ya, yc, rfl⟩ := row_len hrowy
      have hLB := HLA.out.up hbB
      have hst2 := stat_some (l := [102]) hLB.disk (by unfold maxLen; simp) HUP.out HNOW.out
      rw [HBY.out, HLK.out, HT1.out] at hst2
      have HLB := Lib.hid hLB
      have HBB := Lib.hid hbB
      have HCY := Lib.hid hcy
      clear hrd hrowy hbB hcy hLB
      go_wp2_with fail
      refine hst2.mono ?_
      rintro e wC ⟨rfl, hbC⟩
      have hbD : Below wB.heap.size wB (wC.alloc (.cells #[.int .i64 kk, .int .i64 T1] 35)) := hbC.trans ((below_alloc wC _).mono hbC.size)
      have hLD := HLB.out.up hbD
      have cT1 : (wC.alloc (.cells #[.int .i64 kk, .int .i64 T1] 35)).cell? ⟨wC.heap.size, 1, none⟩ = some (.int .i64 T1) := cell_at_new _ _ _ _ _ rfl
      have cT0 : (wC.alloc (.cells #[.int .i64 kk, .int .i64 T1] 35)).cell? ⟨w7.heap.size, 1, none⟩ = some (.int .i64 T0) :=
        (hbD.cell (p := ⟨w7.heap.size, 1, none⟩) (Nat.lt_of_lt_of_le HA7.out HBB.out.size)).trans ((HBB.out.cell (p := ⟨w7.heap.size, 1, none⟩) HA7.out).trans CA.out)
      have hcy := HCY.out _ hbD
      have hca := conv_b (row_bytes (row_cut (m := kk) hLD.row rfl HLE.out))
      have hbe := hLD.below
      have hkc : kk ≤ ac := by
        have h3 := HLE.out
        rcases hLD.row.2 with ⟨e, h0⟩ | ⟨g, cap', cur, e, _, _, e2, _⟩
        · omega
        · cases e; omega
      have hcy2 := HCY.out _ hbD.drew
      have hca2 := conv_b ((row_bytes (row_cut (m := kk) hLD.row rfl HLE.out)).drewN (w' := (wC.alloc (.cells #[.int .i64 kk, .int .i64 T1] 35)).drew) rfl)
      have cT0' : (wC.alloc (.cells #[.int .i64 kk, .int .i64 T1] 35)).drew.cell? ⟨w7.heap.size, 1, none⟩ = some (.int .i64 T0) := cT0
      have cT1' : (wC.alloc (.cells #[.int .i64 kk, .int .i64 T1] 35)).drew.cell? ⟨wC.heap.size, 1, none⟩ = some (.int .i64 T1) := cT1
      obtain ⟨w2, hw2⟩ : ∃ W, (wC.alloc (.cells #[.int .i64 kk, .int .i64 T1] 35)).drew = W := ⟨_, rfl⟩
      have hb2 : Below w.heap.size w w2 := by rw [← hw2]; exact hbe.drew
      rw [hw2] at hcy2 hca2 cT0' cT1'
      obtain ⟨wD, hwD⟩ : ∃ W, wC.alloc (.cells #[.int .i64 kk, .int .i64 T1] 35) = W := ⟨_, rfl⟩
      rw [hwD] at cT1 cT0 hcy hca hbe hw2
      have HW2 := Lib.hid hw2
      have HB2 := Lib.hid hb2
      have HWD := Lib.hid hwD
      have HBE := Lib.hid hbe
      have hw64 : wrap64 ((sm : Int) + min (max t 0) (wrap64 ((an : Int) - sm))) = (kk : Int) := by
        have h1 := HAN6.out
        have h2 := HSM.out
        have h3 := HLE.out
        have h4 := HBL.out
        rw [IntWalk.wrap64_in ((an : Int) - sm) (by omega), HWANT.out, IntWalk.wrap64_in _ (by omega)]
      clear hst2 hbC hbD hLD hwD hbe hw2 hb2 cT0 cT1 hcy hca
      go_wp2_with fail
      rw [HWD.out, hw64]
      clear hw64
      have haw := awake_c w2
      rcases HTIME.out with ⟨e1, e2⟩ | ⟨e1, e2⟩
      · have b1 : ((T1 : Int) == (T0 : Int)) = true := by simp; omega
        have b2 : ((kk : Int) == (an : Int)) = true := by have := HBL.out; simp; omega
        have b3 : decide ((T0 : Int) ≤ (T1 : Int)) = true := decide_eq_true (by omega)
        have b4 : T0 ≤ T1 := by omega
        clear e1 e2
        refine wp_region_still_tail 35 (by kernel_rfl) (by kernel_rfl) ?_
        rw [show ({ wD with drawn := wD.drawn + 1 } : World) = w2 from HW2.out]
        simp only [List.take_succ_cons, List.take_zero, List.drop_succ_cons, List.drop_zero]
        repeat still_step
        refine wpStill_nil ?_
        go_wp2_with fail
        refine haw.mono ?_
        rintro e wE ⟨rfl, hbE⟩
        go_wp2
        go_ret
        exact ⟨rfl, HB2.out.trans (hbE.mono HB2.out.size)⟩
      · have b1 : ((T1 : Int) == (T0 : Int)) = false := by simp; omega
        have b2 : ((kk : Int) == (an : Int)) = false := by have := HBL.out; simp; omega
        have b3 : decide ((T0 : Int) ≤ (T1 : Int)) = true := decide_eq_true (by omega)
        have b4 : T0 ≤ T1 := by omega
        clear e1 e2
        refine wp_region_still_tail 35 (by kernel_rfl) (by kernel_rfl) ?_
        rw [show ({ wD with drawn := wD.drawn + 1 } : World) = w2 from HW2.out]
        simp only [List.take_succ_cons, List.take_zero, List.drop_succ_cons, List.drop_zero]
        repeat still_step
        refine wpStill_nil ?_
        go_wp2_with fail
        refine haw.mono ?_
        rintro e wE ⟨rfl, hbE⟩
        go_wp2
        go_ret
        exact ⟨rfl, HB2.out.trans (hbE.mono HB2.out.size)⟩

set_option maxRecDepth 100000 in
set_option maxHeartbeats 2000000 in
theorem prefix_c {v : Value} {rows : List (List UInt8)} (a t : Int) (ha : 0 ≤ a ∧ a ≤ 255) (ht : -9223372036854775808 ≤ t ∧ t ≤ 9223372036854775807) (w : World) (hM : Mat w v rows) :
    Calls Try.prog 5 #[v, .int .u8 a, .int .i64 t] w fun e w' => e = .returned (.bool true) ∧ Below w.heap.size w w' := by
  by_cases hn : 1 ≤ rows.length ∧ rows.length ≤ 20
  · exact prefix_main a t ha ht w hM hn
  · obtain ⟨la, lc, rfl, _⟩ := hM
    generalize rows.length = n at *
    by_cases h1 : n ≤ 20
    · obtain rfl : n = 0 := by omega
      clear hn
      go_enter Try.func5, Try.ntmps5
      go_wp2
      go_ret
      exact ⟨rfl, Below.refl _ _⟩
    · clear hn
      go_enter Try.func5, Try.ntmps5
      go_wp2
      go_ret
      exact ⟨rfl, Below.refl _ _⟩
end Go.Proofs.Ytkgipabcgbneoaa
