/-
  Lines, WALKED.
-/
import Derived.Test.YtbohnjiachnadaaDoorLdRows
namespace Go.Proofs.YtbohnjiachnadaaDoor.Lx
open Go.RowKit

theorem infoLn : (Tryd.prog.info? 35).map (fun i => (i.zero, i.size, i.bytes)) = some (some (.agg #[.bool false, .string ⟨#[]⟩, .int .i64 0]), 3, 32) := by kernel_rfl

theorem heap_set1 {w : World} {b : Nat} {c : Array Value} {e : TypeId} {fz : Nat × Nat} (h : w.heap[b]? = some (.cells c e fz)) (o : Nat) (u : Value) : (w.setCell ⟨b, o, none⟩ u).heap[b]? = some (.cells (c.setIfInBounds o u) e fz) := by
  simp only [World.setCell, Array.getElem?_modify, if_pos]
  rw [h]
  rfl

theorem owns_base {w : World} {a b : Nat} {e : TypeId} {size : Nat} {v : Value} {n : Nat} {xs : List Value} (h : w.ownsRow b e size v n xs) (hab : a ≤ b) : w.ownsRow a e size v n xs := by
  obtain ⟨h1, h2⟩ := h
  refine ⟨h1, ?_⟩
  rcases h2 with h | ⟨g, cap, cur, e1, e2, e3⟩
  · exact .inl h
  · exact .inr ⟨g, cap, cur, e1, Nat.le_trans hab e2, e3⟩

theorem wpList_append_line {w : World} {ops : Array Oper} {rest : List Oper} {o : Oper} {a : Act} {Q : Exit → Act → World → Prop} (hgd : o.guard = none) (s x : Operand)
    (ho : o.op = .call { callee := .builtin .append, args := #[s, x], argTypes := #[23, 23] })
    (base : Nat) (v : Value) (L : List Ln) (hs : a.eval s = v) (hown : w.ownsRow base 35 3 v L.length (lnsV L))
    (ad : Addr) (c : Nat) (p : Ln) (hx : a.eval x = .slice (some ad) 1 c) (hnews : ∀ j u, (lnV p)[j]? = some u → w.cell? (ad.add j) = some u)
    (hn : L.length ≤ 1000000) (hbase : base ≤ w.heap.size)
    (h : ∀ v' w', w'.ownsRow base 35 3 v' (L ++ [p]).length (lnsV (L ++ [p])) → Below base w w' → wpList Tryd.prog ops Q rest (a.put o.dst v') w') : wpList Tryd.prog ops Q (o :: rest) a w := by
  obtain ⟨i0, hi, hz0, hz1, hz2⟩ := info_parts infoLn
  refine wpList_append_own w hgd s x 23 ho base 35 i0 (.agg #[.bool false, .string ⟨#[]⟩, .int .i64 0]) 3 32 Tryd.underlying23 hi hz0 hz1 hz2 rfl (by decide) v L.length (lnsV L) hs hown ad 1 c (lnV p) hx rfl hnews (by simp [lnV, Value.oneCell']) (by unfold maxLen; omega) (by omega) hbase ?_
  intro v' w' h1 h2 _
  have h3 : w'.ownsRow base 35 3 v' (L ++ [p]).length (lnsV (L ++ [p])) := by rw [lnsV_snoc, List.length_append]; exact h1
  exact h v' w' h3 ((Below.refl _ _).grown h2 hbase fun k hk => (hown.lt k hk).1)

set_option maxRecDepth 100000 in
set_option maxHeartbeats 8000000 in
theorem lines_c (s : Bs) (hs : s.length ≤ 16384) (hok : ∀ r ∈ rowsOf s, okB r = true) (w : World) :
    Calls Tryd.prog 6 #[.string (mk s)] w (LinesQ w (rowsOf s).length (lines (rowsOf s).length (rowsOf s))) := by
  have hz := mk_size s
  have hl : ¬ (16384 : Int) < ((mk s).size : Int) := by omega
  have hsp := split_c s (by omega) w
  have hrl := rows_length s
  have hcl : s.count 10 ≤ s.length := List.count_le_length
  obtain ⟨K, hK⟩ : ∃ K, rowsOf s = K := ⟨_, rfl⟩
  have hle : ∀ r ∈ K, r.length ≤ 16384 := fun r hr => Nat.le_trans (rows_le (hK ▸ hr)) hs
  rw [hK] at hsp hrl hok
  rw [hK]
  have hne : K ≠ [] := by rintro rfl; simp at hrl
  have hst := strs_new w K hne K.length (Nat.le_refl _)
  have hB0 := below_alloc w (.cells (strV K).toArray 9)
  obtain ⟨w1, hw1⟩ : ∃ w1, w.alloc (.cells (strV K).toArray 9) = w1 := ⟨_, rfl⟩
  rw [hw1] at hsp hst hB0
  have hfw := firstWrong_c hst (by omega) (fun r hr => ⟨hok r hr, by have := hle r hr; omega⟩)
  obtain ⟨N, hN⟩ : ∃ N, K.length = N := ⟨_, rfl⟩
  rw [hN] at hsp hrl hst hfw ⊢
  have hN2 : N ≤ 16385 := by omega
  have hN3 : 1 ≤ N := by omega
  obtain ⟨R, hR⟩ : ∃ R, lines N K = R := ⟨_, rfl⟩
  rw [hR]
  obtain ⟨b, hb⟩ : ∃ b, w.heap.size = b := ⟨_, rfl⟩
  rw [hb] at hsp hst hfw
  have HN := Lib.hid hN
  have HR := Lib.hid hR
  have HST := Lib.hid hst
  have HB0 := Lib.hid hB0
  have HLE := Lib.hid hle
  clear hb hw1 hK hrl hcl hok hne hN hR hst hB0 hle hz hs
  go_enter Tryd.func6, Tryd.ntmps6
  go_wp2
  go_step3
  go_wp2_with fail
  refine hsp.mono ?_
  rintro e w1 ⟨rfl, rfl⟩
  clear hsp
  go_wp2_with fail
  refine hfw.mono ?_
  rintro e w2 ⟨rfl, rfl⟩
  clear hfw
  go_wp2
  go_step3
  go_wp2
  go_loopw [7, 8, 9, 10, 11] (fun told nx _ _ _ W' => ∃ (j : Nat) (L : List Ln), nx = .int .i64 j ∧ j ≤ N ∧ Hid (L.length ≤ j) ∧ Hid ((lines N (K.drop j)).map (L ++ ·) = R) ∧ Hid (Told w1 W' told L)) (fun _ nx _ _ _ _ => N - (intOf nx).toNat)
  case atStart =>
    refine ⟨0, [], rfl, Nat.zero_le _, Lib.hid (Nat.le_refl _), Lib.hid ?_, Lib.hid ⟨World.ownsRow_nil _ _ _ _, Below.refl _ _⟩⟩
    rw [List.drop_zero, HR.out]
    cases R <;> simp
  case round =>
    obtain ⟨j, L, rfl, hj, HL, HW, HT⟩ := hrel
    obtain ⟨wo, rfl⟩ : ∃ wo, wo = wr := ⟨_, rfl⟩
    by_cases hlt : j < N
    · obtain ⟨r, hr⟩ : ∃ r, K[j]? = some r := ⟨_, List.getElem?_eq_getElem (by rw [HN.out]; exact hlt)⟩
      have hstr := HST.out.below HT.out.2
      obtain ⟨ra, rc, erow, hrc, hrow⟩ := hstr
      have hneK : K ≠ [] := by rintro rfl; cases hr
      obtain ⟨g, off, ega, hgl, hcell⟩ := hrow.resolve_left hneK
      have c0 := hcell j r hr
      have HR1 := Lib.hid hr
      have hdr : K.drop j = r :: K.drop (j + 1) := by
        obtain ⟨h1, h2⟩ := List.getElem?_eq_some_iff.1 hr
        rw [List.drop_eq_getElem_cons h1, h2]
      have HDR := Lib.hid hdr
      have hrl := HLE.out r (List.mem_of_getElem? hr)
      have hct := counts_c r wo
      obtain ⟨e1, en1, en2⟩ := Value.slice.inj erow
      clear en1 en2
      subst e1
      cases ega
      rw [Nat.zero_add] at c0
      clear erow hrc
      clear hcell hneK hr hdr hrow
      cases hcb : cntB r with
      | false =>
        rw [hcb] at hct
        have HN2 := Lib.hid (show (lines N (K.drop (j + 1))).map (L ++ ·) = R by rw [← HW.out, HDR.out, lines_skip N _ hcb])
        clear hcb
        go_wp2_with fail
        refine hct.mono ?_
        rintro e w3 ⟨rfl, rfl⟩
        go_wp2
        go_roundw
        case rel => exact ⟨j + 1, L, by go_num, by omega, Lib.hid (by have := HL.out; omega), HN2, HT⟩
        case measure => simp [intOf]; omega
      | true =>
        rw [hcb] at hct
        have hnum : N - (K.drop (j + 1)).length = j + 1 := by rw [List.length_drop, HN.out]; omega
        have hon := on_begin (N := N) (L := L) (rest := K.drop (j + 1)) (R := R) hcb (by rw [← HDR.out]; exact HW.out)
        rw [hnum] at hon
        have hr0 : 0 < r.length := by
          cases r with
          | nil => simp [cntB] at hcb
          | cons _ _ => simp
        have hzr := mk_size r
        have hjs : 0 < (mk r).size := by omega
        have hji : (0 : Int) < ((mk r).size : Int) := by omega
        obtain ⟨q, hq⟩ : ∃ q, (r.head? == some (32 : UInt8)) = q := ⟨_, rfl⟩
        rw [hq] at hon
        have e32 : ((((mk r)[0]'hjs).toNat : Int) == 32) = q := by
          have h1 := get_mk r hjs
          rw [← hq]
          have h2 : r.head? = some ((mk r)[0]'hjs) := by rw [← h1, List.head?_eq_getElem?]
          rw [h2]
          refine Bool.eq_iff_iff.2 ?_
          simp only [beq_iff_eq, Option.some.injEq]
          constructor
          · intro h; exact UInt8.toNat_inj.1 (by rw [show ((mk r)[0]'hjs).toNat = 32 by omega]; rfl)
          · intro h; rw [h]; rfl
        have HON := Lib.hid hon
        have HRL := Lib.hid hrl
        have hwj : IntKind.i64.wrap ((j : Int) + 1) = (j : Int) + 1 := IntWalk.i64_in _ (by omega)
        clear hcb hnum hon hr0 hq hzr hrl
        go_wp2_with fail
        refine hct.mono ?_
        rintro e w3 ⟨rfl, rfl⟩
        clear hct
        go_wp2_with fail
        have HBA := Lib.hid (below_alloc wo (.cells #[.bool q, .string ⟨#[]⟩, .int .i64 ((j : Int) + 1)] 35))
        have HBK := Lib.hid (heap_alloc_new wo (.cells #[.bool q, .string ⟨#[]⟩, .int .i64 ((j : Int) + 1)] 35))
        obtain ⟨wb, hwb⟩ : ∃ wb, wo.alloc (.cells #[.bool q, .string ⟨#[]⟩, .int .i64 ((j : Int) + 1)] 35) = wb := ⟨_, rfl⟩
        have HWB := Lib.hid hwb
        rw [hwb] at HBA HBK
        try rw [hwb]
        clear hwb c0
        go_loopw [7, 8, 11] (fun told nx wh W' => ∃ (i : Nat) (x : Bs), nx = .int .i64 i ∧ wh = .string (mk x) ∧ told = u7 ∧ j + 1 ≤ i ∧ i ≤ N ∧ Hid (x.length ≤ 16384 * i) ∧ Hid (goesOn N L q (j + 1) (eat x (K.drop i)) = R) ∧ Hid (Below wo.heap.size wo W') ∧ Hid (W'.heap[wo.heap.size]? = some (.cells #[.bool q, .string ⟨#[]⟩, .int .i64 ((j : Int) + 1)] 35 (0, 0)))) (fun _ nx _ _ => N - (intOf nx).toNat)
        case atStart => exact ⟨j + 1, r, by go_num, rfl, rfl, Nat.le_refl _, by omega, Lib.hid (by have := HRL.out; omega), HON, HBA, HBK⟩
        case round =>
          obtain ⟨i, x, rfl, rfl, rfl, hji1, hiN, HXL, HG, HBA, HBK⟩ := hrel
          have hxl := HXL.out
          have hes := escapes_c x (by omega) wr
          cases hex : escT x with
          | false =>
            rw [hex] at hes
            have hg2 := HG.out
            rw [on_stop hex] at hg2
            have HG2 := Lib.hid hg2
            have htr := trimmed_c x (by omega) wr
            clear hex hg2
            go_wp2_with fail
            refine hes.mono ?_
            rintro e w4 ⟨rfl, rfl⟩
            clear hes
            go_wp2_with fail
            refine htr.mono ?_
            rintro e w4 ⟨rfl, hb4⟩
            obtain ⟨t, htt⟩ : ∃ t, trimT x = t := ⟨_, rfl⟩
            have HTT := Lib.hid htt
            rw [htt]
            have hblk : w4.heap[wo.heap.size]? = some (.cells #[.bool q, .string ⟨#[]⟩, .int .i64 ((j : Int) + 1)] 35 (0, 0)) := (hb4.block _ (lt_some HBK.out)).trans HBK.out
            have c1 : w4.cell? ⟨wo.heap.size, 1, none⟩ = some (.string ⟨#[]⟩) := by simp [World.cell?, hblk]
            have f1 : w4.frozen? ⟨wo.heap.size, 1, none⟩ = false := by simp [World.frozen?, hblk]
            have hset := heap_set1 hblk 1 (.string (mk t))
            obtain ⟨w5, hw5⟩ : ∃ w5, w4.setCell ⟨wo.heap.size, 1, none⟩ (.string (mk t)) = w5 := ⟨_, rfl⟩
            rw [hw5] at hset
            have B5 : Below wo.heap.size wo w5 := by rw [← hw5]; exact (HBA.out.trans (hb4.mono HBA.out.size)).setCell (Nat.le_refl _) _
            have d0 : w5.cell? ⟨wo.heap.size, 0, none⟩ = some (.bool q) := by simp [World.cell?, hset]
            have d1 : w5.cell? ⟨wo.heap.size, 1, none⟩ = some (.string (mk t)) := by simp [World.cell?, hset]
            have d2 : w5.cell? ⟨wo.heap.size, 2, none⟩ = some (.int .i64 ((j : Int) + 1)) := by simp [World.cell?, hset]
            have HB5 := Lib.hid B5
            clear hblk hset hb4 B5 htt
            have HW5 := Lib.hid hw5
            have hLm : L.length ≤ 1000000 := by have := HL.out; omega
            have hsz : w1.heap.size ≤ w5.heap.size := Nat.le_trans HT.out.2.size HB5.out.size
            have hsz2 : w1.heap.size ≤ (w5.alloc (.cells #[.bool q, .string (mk t), .int .i64 ((j : Int) + 1)] 35)).heap.size := by rw [World.size_alloc]; omega
            have hown := owns_below HT.out.1 (HB5.out.alloc HB5.out.size (.cells #[.bool q, .string (mk t), .int .i64 ((j : Int) + 1)] 35))
            have hnews : ∀ k u, (lnV ⟨q, t, j + 1⟩)[k]? = some u → (w5.alloc (.cells #[.bool q, .string (mk t), .int .i64 ((j : Int) + 1)] 35)).cell? ((⟨w5.heap.size, 0, none⟩ : Addr).add k) = some u := fun k u hk =>
              World.news_of_block (w := w5.alloc (.cells #[.bool q, .string (mk t), .int .i64 ((j : Int) + 1)] 35)) (cs := #[.bool q, .string (mk t), .int .i64 ((j : Int) + 1)]) (t := 35) (fr := (0, 0)) (heap_alloc_new w5 _) k u hk
            have HOWN := Lib.hid hown
            have HNEWS := Lib.hid hnews
            have HW2 := Lib.hid (show (lines N (K.drop i)).map ((L ++ [⟨q, t, j + 1⟩]) ++ ·) = R by rw [← HTT.out]; exact HG2.out)
            have HBB := Lib.hid ((HT.out.2.trans (HB5.out.mono HT.out.2.size)).alloc hsz (.cells #[.bool q, .string (mk t), .int .i64 ((j : Int) + 1)] 35))
            clear hown hnews
            go_wp2_with (at_builtin; refine wpList_append_line rfl (.tmp 49) (.tmp 51) rfl w1.heap.size u7 L rfl HOWN.out ⟨w5.heap.size, 0, none⟩ 1 ⟨q, t, j + 1⟩ rfl HNEWS.out hLm hsz2 ?_; intro v6 w6 hown6 hb6)
            have HT2 := Lib.hid (show Told w1 w6 v6 (L ++ [⟨q, t, j + 1⟩]) from ⟨hown6, HBB.out.trans hb6⟩)
            clear hown6 hb6
            go_roundw
            case rel => exact ⟨i, L ++ [⟨q, t, j + 1⟩], rfl, hiN, Lib.hid (by have := HL.out; rw [List.length_append, List.length_singleton]; omega), HW2, HT2⟩
            case measure => simp [intOf]; omega
          | true =>
            rw [hex] at hes
            by_cases hiN2 : i < N
            · obtain ⟨r2, hr2⟩ : ∃ x, K[i]? = some x := ⟨_, List.getElem?_eq_getElem (by rw [HN.out]; exact hiN2)⟩
              have hdr2 : K.drop i = r2 :: K.drop (i + 1) := by
                obtain ⟨h1, h2⟩ := List.getElem?_eq_some_iff.1 hr2
                rw [List.drop_eq_getElem_cons h1, h2]
              have hg2 := HG.out
              rw [hdr2, on_more hex] at hg2
              have hr2l := HLE.out r2 (List.mem_of_getElem? hr2)
              have hdl := dropW_le r2
              have hx0 : 0 < x.length := by
                cases x with
                | nil => simp [escT, Lib.trimRightB] at hex
                | cons _ _ => simp
              have HST2 := Lib.hid (HST.out.below (HT.out.2.trans (HBA.out.mono HT.out.2.size)))
              obtain ⟨ra2, rc2, erow2, hrc2, hrow2⟩ := HST2.out
              have hneK2 : K ≠ [] := by rintro rfl; cases hr2
              obtain ⟨g2, off2, ega2, hgl2, hcell2⟩ := hrow2.resolve_left hneK2
              obtain ⟨e21, en21, en22⟩ := Value.slice.inj erow2
              clear en21 en22 erow2 hrc2
              subst e21
              cases ega2
              have c02 := hcell2 i r2 hr2
              rw [Nat.zero_add] at c02
              obtain ⟨d, hd⟩ : ∃ d, r2.dropWhile (· == (32 : UInt8)) = d := ⟨_, rfl⟩
              rw [hd] at hdl
              have htl : ∀ W, Calls Tryd.prog 15 #[.string (mk r2), .string blank1] W fun e w' => e = .returned (.string (mk d)) ∧ w' = W := fun W => by
                have h := trimL_c r2 W
                rw [hd] at h
                exact h.mono fun e w' h => ⟨h.1, h.2.symm⟩
              have hzx := mk_size x
              obtain ⟨m, hm⟩ : ∃ m, x.length - 1 = m := ⟨_, rfl⟩
              have hx1 : ((mk x).size : Int) - 1 = (m : Int) := by omega
              have hx2 : (m : Int) ≤ ((mk x).size : Int) := by omega
              have hx3 : m ≤ (mk x).size := by omega
              have hiNi : (i : Int) < (N : Int) := by omega
              have hx4 : ¬ ((mk x).size : Int) < (m : Int) := by omega
              have hx5 : ¬ (mk x).size < m := by omega
              have hx6 : (0 : Int) ≤ (m : Int) := by omega
              have hx7 : ¬ (m : Int) < 0 := by omega
              have hx8 : IntKind.i64.wrap (m : Int) = (m : Int) := IntWalk.i64_in _ (by omega)
              have hsl : (mk x).extract 0 m = mk (x.take m) := by rw [mk_extract, List.drop_zero, Nat.sub_zero]
              rw [hm, hd] at hg2
              have HG2 := Lib.hid hg2
              have hcat : mk (x.take m) ++ mk d = mk (x.take m ++ d) := mk_append _ _
              have HXL2 := Lib.hid (show (x.take m ++ d).length ≤ 16384 * (i + 1) by rw [List.length_append, List.length_take]; omega)
              have hcl2 : ¬ 9223372036854775807 < (mk (x.take m)).size + (mk d).size := by rw [mk_size, mk_size, List.length_take]; omega
              have HD := Lib.hid hd
              have HM := Lib.hid hm
              clear hcell2 hrow2 hneK2 hr2 hdr2 hg2 hex hd hm hzx hx0 hxl
              go_wp2_with fail
              refine hes.mono ?_
              rintro e w4 ⟨rfl, rfl⟩
              clear hes
              go_wp2_with fail
              go_quiet ((go_at_call 15; exact Calls.quiet_of_same (htl _)))
              go_wp2
              go_roundw
              case rel => exact ⟨i + 1, _, by go_num, rfl, rfl, by omega, by omega, HXL2, HG2, Lib.hid (below_drewN HBA.out nq), Lib.hid HBK.out⟩
              case measure => simp [intOf]; omega
            · obtain rfl : i = N := by omega
              have hg2 := HG.out
              rw [List.drop_eq_nil_of_le (by rw [HN.out]; exact Nat.le_refl _), on_end hex] at hg2
              change none = R at hg2
              subst hg2
              clear hex
              go_wp2_with fail
              refine hes.mono ?_
              rintro e w4 ⟨rfl, rfl⟩
              clear hes
              go_wp2_with fail
              simp only [Exit.noGoto]
              go_ret3
              exact ⟨rfl, (HB0.out.trans (HT.out.2.mono HB0.out.size)).trans (HBA.out.mono (Nat.le_trans HB0.out.size HT.out.2.size))⟩
    · obtain rfl : j = N := by omega
      have hg2 := HW.out
      rw [List.drop_eq_nil_of_le (by rw [HN.out]; exact Nat.le_refl _), lines_nil] at hg2
      change some (L ++ []) = R at hg2
      rw [List.append_nil] at hg2
      subst hg2
      go_wp2
      simp only [Exit.noGoto]
      go_ret3
      exact ⟨u7, rfl, owns_base HT.out.1 HB0.out.size, HB0.out.trans (HT.out.2.mono HB0.out.size)⟩
end Go.Proofs.YtbohnjiachnadaaDoor.Lx
