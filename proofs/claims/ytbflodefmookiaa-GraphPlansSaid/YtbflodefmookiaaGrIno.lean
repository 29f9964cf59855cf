/-
  inOrder: a plan of the numbers that are told.
-/
import Derived.Test.YtbflodefmookiaaGrInM
import Derived.WalkMore
namespace Go.Proofs.Ytbflodefmookiaa.Gr
open Go.RowKit Go.Maps Go.Proofs.Ytbflodefmookiaa Go.Proofs.Ytbflodefmookiaa.Pr

theorem Io.start (w : World) : Io w (((w.alloc (.map #[] 0)).alloc (.map #[] 0)).alloc (.cells #[.slice none 0 0] 93)) w.heap.size (w.heap.size + 1) (w.heap.size + 2) (fun _ => (.slice none 0 0, [])) (fun _ => 0) 0 := by
  have hA := below_alloc w (.map #[] 0)
  have hB := below_alloc (w.alloc (.map #[] 0)) (.map #[] 0)
  have hC := below_alloc ((w.alloc (.map #[] 0)).alloc (.map #[] 0)) (.cells #[.slice none 0 0] 93)
  have s1 : (w.alloc (.map #[] 0)).heap.size = w.heap.size + 1 := Array.size_push _
  have s2 : ((w.alloc (.map #[] 0)).alloc (.map #[] 0)).heap.size = w.heap.size + 2 := (Array.size_push _).trans (by rw [s1])
  refine ⟨⟨fun _ => none, 0, Nat.le_refl _, ((MvI.made w).kept (hB.block _ (by omega))).kept (hC.block _ (by omega)), fun _ => rfl⟩, ⟨fun _ => none, 0, Nat.le_refl _, ?_, fun _ => rfl⟩, ⟨fun _ => ⟨⟨none, 0, rfl⟩, World.ownsRow_nil _ _ _ _⟩, fun _ _ _ _ h => by cases h⟩, ?_, hA.trans ((hB.mono hA.size).trans (hC.mono (Nat.le_trans hA.size hB.size))), Nat.le_refl _, by omega, by omega, by omega⟩
  · have := (MvI.made (w.alloc (.map #[] 0))).kept (hC.block _ (by omega))
    rw [s1] at this
    exact this
  · have := heap_alloc_new ((w.alloc (.map #[] 0)).alloc (.map #[] 0)) (.cells #[.slice none 0 0] 93)
    rw [s2] at this
    exact this

set_option maxRecDepth 100000 in
set_option maxHeartbeats 16000000 in
theorem inOrder_c {w : World} {gp : Nat} {ve vd vM : Value} {m n : Nat} {L : List Ed} {D : List Bs} {mkr : Bs → Option Nat} {M : List Nat} (hG : Gph w gp ve vd m n L D mkr) (hM : M.Pairwise (· < ·)) (hMl : ∀ k ∈ M, k < L.length) (hR : IntR w vM M) :
    Calls Try.prog 37 #[.pointer (some ⟨gp, 0, none⟩), vM] w fun e w' => ∃ v, e = .returned v ∧ RowI w' w.heap.size v (order (depsL mkr L) M) ∧ Below w.heap.size w w' := by
  have hIo := Io.start w
  obtain ⟨w3, hw3⟩ : ∃ w3, ((w.alloc (.map #[] 0)).alloc (.map #[] 0)).alloc (.cells #[.slice none 0 0] 93) = w3 := ⟨_, rfl⟩
  rw [hw3] at hIo
  obtain ⟨aM, cM, rfl, hRc⟩ := id hR
  have HG := Lib.hid hG
  have HR := Lib.hid hR
  have HIo := Lib.hid hIo
  have HW3 := Lib.hid hw3
  have HM := Lib.hid hM
  have HMl := Lib.hid hMl
  obtain ⟨mu, hmu⟩ : ∃ mu, w.heap.size = mu := ⟨_, rfl⟩
  obtain ⟨mw, hmw⟩ : ∃ mw, mu + 1 = mw := ⟨_, rfl⟩
  obtain ⟨p, hp⟩ : ∃ p, mw + 1 = p := ⟨_, rfl⟩
  have hp2 : mu + 2 = p := by omega
  rw [hmu, hmw, hp2] at HIo
  have HPRE : Hid (w.heap.size = mu ∧ mu + 1 = mw ∧ mw + 1 = p) := Lib.hid ⟨hmu, hmw, hp⟩
  have HSM : Hid (∀ e ∈ L, (needsL e).length ≤ 30 ∧ ∀ x ∈ needsL e, x.length ≤ 200) := Lib.hid fun e he => by
    have h := hG.small e he
    refine ⟨by have := h.i; have := h.m; have := h.r; simp [needsL]; omega, fun x hx => ?_⟩
    simp only [needsL, List.mem_append] at hx
    rcases hx with (hx | hx) | hx
    · exact h.xi x hx
    · exact h.xm x hx
    · exact h.xr x hx
  have HDL : Hid (∀ k, (depsL mkr L k).length ≤ 30) := Lib.hid fun k => by
    unfold depsL
    cases hk : L[k]? with
    | none => simp
    | some e => exact Nat.le_trans (List.length_filterMap_le ..) (HSM.out e (List.mem_of_getElem? hk)).1
  have HND : Hid M.Nodup := Lib.hid (hM.imp fun h => Nat.ne_of_lt h)
  have HML : Hid (M.length ≤ 1000) := Lib.hid (Nat.le_trans (by
    have := sub_len (A := M) (B := List.range L.length) HND.out fun x hx => List.mem_range.2 (hMl x hx)
    simpa using this) hG.few)
  have HFW := Lib.hid hG.few
  have hmk := @run_makeMap Try.prog
  clear hG hM hMl hR hIo hw3 hRc hp2
  go_enter Try.func37, Try.ntmps37
  go_wp2_with fail
  go_step3
  go_wp2_with fail
  clear hmk
  rw [HW3.out]
  go_step3
  clear HW3
  go_wp2_with fail
  clear hmu hmw hp
  go_loopw [9, 11, 12, 13, 22] (fun _ _ _ _ i W => ∃ (t cnt : Nat) (F : Nat → Value × List Nat) (wf : Nat → Nat), t ≤ M.length ∧ i = .int .i64 t ∧ Hid (Io w W mu mw p F wf cnt) ∧ Hid (L1 (depsL mkr L) M t (fun k => (F k).2) wf) ∧ Hid (F 1 = (.slice none 0 0, [])) ∧ cnt ≤ 60 * t) (fun _ _ _ _ i _ => M.length - (intOf i).toNat)
  case atStart => exact ⟨0, 0, _, _, Nat.zero_le _, rfl, HIo, Lib.hid L1.start, Lib.hid rfl, by omega⟩
  case round =>
    clear HIo w3
    obtain ⟨t, cnt, F, wf, ht, rfl, HIo, HL1, HN1, hcnt⟩ := hrel
    by_cases hlt : t < M.length
    · have hx := List.getElem?_eq_getElem hlt
      have hkL := HMl.out _ (List.getElem_mem hlt)
      generalize M[t] = k at *
      have hxe := List.getElem?_eq_getElem hkL
      have hsm := HSM.out _ (List.getElem_mem hkL)
      have hsE := HG.out.small _ (List.getElem_mem hkL)
      have hdeps : depsL mkr L k = (needsL L[k]).filterMap mkr := by unfold depsL; rw [hxe]
      generalize L[k] = x at *
      have hGr := HG.out.below HIo.out.bel
      obtain ⟨ge, off, ce, v0, v1, v2, v3, rfl, hge, hE, r0, r1, r2, r3, r4, r5⟩ := hGr.ed.at hxe
      have c0 : wr.cell? ⟨gp, 0, none⟩ = some (.slice (some ⟨ge, off, none⟩) L.length ce) := by simp [World.cell?, hGr.box]
      have hn := needs_c hE (by have := hsE.i; omega) (by have := hsE.m; omega) (by have := hsE.r; omega)
      obtain ⟨y0, z0, y1, z1, y2, z2, y3, z3, rfl, rfl, rfl, rfl⟩ := hE.sl
      have hRr := HR.out.below HIo.out.bel
      obtain ⟨_, _, eR, hRr⟩ := hRr
      cases eR
      rcases hRr with h | ⟨gM, oM, rfl, hgM, hcM⟩
      · rw [h] at hlt; simp at hlt
      have m0 := hcM t _ hx
      have hi0 : (0 : Int) ≤ (t : Int) := by omega
      have hi1 : (t : Int) < (M.length : Int) := by omega
      have hk0 : (0 : Int) ≤ (k : Int) := by omega
      have hk1 : (k : Int) < (L.length : Int) := by omega
      have HDP := Lib.hid hdeps
      have HSX := Lib.hid hsm
      have HX := Lib.hid hx
      have HKL := Lib.hid hkL
      have hKn : x.ins ++ x.imp ++ x.ord = needsL x := rfl
      rw [hKn] at hn
      obtain ⟨K, hK⟩ : ∃ K, needsL x = K := ⟨_, rfl⟩
      rw [hK] at hn HDP HSX
      clear hx hdeps hxe hsm hsE hGr hE hcM hkL hKn hK
      go_wp2_with fail
      refine hn.mono ?_
      rintro e w1 ⟨vN, rfl, hS, hb⟩
      have HIo1 := Lib.hid (HIo.out.below hb)
      have HS := Lib.hid hS
      obtain ⟨⟨aN, cN, rfl, -, -⟩, -⟩ := id hS
      clear hn hb hS c0 r0 r1 r2 r3 r4 r5 m0 HIo
      go_wp2_with fail
      have HLm : Hid (L1m mkr K (depsL mkr L) M t k 0 (fun i => (F i).2) wf) := Lib.hid (HL1.out.enter HND.out HX.out)
      clear HL1
      go_loopw [11, 12, 13, 35] (fun _ _ _ i W => ∃ (j c2 : Nat) (F2 : Nat → Value × List Nat) (wf2 : Nat → Nat), j ≤ K.length ∧ i = .int .i64 j ∧ Hid (Io w W mu mw p F2 wf2 c2) ∧ Hid (L1m mkr K (depsL mkr L) M t k j (fun i => (F2 i).2) wf2) ∧ Hid (KeepT w1 W) ∧ Hid (F2 1 = (.slice none 0 0, [])) ∧ c2 ≤ 60 * t + 2 * j) (fun _ _ _ i _ => K.length - (intOf i).toNat)
      case atStart => exact ⟨0, cnt, F, wf, Nat.zero_le _, rfl, HIo1, HLm, Lib.hid (KeepT.refl _), HN1, by omega⟩
      case round =>
        clear HIo1 HLm
        clear HN1
        obtain ⟨j, c2, F2, wf2, hj, rfl, HIo, HLm, HKT, HN1, hc2⟩ := hrel
        by_cases hlj : j < K.length
        · have hx := List.getElem?_eq_getElem hlj
          have hsl := HSX.out.2 _ (List.getElem_mem hlj)
          have hKl := HSX.out.1
          generalize K[j] = s at *
          have hGr := HG.out.below HIo.out.bel
          have cm : wr.cell? ⟨gp, 2, none⟩ = some (.map (some m)) := by simp [World.cell?, hGr.box]
          have hlk := hGr.mks.look (s := s) (by unfold maxLen; omega)
          have hSr := (HS.out.keepT fun g C fr hc => HKT.out g C fr hc).1
          obtain ⟨_, _, eS, _, hSr⟩ := hSr
          cases eS
          rcases hSr with h | ⟨gS, oS, rfl, hgS, hcS⟩
          · rw [h] at hlj; simp at hlj
          have s0 := hcS j s hx
          have hj0 : (0 : Int) ≤ (j : Int) := by omega
          have hj1 : (j : Int) < (K.length : Int) := by omega
          cases hmk : mkr s with
          | none =>
            rw [hmk] at hlk
            have HLm2 := Lib.hid (HLm.out.skip hx hmk)
            have hlk : (Instr.lookup 68 (.map (some m)) (.string (mk s)) true).run Try.prog wr = .ok (.tuple #[.int .i64 0, .bool false]) wr := hlk
            clear hx hGr hcS hmk HLm
            go_wp2_with fail
            go_roundw
            case rel => exact ⟨j + 1, c2, F2, wf2, by omega, by go_num, HIo, HLm2, HKT, HN1, by omega⟩
            case measure => simp [intOf] <;> omega
          | some d =>
            rw [hmk] at hlk
            have hlk : (Instr.lookup 68 (.map (some m)) (.string (mk s)) true).run Try.prog wr = .ok (.tuple #[.int .i64 (d : Int), .bool true]) wr := hlk
            have hd : d < L.length := HG.out.to s d hmk
            have hdl : d ≤ 1000000 := by have := HFW.out; omega
            have hkl : k ≤ 1000000 := by have := HFW.out; have := HKL.out; omega
            have hlen := HLm.out.lens HML.out (fun k _ => HDL.out k) hKl d
            have hlu := HIo.out.user hdl
            have hA := below_alloc wr (.cells #[.int .i64 (k : Int)] 3)
            have hml := HML.out
            obtain ⟨a', c', W2, W3, hr2, hr3, hIo3, hkt3⟩ := (HIo.out.below hA).addUser (x := k) (by unfold maxLen; omega) hdl hlen (heap_alloc_new wr (.cells #[.int .i64 (k : Int)] 3))
            have hlw := hIo3.wait hkl
            obtain ⟨W4, hr4, hIo4, -, hkt4⟩ := hIo3.setWait (by unfold maxLen; omega) hkl (wf2 k + 1)
            have HLm2 := HLm.out.step hx hmk
            have hkA : KeepT wr (wr.alloc (.cells #[.int .i64 (k : Int)] 3)) := fun g C b hc => hA.block g (lt_some hc)
            have HKT4 := Lib.hid (HKT.out.trans (hkA.trans (hkt3.trans hkt4)))
            rw [← updF_snd F2 (d + 2) (.slice a' ((F2 (d + 2)).2 ++ [k]).length c')] at HLm2
            have HLm2 := Lib.hid HLm2
            have HIo4 := Lib.hid hIo4
            have HR2 := Lib.hid hr2
            obtain ⟨F3, hF3⟩ : ∃ F3, updF F2 (d + 2) (.slice a' ((F2 (d + 2)).2 ++ [k]).length c') ((F2 (d + 2)).2 ++ [k]) = F3 := ⟨_, rfl⟩
            rw [hF3] at HLm2 HIo4
            have HN3 : Hid (F3 1 = (.slice none 0 0, [])) := Lib.hid (by rw [← hF3, updF_ne _ _ _ (by omega), HN1.out])
            have hwl : wf2 k ≤ 30 := by
              rw [HLm.out.ws k, if_pos rfl]
              exact Nat.le_trans (List.length_filterMap_le ..) (by rw [List.length_take]; omega)
            have hw0 : (0 : Int) ≤ (wf2 k : Int) := by omega
            have hw1 : (wf2 k : Int) ≤ 30 := by omega
            have hr4 : (Instr.mapUpdate 90 (.map (some mw)) (.int .i64 (k : Int)) (.int .i64 ((wf2 k : Int) + 1))).run Try.prog W3 = .ok () W4 := hr4
            obtain ⟨nx, hnx⟩ : ∃ nx, ((F2 (d + 2)).2 ++ [k]).length = nx := ⟨_, rfl⟩
            rw [hnx] at HR2 hr3
            clear hx hGr hcS hmk HLm hr2 hIo3 hIo4 hkt3 hkt4 hkA hA hF3 hlen HKT hnx
            go_wp2_with (at_builtin; refine wpList_run rfl (.tmp 53) (.tmp 55) rfl rfl rfl HR2.out ?_)
            go_roundw
            case rel => exact ⟨j + 1, c2 + 1 + 1, F3, _, by omega, by go_num, HIo4, HLm2, HKT4, HN3, by omega⟩
            case measure => simp [intOf] <;> omega
        · obtain rfl : j = K.length := by omega
          have hdp := HDP.out
          have hkl : k ≤ 1000000 := by have := HFW.out; have := HKL.out; omega
          have hlw := HIo.out.wait hkl
          have hKl := HSX.out.1
          have hml := HML.out
          have HX2 := HX.out
          by_cases h0 : wf2 k = 0
          · rw [h0] at hlw
            replace hlw : (Instr.lookup 90 (.map (some mw)) (.int .i64 (k : Int)) false).run Try.prog wr = .ok (.int .i64 0) wr := hlw
            have hrl : (F2 0).2.length ≤ 1000000 := by
              rw [HLm.out.rd]
              exact Nat.le_trans (List.length_filter_le ..) (by rw [List.length_take]; omega)
            have hA := below_alloc wr (.cells #[.int .i64 (k : Int)] 3)
            have cp : wr.cell? ⟨p, 0, none⟩ = some (F2 0).1 := (one_cell HIo.out.box).1
            obtain ⟨a', c', W2, hr2, cp2, fp2, hIo3⟩ := (HIo.out.below hA).addReady (x := k) Try.underlying91 hrl (heap_alloc_new wr (.cells #[.int .i64 (k : Int)] 3))
            have HL2 := HLm.out.ready hdp HX2 h0
            rw [← updF_snd F2 0 (.slice a' ((F2 0).2 ++ [k]).length c')] at HL2
            have HL2 := Lib.hid HL2
            have HIo3 := Lib.hid hIo3
            have HR2 := Lib.hid hr2
            obtain ⟨F3, hF3⟩ : ∃ F3, updF F2 0 (.slice a' ((F2 0).2 ++ [k]).length c') ((F2 0).2 ++ [k]) = F3 := ⟨_, rfl⟩
            rw [hF3] at HL2 HIo3
            have HN3 : Hid (F3 1 = (.slice none 0 0, [])) := Lib.hid (by rw [← hF3, updF_ne _ _ _ (by omega), HN1.out])
            obtain ⟨nx, hnx⟩ : ∃ nx, ((F2 0).2 ++ [k]).length = nx := ⟨_, rfl⟩
            rw [hnx] at HR2 HIo3
            clear hdp HX2 h0 hA HLm hr2 hIo3 hF3 hnx hrl
            go_wp2_with (at_builtin; refine wpList_run rfl (.tmp 67) (.tmp 69) rfl rfl rfl HR2.out ?_)
            go_roundw
            case rel => exact ⟨t + 1, c2, F3, _, by omega, by go_num, HIo3, HL2, HN3, by omega⟩
            case measure => simp [intOf] <;> omega
          · have HL2 := Lib.hid (HLm.out.waits hdp HX2 h0)
            have hw0 : (0 : Int) < (wf2 k : Int) := by omega
            clear hdp HX2 h0 HLm
            go_wp2_with fail
            go_roundw
            case rel => exact ⟨t + 1, c2, F2, _, by omega, by go_num, HIo, HL2, HN1, by omega⟩
            case measure => simp [intOf] <;> omega
    · obtain rfl : t = M.length := by omega
      go_wp2_with fail
      have hty : ∀ d, (F (d + 2)).2 = usersOf (depsL mkr L) M d := fun d => by have := HL1.out.us d; rw [List.take_length] at this; exact this
      have hrd := HL1.out.rd
      rw [List.take_length] at hrd
      have HPl : Hid (Pl (depsL mkr L) M [] (F 0).2 wf) := Lib.hid (Pl.start (fun u hu => by rw [HL1.out.ws u, List.take_length, if_pos hu]) (List.Perm.of_eq hrd))
      have HHp : Hid (Hp (F 0).2 (F 0).2.length) := Lib.hid (hp_rising (by rw [hrd]; exact List.Pairwise.sublist (List.filter_sublist ..) HM.out))
      have HU := Lib.hid hty
      have hF1 : Hid ((F 1).1 = .slice none ([] : List Nat).length 0 ∧ (F 1).2 = []) := Lib.hid ⟨by rw [HN1.out]; rfl, by rw [HN1.out]⟩
      have hc9 : cnt ≤ 60000 + 31000 * ([] : List Nat).length := by have := HML.out; simp; omega
      clear hty hrd HL1 hcnt HR HN1 ht hlt
      go_loopw [14, 15, 17] (fun v _ _ W => ∃ (P : List Nat) (cnt : Nat) (F : Nat → Value × List Nat) (wf : Nat → Nat) (aP : Option Addr) (cP : Nat), v = .slice aP P.length cP ∧ Hid (Io w W mu mw p F wf cnt) ∧ Hid ((F 1).1 = .slice aP P.length cP ∧ (F 1).2 = P) ∧ Hid (Hp (F 0).2 (F 0).2.length) ∧ Hid (Pl (depsL mkr L) M P (F 0).2 wf) ∧ Hid (∀ d, (F (d + 2)).2 = usersOf (depsL mkr L) M d) ∧ cnt ≤ 60000 + 31000 * P.length) (fun v _ _ _ => M.length - (match v with | .slice _ n _ => n | _ => 0))
      case atStart => exact ⟨[], cnt, F, wf, none, 0, rfl, HIo, hF1, HHp, HPl, HU, hc9⟩
      case round =>
        clear HIo hF1 HHp HPl HU hc9
        obtain ⟨P, cnt, F, wf, aP, cP, rfl, HIo, HF1, HHp, HPl, HU, hcnt⟩ := hrel
        have hHs := HIo.out.heap
        obtain ⟨⟨a0, c0, e0⟩, -⟩ := HIo.out.fam.row 0
        have cp : wr.cell? ⟨p, 0, none⟩ = some (.slice a0 (F 0).2.length c0) := by rw [← e0]; exact (one_cell HIo.out.box).1
        have hln := len_c (w := wr) (a := a0) (n := (F 0).2.length) (c := c0)
        have hml := HML.out
        have hHl := HPl.out.len
        by_cases h0 : (F 0).2.length = 0
        · have hfin : order (depsL mkr L) M = P := by
            have h1 := HPl.out
            rw [List.eq_nil_of_length_eq_zero h0] at h1
            exact h1.fin
          have HFin : Hid (RowI wr w.heap.size (.slice aP P.length cP) (order (depsL mkr L) M) ∧ Below w.heap.size w wr) := Lib.hid ⟨by
            rw [hfin]
            have h1 := HIo.out.fam.row 1
            rw [HF1.out.1, HF1.out.2] at h1
            exact h1, HIo.out.bel⟩
          rw [h0] at hln cp
          clear hfin hHs e0 hHl h0
          go_wp2_with fail
          refine hln.mono ?_
          rintro e w1 ⟨rfl, rfl⟩
          go_wp2_with fail
          try rw [Exit.noGoto_ret]
          go_ret
          exact ⟨_, rfl, HFin.out⟩
        · have hpo := hpop_c hHs HHp.out (by omega) (by omega)
          obtain ⟨x, hx⟩ : ∃ x, (F 0).2.getD 0 0 = x := ⟨_, rfl⟩
          have hleast := hp_least HHp.out
          rw [hx] at hpo hleast
          have hta := fun W => assertInt W x
          obtain ⟨nH, hnH⟩ : ∃ nH, (F 0).2.length = nH := ⟨_, rfl⟩
          have HNH : Hid (nH ≤ M.length) := Lib.hid (by omega)
          rw [hnH] at hln cp
          have hn0 : (0 : Int) < (nH : Int) := by omega
          have HLeast := Lib.hid hleast
          clear hHs e0 hHl h0 hx hleast hnH HHp
          go_wp2_with fail
          refine hln.mono ?_
          rintro e w1 ⟨rfl, rfl⟩
          clear hln
          go_wp2_with fail
          refine hpo.mono ?_
          rintro e w1 ⟨rfl, H', hs', hp', hperm, hchg⟩
          obtain ⟨v0, hIo1⟩ := HIo.out.chg hs' hchg
          have hPm := HPl.out.pop HM.out hperm HLeast.out
          have hlt := hPm.lt
          have hxM : x ≤ 1000000 := by have := HMl.out x hPm.nM; have := HFW.out; omega
          have a1 : (updF F 0 v0 H' 1).1 = .slice aP P.length cP ∧ (updF F 0 v0 H' 1).2 = P := by rw [updF_ne _ _ _ (by omega)]; exact HF1.out
          have a2 : ∀ d, (updF F 0 v0 H' (d + 2)).2 = usersOf (depsL mkr L) M d := fun d => by rw [updF_ne _ _ _ (by omega)]; exact HU.out d
          have a3 : (updF F 0 v0 H' 0).2 = H' := by rw [updF_same]
          generalize updF F 0 v0 H' = F1 at *
          have hpl := HPl.out.plen
          have hA := below_alloc w1 (.cells #[.int .i64 (x : Int)] 3)
          obtain ⟨a', c', W2, hr2, hIo2⟩ := (hIo1.below hA).addPlan (x := x) (by rw [a1.2]; omega) (heap_alloc_new w1 (.cells #[.int .i64 (x : Int)] 3))
          rw [a1.1, a1.2] at hr2
          rw [a1.2] at hIo2
          have b1 : Hid ((updF F1 1 (.slice a' (P ++ [x]).length c') (P ++ [x]) 1).1 = .slice a' (P ++ [x]).length c' ∧ (updF F1 1 (.slice a' (P ++ [x]).length c') (P ++ [x]) 1).2 = P ++ [x]) := Lib.hid (by rw [updF_same]; exact ⟨rfl, rfl⟩)
          have b2 : ∀ d, (updF F1 1 (.slice a' (P ++ [x]).length c') (P ++ [x]) (d + 2)).2 = usersOf (depsL mkr L) M d := fun d => by rw [updF_ne _ _ _ (by omega)]; exact a2 d
          have b3 : (updF F1 1 (.slice a' (P ++ [x]).length c') (P ++ [x]) 0).2 = H' := by rw [updF_ne _ _ _ (by omega)]; exact a3
          generalize updF F1 1 (.slice a' (P ++ [x]).length c') (P ++ [x]) = F2 at *
          have hlu := hIo2.user hxM
          obtain ⟨⟨aU, cU, eU⟩, -⟩ := hIo2.fam.row (x + 2)
          rw [eU, b2 x] at hlu
          rw [← b3] at hPm hp'
          have eU2 : Hid ((F2 (x + 2)).1 = .slice aU (usersOf (depsL mkr L) M x).length cU) := Lib.hid (by rw [eU, b2 x])
          have hul : (usersOf (depsL mkr L) M x).length ≤ 30000 := by
            have := usersOf_len (deps := depsL mkr L) (M := M) (B := 30) (d := x) (fun n _ => HDL.out n)
            omega
          have HB2 := Lib.hid b2
          have HIo2 := Lib.hid hIo2
          have HHp2 := Lib.hid hp'
          have HPm := Lib.hid hPm
          have HR2 := Lib.hid hr2
          have HPL : Hid ((P ++ [x]).length = P.length + 1) := Lib.hid (by simp)
          obtain ⟨P2, hP2⟩ : ∃ P2, P ++ [x] = P2 := ⟨_, rfl⟩
          have HPeq := Lib.hid hP2
          rw [hP2] at HR2 b1 HPL
          obtain ⟨U, hU⟩ : ∃ U, usersOf (depsL mkr L) M x = U := ⟨_, rfl⟩
          have HUeq := Lib.hid hU
          rw [hU] at hlu eU2 hul
          clear hpo hs' hp' hperm hchg hPm hIo1 a1 a2 a3 hA hr2 hIo2 b2 b3 eU hP2 hU HLeast HF1 HU HPl HIo cp
          go_wp2_with (at_builtin; refine wpList_run rfl (.tmp 80) (.tmp 82) rfl rfl rfl HR2.out ?_)
          clear HR2 hlu
          go_loopw [17, 88] (fun _ i W => ∃ (j c3 : Nat) (F3 : Nat → Value × List Nat) (wf3 : Nat → Nat), j ≤ U.length ∧ i = .int .i64 j ∧ Hid (Io w W mu mw p F3 wf3 c3) ∧ Hid (F3 1 = F2 1 ∧ ∀ d, F3 (d + 2) = F2 (d + 2)) ∧ Hid (Hp (F3 0).2 (F3 0).2.length) ∧ Hid (Pm (depsL mkr L) M P x j (F3 0).2 wf3) ∧ c3 ≤ cnt + j) (fun _ i _ => U.length - (intOf i).toNat)
          case atStart => exact ⟨0, cnt, F2, wf, Nat.zero_le _, rfl, HIo2, Lib.hid ⟨rfl, fun _ => rfl⟩, HHp2, HPm, by omega⟩
          case round =>
            clear HIo2 HHp2 HPm
            obtain ⟨j, c3, F3, wf3, hj, rfl, HIo, HF3, HHp, HPm, hc3⟩ := hrel
            by_cases hlj : j < U.length
            · have hx := List.getElem?_eq_getElem hlj
              generalize U[j] = u at *
              have hf := HPm.out.facts HND.out (by rw [HUeq.out]; exact hx)
              obtain ⟨q, hq⟩ : ∃ q, wf3 u = q + 1 := ⟨wf3 u - 1, by omega⟩
              have hul2 : u ≤ 1000000 := by have := HMl.out u hf.1; have := HFW.out; omega
              have hlw := HIo.out.wait hul2
              rw [hq] at hlw
              have hrow := (HIo.out.fam.row (x + 2)).read
              rw [HF3.out.2 x, eU2.out, HB2.out x, HUeq.out] at hrow
              obtain ⟨_, _, eR, hrow⟩ := hrow
              cases eR
              rcases hrow with h | ⟨gU, oU, rfl, hgU, hcU⟩
              · rw [h] at hlj; simp at hlj
              have s0 := hcU j u hx
              have hcb : c3 < maxLen := by unfold maxLen; omega
              obtain ⟨W4, hr4, hIo4, -, -⟩ := HIo.out.setWait hcb hul2 q
              have hlw4 := hIo4.wait hul2
              simp only [if_true] at hlw4
              have hj0 : (0 : Int) ≤ (j : Int) := by omega
              have hj1 : (j : Int) < (U.length : Int) := by omega
              have hq0 : (q : Int) + 1 - 1 = (q : Int) := by omega
              have hlwI : (Instr.lookup 90 (.map (some mw)) (.int .i64 (u : Int)) false).run Try.prog wr = .ok (.int .i64 ((q : Int) + 1)) wr := hlw
              have hHl := HPm.out.len
              have hwl : q ≤ 30 := by
                have h1 := HPm.out.ws u hf.1
                have h2 : left (depsL mkr L) P u ≤ (depsL mkr L u).length := List.length_filter_le ..
                have := HDL.out u
                omega
              have hq1 : (0 : Int) ≤ (q : Int) := by omega
              have hq2 : (q : Int) ≤ 30 := by omega
              clear hlw hcU hf hgU
              by_cases h0 : q = 0
              · subst h0
                replace hlwI : (Instr.lookup 90 (.map (some mw)) (.int .i64 (u : Int)) false).run Try.prog wr = .ok (.int .i64 1) wr := hlwI
                replace hlw4 : (Instr.lookup 90 (.map (some mw)) (.int .i64 (u : Int)) false).run Try.prog W4 = .ok (.int .i64 0) W4 := hlw4
                replace hr4 : (Instr.mapUpdate 90 (.map (some mw)) (.int .i64 (u : Int)) (.int .i64 0)).run Try.prog wr = .ok () W4 := hr4
                have hpu := hpush_c (x := u) hIo4.heap HHp.out hIo4.bel.size (by omega)
                have HIo4 := Lib.hid hIo4
                have HX := Lib.hid hx
                have HQ : Hid (wf3 u = 1) := Lib.hid hq
                clear hIo4 hx hq hq0 hq1 hq2 hwl HIo HHp
                go_wp2_with fail
                refine hpu.mono ?_
                rintro e w5 ⟨⟨z, rfl⟩, b', H2, hs', hp', hperm, hchg⟩
                obtain ⟨v2, hIo5⟩ := HIo4.out.chg hs' hchg
                have hPm2 := HPm.out.zero HND.out (by rw [HUeq.out]; exact HX.out) HQ.out hperm
                have a1 : updF F3 0 v2 H2 1 = F2 1 ∧ ∀ d, updF F3 0 v2 H2 (d + 2) = F2 (d + 2) := ⟨by rw [updF_ne _ _ _ (by omega)]; exact HF3.out.1, fun d => by rw [updF_ne _ _ _ (by omega)]; exact HF3.out.2 d⟩
                have a2 : (updF F3 0 v2 H2 0).2 = H2 := by rw [updF_same]
                generalize updF F3 0 v2 H2 = F4 at *
                rw [← a2] at hp' hPm2
                have HIo5 := Lib.hid hIo5
                have HPm2 := Lib.hid hPm2
                have HHp5 := Lib.hid hp'
                have HF4 := Lib.hid a1
                clear hpu hs' hp' hperm hchg hIo5 hPm2 a1 a2 HPm HIo4
                go_wp2_with fail
                go_roundw
                case rel => exact ⟨j + 1, c3 + 1, F4, _, by omega, by go_num, HIo5, HF4, HHp5, HPm2, by omega⟩
                case measure => simp [intOf] <;> omega
              · have hPm2 := HPm.out.more HND.out (by rw [HUeq.out]; exact hx) (by omega)
                rw [hq] at hPm2
                have HPm2 : Hid (Pm (depsL mkr L) M P x (j + 1) (F3 0).2 (fun k => if k = u then q else wf3 k)) := Lib.hid hPm2
                have HIo4 := Lib.hid hIo4
                have hqn : ¬ (q : Int) = 0 := by omega
                clear hPm2 hIo4 HPm HIo hx hq
                go_wp2_with fail
                go_roundw
                case rel => exact ⟨j + 1, c3 + 1, F3, _, by omega, by go_num, HIo4, HF3, HHp, HPm2, by omega⟩
                case measure => simp [intOf] <;> omega
            · obtain rfl : j = U.length := by omega
              have hPl := HPm.out.all HND.out (by rw [HUeq.out]; exact Nat.le_refl _)
              rw [HPeq.out] at hPl
              have HPl := Lib.hid hPl
              have HU3 : Hid (∀ d, (F3 (d + 2)).2 = usersOf (depsL mkr L) M d) := Lib.hid fun d => by rw [HF3.out.2 d]; exact HB2.out d
              rw [← HF3.out.1] at b1
              have hPLe := HPL.out
              have hcc : c3 ≤ 60000 + 31000 * P2.length := by omega
              clear hPl HPm
              go_wp2_with fail
              go_roundw
              case rel => exact ⟨P2, c3, F3, wf3, a', c', rfl, HIo, b1, HHp, HPl, HU3, hcc⟩
              case measure => simp <;> omega
end Go.Proofs.Ytbflodefmookiaa.Gr
