/-
  THE LAW RunsParts, WALKED.
-/
import Derived.Test.YtdijpoemimebmaaPartsX
import Derived.Test.YtdijpoemimebmaaRnAwake
namespace Go.Proofs.Ytdijpoemimebmaa.Rn
open Go.RowKit
open Go.Proofs.Ytdijpoemimebmaa.Cr

theorem step_appR0 {ops : Array Oper} {o : Oper} {a : Act} {w : World} {K : Act → World → Prop} {Q : Exit → Act → World → Prop} {E : Prop} (hgd : o.guard = Option.none) (s x : Operand)
    (ho : o.op = .call { callee := .builtin .append, args := #[s, x], argTypes := #[47, 47] })
    (base : Nat) (v : Value) (n : Nat) (xs : List Value) (hs : a.eval s = v) (hown : w.ownsRow base 33 6 v n xs) (hx : a.eval x = .slice Option.none 0 0)
    (h : K (a.put o.dst v) w) : if Region.wanted o (yielded ops a.tmps) = true then Oper.wp Try.prog o a w K Q else E := by
  obtain ⟨i0, hi, hz0, hz1, hz2⟩ := info_parts infoR
  rw [if_pos (by simp [Region.wanted, hgd])]
  obtain ⟨va, vc, rfl⟩ := own_slice hown
  have hr := run_append_owned_none (P := Try.prog) (w := w) base 47 o.type 33 i0 6 Try.underlying47 hi _ _ _ hown
  unfold Oper.wp execOp
  simp only [ho, resolve, invoke, builtin, Sem.run_bind, Sem.run_pure, Result.andThen_ok, List.map_toArray, List.map_cons, List.map_nil, hs, hx, hr]
  exact h

theorem less_of {x y : Run} (h : ¬ nmOf y ≤ nmOf x) : (!Op.bytesLess x.out.toList y.out.toList) = false := by
  rw [bytesLess_eq, ByteArray.toList_eq, ByteArray.toList_eq]
  have : x.out.data.toList < y.out.data.toList := List.not_le.1 h
  simp [this]

theorem map_at {α β : Type} {f : α → β} {A B : List α} {i : Nat} {x y : α} (h : A.map f = B.map f) (hx : A[i]? = some x) (hy : B[i]? = some y) : f x = f y := by
  have h1 : (A.map f)[i]? = some (f x) := by rw [List.getElem?_map, hx]; rfl
  rw [h, List.getElem?_map, hy] at h1
  exact (Option.some.inj h1).symm

set_option maxRecDepth 100000 in
set_option maxHeartbeats 8000000 in
theorem parts_main {w : World} {v : Value} {L : List Run} {at' : Nat} (h : RunRow w v L) (hat : at' < 256) (hall : allB L = true) :
    Calls Try.prog 7 #[v, .int .u8 (at' : Int)] w fun e w' => e = .returned (.bool true) ∧ Below w.heap.size w w' := by
  obtain ⟨hl60, hlight⟩ := all_of hall
  have cA := all_c h (by omega)
  rw [hall] at cA
  have HLT := Lib.hid hlight
  have X0 : Hid (XB w w (.slice Option.none 0 0) []) := Lib.hid ⟨World.ownsRow_nil _ _ _ _, by simp, Below.refl _ _⟩
  obtain ⟨a, c, rfl, hnil, hle, hrow⟩ := h.at
  have HROW := Lib.hid hrow
  clear h hall hlight hrow hnil
  go_enter Try.func7, Try.ntmps7
  go_wp2_with fail
  refine cA.mono ?_
  rintro e w2 ⟨rfl, hb1⟩
  have X2 := Lib.hid (X0.out.next hb1)
  clear cA hb1 X0
  have hnz : ¬ ((L.length : Int) + 1 = 0) := by omega
  go_wp2_with fail
  obtain ⟨k, hkk, hkl⟩ : ∃ k : Nat, (at' : Int) % ((L.length : Int) + 1) = (k : Int) ∧ k ≤ L.length := ⟨at' % (L.length + 1), by simp, by have := Nat.mod_lt at' (show 0 < L.length + 1 by omega); omega⟩
  rw [hkk]
  clear hkk hnz
  obtain ⟨i0, hti, hz0, hz1, hz2⟩ := info_parts infoR
  go_loopw [6, 7] (fun v5 i wr => ∃ j : Nat, j ≤ L.length ∧ i = .int .i64 j ∧ ∃ (a1 : Option Addr) (c1 : Nat) (G : List Gr), v5 = .slice a1 G.length c1 ∧ Hid (XB w wr (.slice a1 G.length c1) G) ∧ Hid (G.map (·.1) = L.take j) ∧ Hid (G.length = j)) (fun _ i _ => L.length - (intOf i).toNat)
  case atStart => exact ⟨0, Nat.zero_le _, rfl, Option.none, 0, [], rfl, X2, Lib.hid rfl, Lib.hid rfl⟩
  case round =>
    obtain ⟨j, hj, rfl, a1, c1, G, rfl, hX, hG, hGl⟩ := hrel
    clear X2
    by_cases hlt : j < L.length
    · have hx := List.getElem?_eq_getElem hlt
      have hlx := HLT.out _ (List.getElem_mem hlt)
      rcases HROW.out with h | ⟨b, off, rfl, hb, hcell⟩
      · rw [h] at hlt; simp at hlt
      obtain ⟨ai, ni, ci, af, nf, cf, hAt0⟩ := hcell j _ hx
      have hAt := hAt0.below hb hX.out.bel
      have htk : L.take (j + 1) = L.take j ++ [L[j]] := by
        rw [List.take_add_one, hx]
        generalize L[j] = y
        rfl
      generalize L[j] = x at *
      obtain ⟨-, -, x3, x4, -⟩ := light_parts hlx
      have hof := Oq.of_own (r := x) hAt.ins hAt.fds (by omega) (by omega)
      obtain ⟨k0, k1, k2, k3, k4, k5, -, -⟩ := hAt
      have hi0 : (0 : Int) ≤ (j : Int) := by omega
      have hi1 : (j : Int) < (L.length : Int) := by omega
      have HTK := Lib.hid htk
      unfold runC at hof
      clear htk hAt0 hcell hx hlx
      go_wp2_with fail
      refine hof.mono ?_
      rintro e V5 ⟨ui, uf, rfl, ho1, ho2, hb5⟩
      obtain ⟨xa, xc, rfl⟩ := own_slice ho1
      obtain ⟨ya, yc, rfl⟩ := own_slice ho2
      have G5 := Lib.hid (hX.out.next hb5)
      have hge : GE w.heap.size V5 (x, .slice xa x.ins.length xc, .slice ya x.found.length yc) := ⟨owns_base ho1 hX.out.bel.size, owns_base ho2 hX.out.bel.size⟩
      have HGE := Lib.hid hge
      have hglen : G.length ≤ 60 := by have := hGl.out; omega
      have hml : G.length + 1 ≤ maxLen := by unfold maxLen; omega
      have hby : (G.length + 1) * 96 ≤ 140737488355328 := by omega
      have hoa : Hid (∀ ob, (V5.alloc ob).ownsRow w.heap.size 33 6 (.slice a1 G.length c1) G.length (runV G)) := Lib.hid fun ob => owns_below G5.out.own (Pk.below_alloc _ _)
      have hbs : Hid (∀ ob, w.heap.size ≤ (V5.alloc ob).heap.size) := Lib.hid fun ob => Nat.le_trans G5.out.bel.size (Pk.below_alloc V5 ob).size
      have HN := Lib.hid (run_newsD V5 x (.slice xa x.ins.length xc) (.slice ya x.found.length yc) rfl rfl)
      clear hof ho1 ho2 hb5 hge k0 k1 k2 k3 k4 k5 hX
      go_wp2_with (at_builtin; refine wpList_append_own _ rfl (.tmp 27) (.tmp 33) 47 rfl w.heap.size 33 i0 (.agg #[.string ⟨#[]⟩, .string ⟨#[]⟩, .int .i64 0, .int .i64 0, .slice Option.none 0 0, .slice Option.none 0 0]) 6 96 Try.underlying47 hti hz0 hz1 hz2 rfl (by decide) (.slice a1 G.length c1) G.length (runV G) rfl (hoa.out _) ⟨V5.heap.size, 0, Option.none⟩ 1 1 [.string x.out, .string x.cmd, .int .i64 x.time, .int .i64 x.mark, .slice xa x.ins.length xc, .slice ya x.found.length yc] rfl rfl HN.out.1 HN.out.2 hml hby (hbs.out _) ?_; intro vn W9 hown9 hg9 _; obtain ⟨va, vc, rfl⟩ := own_slice hown9; have X9 := Lib.hid (G5.out.snoc HGE.out hg9 hown9); clear hown9 hg9)
      obtain ⟨G2, hG2⟩ : ∃ G2 : List Gr, G2 = G ++ [(x, .slice xa x.ins.length xc, .slice ya x.found.length yc)] := ⟨_, rfl⟩
      have hlen2 : G.length + 1 = G2.length := by rw [hG2, List.length_append]; rfl
      have hmap : G2.map (·.1) = L.take (j + 1) := by rw [HTK.out, hG2, List.map_append, hG.out]; rfl
      have XG : Hid (XB w W9 (.slice va G2.length vc) G2) := Lib.hid (by rw [← hlen2, hG2]; exact X9.out)
      have LEN := Lib.hid hlen2
      have LJ : Hid (G2.length = j + 1) := Lib.hid (by rw [← hlen2, hGl.out])
      have HMAP := Lib.hid hmap
      clear hmap hoa hbs HN hml hby hlen2 hG2
      go_roundw
      case rel => exact ⟨j + 1, by omega, by go_num, va, vc, G2, by rw [LEN.out], XG, HMAP, LJ⟩
      case measure => simp [intOf]; omega
    · obtain rfl : j = L.length := by omega
      rw [List.take_length] at hG
      have hfo := fold_c (L := L) (w := wr) (by have := xb_row hX.out; rw [hG.out] at this; exact this) (by omega) (fun x hx => thin_of (HLT.out x hx))
      go_wp2_with fail
      refine hfo.mono ?_
      rintro e V1 ⟨v1, G1, NS1, rfl, ho1, he1, hb1, n1, n2, n3, n4⟩
      have F1 := Lib.hid (fo_of n1 n2 n3 n4)
      obtain ⟨qa, qc, rfl⟩ := own_slice ho1
      have Y1 := Lib.hid (hX.out.next hb1)
      have Z1 : Hid (XB w V1 (.slice qa G1.length qc) G1) := Lib.hid ⟨owns_base ho1 hX.out.bel.size, fun g hg => ⟨owns_base (he1 g hg).ins hX.out.bel.size, owns_base (he1 g hg).fds hX.out.bel.size⟩, hX.out.bel.trans (hb1.mono hX.out.bel.size)⟩
      clear hfo ho1 he1 hb1 n1 n2 n3 n4 hX
      go_upto_region 10 with fail
      go_cut [9] (fun s9 wx => ∃ va vc J, s9 = .slice va (List.length J) vc ∧ Hid (XB w wx (.slice va J.length vc) J) ∧ Hid (XB w wx (.slice qa G1.length qc) G1) ∧ Hid (∃ P, Fo (L.take k) P ∧ J.map (·.1) = P ++ L.drop k))
      case first =>
        have hgk : k ≤ G.length := by have := hGl.out; omega
        have hrt : RunRow V1.drew (.slice a1 k c1) (L.take k) := by
          have h1 := (xb_row Y1.out).take (k := k) (by rw [List.length_map]; exact hgk)
          rw [hG.out] at h1
          exact h1.below (below_drew (Below.refl _ _))
        have hft := fold_c hrt (by rw [List.length_take]; omega) (fun x hx => thin_of (HLT.out x (List.mem_of_mem_take hx)))
        rcases own_at Y1.out.own with ⟨e1, hg0⟩ | ⟨g, cap, e1, -, hgl, hle1, -⟩
        · obtain ⟨rfl, hgn, rfl⟩ := Value.slice.inj e1
          obtain rfl : k = 0 := by omega
          have hgz : G = [] := List.eq_nil_of_length_eq_zero hgn
          subst hgz
          have HL0 := Lib.hid hGl.out
          clear hrt hgn hg0 hgk hle e1
          simp only [List.length_nil] at *
          go_region_held3 (fun _ => True) (first | trivial | fail)
            (first
              | (go_at_call 21; (with_reducible refine hft.mono ?_); rintro e V2 ⟨v2, P, NS2, rfl, ho2, he2, hb2, n1, n2, n3, n4⟩; have FP := Lib.hid (fo_of n1 n2 n3 n4); obtain ⟨pa, pc, rfl⟩ := own_slice ho2; have hbq := below_of_drew hb2; have Y2 := Lib.hid (Y1.out.next hbq); have Z2 := Lib.hid (Z1.out.next hbq); have P2 : Hid (XB w V2 (.slice pa P.length pc) P) := Lib.hid ⟨owns_base ho2 Y1.out.bel.size, fun g hg => ⟨owns_base (he2 g hg).ins Y1.out.bel.size, owns_base (he2 g hg).fds Y1.out.bel.size⟩, Y1.out.bel.trans (hbq.mono Y1.out.bel.size)⟩; have PB := Lib.hid (fun x hx => (ho2.lt x hx).1); have hpl := fo_le FP.out; rw [List.length_map, List.length_take] at hpl; have HPL : Hid (P.length ≤ 60) := Lib.hid (by (have := hGl.out; omega)); clear ho2 he2 hb2 n1 n2 n3 n4 hbq hpl)
              | (refine step_appR0 rfl (.tmp 40) (.tmp 43) rfl w.heap.size (.slice pa P.length pc) P.length (runV P) (by simp [Act.eval]) P2.out.own (by simp [Act.eval]) ?_))
          all_goals
            go_wp2_with fail
            go_meet
            exact ⟨pa, pc, P, rfl, P2, Z2, Lib.hid ⟨P.map (·.1), FP.out, by rw [List.drop_zero, List.eq_nil_of_length_eq_zero HL0.out.symm, List.append_nil]⟩⟩
        · obtain ⟨rfl, -, rfl⟩ := Value.slice.inj e1
          clear e1
          have i1 : (0 : Int) ≤ (k : Int) := by omega
          have i2 : (k : Int) ≤ (c1 : Int) := by omega
          have i3 : (k : Int) ≤ (G.length : Int) := by omega
          have i4 : (G.length : Int) ≤ (c1 : Int) := by omega
          by_cases hkc : k < c1
          · have i5 : (k : Int) < (c1 : Int) := by omega
            have G60 := Lib.hid (show G.length ≤ 60 by have := hGl.out; omega)
            clear hrt
            go_region_held3 (fun _ => True) (first | trivial | fail)
              (first
                | (go_at_call 21; (with_reducible refine hft.mono ?_); rintro e V2 ⟨v2, P, NS2, rfl, ho2, he2, hb2, n1, n2, n3, n4⟩; have FP := Lib.hid (fo_of n1 n2 n3 n4); obtain ⟨pa, pc, rfl⟩ := own_slice ho2; have hbq := below_of_drew hb2; have Y2 := Lib.hid (Y1.out.next hbq); have Z2 := Lib.hid (Z1.out.next hbq); have P2 : Hid (XB w V2 (.slice pa P.length pc) P) := Lib.hid ⟨owns_base ho2 Y1.out.bel.size, fun g hg => ⟨owns_base (he2 g hg).ins Y1.out.bel.size, owns_base (he2 g hg).fds Y1.out.bel.size⟩, Y1.out.bel.trans (hbq.mono Y1.out.bel.size)⟩; have PB := Lib.hid (fun x hx => (ho2.lt x hx).1); have hpl := fo_le FP.out; rw [List.length_map, List.length_take] at hpl; have HPL : Hid (P.length ≤ 60) := Lib.hid (by (have := hGl.out; omega)); clear ho2 he2 hb2 n1 n2 n3 n4 hbq hpl)
                | (refine step_appR rfl (.tmp 40) (.tmp 43) rfl w.heap.size (.slice pa P.length pc) P.length (runV P) (by simp [Act.eval]) P2.out.own ⟨g, k * 6, Option.none⟩ (G.length - k) (c1 - k) (runV (G.drop k)) (by simp [Act.eval]) (by rw [runV_length, List.length_drop]) (xb_cells Y2.out) (runV_one fun q hq => Y2.out.els q (List.mem_of_mem_drop hq)) (by (have := HPL.out; have := G60.out; omega)) P2.out.bel.size ?_; intro va vc W9 hown9 hg9; have P9 := Lib.hid (xb_join P2.out (fun q hq => Y2.out.els q (List.mem_of_mem_drop hq)) (by rw [List.length_drop]) hg9 hown9); have Z9 := Lib.hid (xb_beside P2.out Z2.out (beside_of Z1.out PB.out) hg9); clear hown9 hg9))
            all_goals
              go_wp2_with fail
              go_meet
              exact ⟨va, vc, P ++ G.drop k, by rw [List.length_append, List.length_drop], Lib.hid (by rw [List.length_append, List.length_drop]; exact P9.out), Z9, Lib.hid ⟨P.map (·.1), FP.out, by rw [List.map_append, List.map_drop, hG.out]⟩⟩
          · obtain rfl : k = c1 := by omega
            have GK := Lib.hid (show G.length = k by omega)
            clear hrt
            go_region_held3 (fun _ => True) (first | trivial | fail)
              (first
                | (go_at_call 21; (with_reducible refine hft.mono ?_); rintro e V2 ⟨v2, P, NS2, rfl, ho2, he2, hb2, n1, n2, n3, n4⟩; have FP := Lib.hid (fo_of n1 n2 n3 n4); obtain ⟨pa, pc, rfl⟩ := own_slice ho2; have hbq := below_of_drew hb2; have Y2 := Lib.hid (Y1.out.next hbq); have Z2 := Lib.hid (Z1.out.next hbq); have P2 : Hid (XB w V2 (.slice pa P.length pc) P) := Lib.hid ⟨owns_base ho2 Y1.out.bel.size, fun g hg => ⟨owns_base (he2 g hg).ins Y1.out.bel.size, owns_base (he2 g hg).fds Y1.out.bel.size⟩, Y1.out.bel.trans (hbq.mono Y1.out.bel.size)⟩; have PB := Lib.hid (fun x hx => (ho2.lt x hx).1); have hpl := fo_le FP.out; rw [List.length_map, List.length_take] at hpl; have HPL : Hid (P.length ≤ 60) := Lib.hid (by (have := hGl.out; omega)); clear ho2 he2 hb2 n1 n2 n3 n4 hbq hpl)
                | (refine step_appR rfl (.tmp 40) (.tmp 43) rfl w.heap.size (.slice pa P.length pc) P.length (runV P) (by simp [Act.eval]) P2.out.own ⟨g, 0, Option.none⟩ 0 0 [] (by simp [Act.eval]) rfl (by simp) (by simp) (by (have := HPL.out; omega)) P2.out.bel.size ?_; intro va vc W9 hown9 hg9; have P9 := Lib.hid (xb_join (M := []) P2.out (by simp) rfl hg9 hown9); have Z9 := Lib.hid (xb_beside P2.out Z2.out (beside_of Z1.out PB.out) hg9); clear hown9 hg9))
            all_goals
              go_wp2_with fail
              go_meet
              exact ⟨va, vc, P, rfl, Lib.hid (by have := P9.out; rw [List.append_nil] at this; exact this), Z9, Lib.hid ⟨P.map (·.1), FP.out, by rw [List.drop_of_length_le (by have := GK.out; have := hGl.out; omega), List.append_nil]⟩⟩
      case rest =>
        obtain ⟨va, vc, J, rfl, hJ, hZ, hP⟩ := hcut
        clear Y1 Z1
        have hJ60 : J.length ≤ 120 := by
          obtain ⟨P, hp, e⟩ := hP.out
          have h1 := fo_le hp
          have h2 := congrArg List.length e
          rw [List.length_map, List.length_append, List.length_drop] at h2
          rw [List.length_take] at h1
          omega
        have hag := fold_c (L := J.map (·.1)) (xb_row hJ.out) (by rw [List.length_map]; omega) (fun x hx => by
          obtain ⟨P, hp, e⟩ := hP.out
          rw [e] at hx
          rcases List.mem_append.1 hx with hx | hx
          · exact thin_of (HLT.out x (List.mem_of_mem_take (fo_sub hp x hx)))
          · exact thin_of (HLT.out x (List.mem_of_mem_drop hx)))
        go_wp2_with fail
        refine hag.mono ?_
        rintro e V5 ⟨v5, A, NS5, rfl, ho5, he5, hb5, n1, n2, n3, n4⟩
        have F5 := fo_of n1 n2 n3 n4
        have hAW : A.map (·.1) = G1.map (·.1) := by
          obtain ⟨P, hp, e⟩ := hP.out
          rw [e] at F5
          exact parts_eq F1.out hp F5
        have hlen : A.length = G1.length := by have := congrArg List.length hAW; rwa [List.length_map, List.length_map] at this
        obtain ⟨xa, xc, rfl⟩ := own_slice ho5
        have A5 : Hid (XB w V5 (.slice xa A.length xc) A) := Lib.hid ⟨owns_base ho5 hJ.out.bel.size, fun g hg => ⟨owns_base (he5 g hg).ins hJ.out.bel.size, owns_base (he5 g hg).fds hJ.out.bel.size⟩, hJ.out.bel.trans (hb5.mono hJ.out.bel.size)⟩
        have Z5 := Lib.hid (hZ.out.next hb5)
        have HAW := Lib.hid hAW
        have HLEN := Lib.hid hlen
        rw [hlen]
        have A6 : Hid (XB w V5 (.slice xa G1.length xc) A) := Lib.hid (by rw [← HLEN.out]; exact A5.out)
        clear hag ho5 he5 hb5 n1 n2 n3 n4 F5 hAW hlen A5 hZ hJ hP
        go_wp2_with fail
        go_loopw [11] (fun i wr => ∃ j : Nat, j ≤ G1.length ∧ i = .int .i64 j ∧ Hid (XB w wr (.slice xa G1.length xc) A) ∧ Hid (XB w wr (.slice qa G1.length qc) G1)) (fun i _ => G1.length - (intOf i).toNat)
        case atStart => exact ⟨0, Nat.zero_le _, rfl, A6, Z5⟩
        case round =>
          obtain ⟨j, hj, rfl, hA, hW⟩ := hrel
          clear A6 Z5
          by_cases hlt : j < G1.length
          · have HLL := Lib.hid hlt
            obtain ⟨q, hq⟩ : ∃ q, A[j]? = some q := ⟨_, List.getElem?_eq_getElem (by rw [HLEN.out]; exact hlt)⟩
            obtain ⟨p, hp⟩ : ∃ p, G1[j]? = some p := ⟨_, List.getElem?_eq_getElem hlt⟩
            have hqp : q.1 = p.1 := map_at HAW.out hq hp
            obtain ⟨_, _, e1, -, -, hc1⟩ := xb_at hA.out
            obtain ⟨_, _, e2, -, -, hc2⟩ := xb_at hW.out
            obtain ⟨rfl, -, rfl⟩ := Value.slice.inj e1
            obtain ⟨rfl, -, rfl⟩ := Value.slice.inj e2
            rcases hc1 with h0 | ⟨ga, rfl, hgla, hca⟩
            · rw [h0] at hq; simp at hq
            rcases hc2 with h0 | ⟨gb, rfl, hglb, hcb⟩
            · rw [h0] at hp; simp at hp
            obtain ⟨ai, ni, ci, af, nf, cf, -, -, hAa⟩ := hca j q hq
            obtain ⟨bi, mi, di, bf, mf, df, -, -, hAb⟩ := hcb j p hp
            obtain ⟨x, qi, qf⟩ := q
            obtain ⟨y, pi, pf⟩ := p
            obtain rfl : x = y := hqp
            have hth := HLT.out x (F1.out |> fo_sub |> fun h => h x (List.mem_map.2 ⟨_, List.mem_of_getElem? hp, rfl⟩))
            have hTh := thin_of hth
            have hsa := psame_c (w := wr.drew) (r := x) (q := x) (by have := hTh.ins; omega) (by have := hTh.fds; omega) (hAa.below hgla (below_drew (Below.refl _ _))).ins (hAa.below hgla (below_drew (Below.refl _ _))).fds (hAb.below hglb (below_drew (Below.refl _ _))).ins (hAb.below hglb (below_drew (Below.refl _ _))).fds
            rw [sameB_yes rfl] at hsa
            obtain ⟨k0, k1, k2, k3, k4, k5, -, -⟩ := (hAa.below hgla (below_drew (Below.refl _ _)))
            obtain ⟨l0, l1, l2, l3, l4, l5, -, -⟩ := (hAb.below hglb (below_drew (Below.refl _ _)))
            have hi0 : (0 : Int) ≤ (j : Int) := by omega
            have hi1 : (j : Int) < (G1.length : Int) := by omega
            have HAA := Lib.hid hAa
            have HAB := Lib.hid hAb
            have HP := Lib.hid hp
            have HCB := Lib.hid hcb
            unfold runC at hsa
            clear hca hcb hAa hAb hq hp hth hTh e1 e2 hj hlt
            by_cases hj0 : j = 0
            · subst hj0
              go_wp2_with fail
              refine wp_region_noPanic ?_
              refine Lt.wp_region_late [] (fun w' => (w'.cell? ⟨ga, 0 * 6, Option.none⟩ = some (.string x.out) ∧ w'.cell? ⟨ga, 0 * 6 + 1, Option.none⟩ = some (.string x.cmd) ∧ w'.cell? ⟨ga, 0 * 6 + 2, Option.none⟩ = some (.int .i64 x.time) ∧ w'.cell? ⟨ga, 0 * 6 + 3, Option.none⟩ = some (.int .i64 x.mark) ∧ w'.cell? ⟨ga, 0 * 6 + 4, Option.none⟩ = some (.slice ai ni ci) ∧ w'.cell? ⟨ga, 0 * 6 + 5, Option.none⟩ = some (.slice af nf cf)) ∧ (w'.cell? ⟨gb, 0 * 6, Option.none⟩ = some (.string x.out) ∧ w'.cell? ⟨gb, 0 * 6 + 1, Option.none⟩ = some (.string x.cmd) ∧ w'.cell? ⟨gb, 0 * 6 + 2, Option.none⟩ = some (.int .i64 x.time) ∧ w'.cell? ⟨gb, 0 * 6 + 3, Option.none⟩ = some (.int .i64 x.mark) ∧ w'.cell? ⟨gb, 0 * 6 + 4, Option.none⟩ = some (.slice bi mi di) ∧ w'.cell? ⟨gb, 0 * 6 + 5, Option.none⟩ = some (.slice bf mf df))) (by kernel_rfl) ?_
              refine Lt.wpAnyL_take (i := 0) (oi := { dst := some 58, op := Op.move (Operand.tmp 10), type := 47, pos := _, after := #[], guard := Option.none }) (v := ?_) [] rfl (by kernel_rfl) (by kernel_rfl) (by kernel_rfl) (by kernel_rfl) (by kernel_rfl) (by kernel_rfl) (fun _ _ _ h => h) (Or.inl ⟨by rfl, ?_⟩) ⟨⟨k0, k1, k2, k3, k4, k5⟩, ⟨l0, l1, l2, l3, l4, l5⟩⟩ ?_
              rotate_left 1
              · intro w hSw
                try dsimp only at hSw
                go_simp
                first | done | with_reducible rfl
              try simp only [Act.put, List.setIfInBounds_toArray, List.set_cons_zero, List.set_cons_succ]
              refine Lt.wpAnyL_take (i := 1) (oi := { dst := some 59, op := Op.move (Operand.tmp 11), type := 3, pos := _, after := #[], guard := Option.none }) (v := ?_) [] rfl (by kernel_rfl) (by kernel_rfl) (by kernel_rfl) (by kernel_rfl) (by kernel_rfl) (by kernel_rfl) (fun _ _ _ h => h) (Or.inl ⟨by rfl, ?_⟩) ⟨⟨k0, k1, k2, k3, k4, k5⟩, ⟨l0, l1, l2, l3, l4, l5⟩⟩ ?_
              rotate_left 1
              · intro w hSw
                try dsimp only at hSw
                go_simp
                first | done | with_reducible rfl
              try simp only [Act.put, List.setIfInBounds_toArray, List.set_cons_zero, List.set_cons_succ]
              refine Lt.wpAnyL_take (i := 2) (oi := { dst := some 60, op := Op.indexAddr 47 (Operand.tmp 58) (Operand.tmp 59), type := 0, pos := _, after := #[{ on := 0, ground := Ground.data }, { on := 1, ground := Ground.data }], guard := Option.none }) (v := ?_) [] rfl (by kernel_rfl) (by kernel_rfl) (by kernel_rfl) (by kernel_rfl) (by kernel_rfl) (by kernel_rfl) (fun _ _ _ h => h) (Or.inl ⟨by rfl, ?_⟩) ⟨⟨k0, k1, k2, k3, k4, k5⟩, ⟨l0, l1, l2, l3, l4, l5⟩⟩ ?_
              rotate_left 1
              · intro w hSw
                try dsimp only at hSw
                go_simp
                first | done | with_reducible rfl
              try simp only [Act.put, List.setIfInBounds_toArray, List.set_cons_zero, List.set_cons_succ]
              refine Lt.wpAnyL_take (i := 3) (oi := { dst := some 61, op := Op.load 33 (Operand.tmp 60), type := 33, pos := _, after := #[{ on := 2, ground := Ground.data }], guard := Option.none }) (v := ?_) [] rfl (by kernel_rfl) (by kernel_rfl) (by kernel_rfl) (by kernel_rfl) (by kernel_rfl) (by kernel_rfl) (fun _ _ _ h => h) (Or.inl ⟨by rfl, ?_⟩) ⟨⟨k0, k1, k2, k3, k4, k5⟩, ⟨l0, l1, l2, l3, l4, l5⟩⟩ ?_
              rotate_left 1
              · intro w hSw
                try dsimp only at hSw
                go_simp
                first | done | with_reducible rfl
              try simp only [Act.put, List.setIfInBounds_toArray, List.set_cons_zero, List.set_cons_succ]
              refine Lt.wpAnyL_take (i := 4) (oi := { dst := some 62, op := Op.move (Operand.tmp 8), type := 47, pos := _, after := #[], guard := Option.none }) (v := ?_) [] rfl (by kernel_rfl) (by kernel_rfl) (by kernel_rfl) (by kernel_rfl) (by kernel_rfl) (by kernel_rfl) (fun _ _ _ h => h) (Or.inl ⟨by rfl, ?_⟩) ⟨⟨k0, k1, k2, k3, k4, k5⟩, ⟨l0, l1, l2, l3, l4, l5⟩⟩ ?_
              rotate_left 1
              · intro w hSw
                try dsimp only at hSw
                go_simp
                first | done | with_reducible rfl
              try simp only [Act.put, List.setIfInBounds_toArray, List.set_cons_zero, List.set_cons_succ]
              refine Lt.wpAnyL_take (i := 5) (oi := { dst := some 63, op := Op.move (Operand.tmp 11), type := 3, pos := _, after := #[], guard := Option.none }) (v := ?_) [] rfl (by kernel_rfl) (by kernel_rfl) (by kernel_rfl) (by kernel_rfl) (by kernel_rfl) (by kernel_rfl) (fun _ _ _ h => h) (Or.inl ⟨by rfl, ?_⟩) ⟨⟨k0, k1, k2, k3, k4, k5⟩, ⟨l0, l1, l2, l3, l4, l5⟩⟩ ?_
              rotate_left 1
              · intro w hSw
                try dsimp only at hSw
                go_simp
                first | done | with_reducible rfl
              try simp only [Act.put, List.setIfInBounds_toArray, List.set_cons_zero, List.set_cons_succ]
              refine Lt.wpAnyL_take (i := 6) (oi := { dst := some 64, op := Op.indexAddr 47 (Operand.tmp 62) (Operand.tmp 63), type := 0, pos := _, after := #[{ on := 4, ground := Ground.data }, { on := 5, ground := Ground.data }], guard := Option.none }) (v := ?_) [] rfl (by kernel_rfl) (by kernel_rfl) (by kernel_rfl) (by kernel_rfl) (by kernel_rfl) (by kernel_rfl) (fun _ _ _ h => h) (Or.inl ⟨by rfl, ?_⟩) ⟨⟨k0, k1, k2, k3, k4, k5⟩, ⟨l0, l1, l2, l3, l4, l5⟩⟩ ?_
              rotate_left 1
              · intro w hSw
                try dsimp only at hSw
                go_simp
                first | done | with_reducible rfl
              try simp only [Act.put, List.setIfInBounds_toArray, List.set_cons_zero, List.set_cons_succ]
              refine Lt.wpAnyL_take (i := 7) (oi := { dst := some 65, op := Op.load 33 (Operand.tmp 64), type := 33, pos := _, after := #[{ on := 6, ground := Ground.data }], guard := Option.none }) (v := ?_) [] rfl (by kernel_rfl) (by kernel_rfl) (by kernel_rfl) (by kernel_rfl) (by kernel_rfl) (by kernel_rfl) (fun _ _ _ h => h) (Or.inl ⟨by rfl, ?_⟩) ⟨⟨k0, k1, k2, k3, k4, k5⟩, ⟨l0, l1, l2, l3, l4, l5⟩⟩ ?_
              rotate_left 1
              · intro w hSw
                try dsimp only at hSw
                go_simp
                first | done | with_reducible rfl
              try simp only [Act.put, List.setIfInBounds_toArray, List.set_cons_zero, List.set_cons_succ]
              refine Lt.wpAnyL_next (i := 8) (by kernel_rfl) rfl (fun K hK => ?_)
              go_simp
              go_at_call 23
              refine hsa.mono ?_
              rintro e w7 ⟨rfl, hb7⟩
              have hb7' := below_of_drew hb7
              have A7 := Lib.hid (hA.out.next hb7')
              have Z7 := Lib.hid (hW.out.next hb7')
              obtain ⟨m0, m1, m2, m3, m4, m5, -, -⟩ := HAA.out.below hgla hb7'
              obtain ⟨n0, n1, n2, n3, n4, n5, -, -⟩ := HAB.out.below hglb hb7'
              clear hb7 hb7'
              refine hK.out _ _ (fun _ => ⟨⟨m0, m1, m2, m3, m4, m5⟩, ⟨n0, n1, n2, n3, n4, n5⟩⟩) ?_
              clear hK K
              try simp only [Act.put, List.setIfInBounds_toArray, List.set_cons_zero, List.set_cons_succ]
              refine Lt.wpAnyL_take (i := 9) (oi := { dst := some 67, op := Op.unOp UnOp.not 4 (Operand.tmp 66), type := 4, pos := _, after := #[{ on := 8, ground := Ground.data }], guard := Option.none }) (v := ?_) [] rfl (by kernel_rfl) (by kernel_rfl) (by kernel_rfl) (by kernel_rfl) (by kernel_rfl) (by kernel_rfl) (fun _ _ _ h => h) (Or.inl ⟨by rfl, ?_⟩) ⟨⟨m0, m1, m2, m3, m4, m5⟩, ⟨n0, n1, n2, n3, n4, n5⟩⟩ ?_
              rotate_left 1
              · intro w hSw
                try dsimp only at hSw
                go_simp
                first | done | with_reducible rfl
              try simp only [Act.put, List.setIfInBounds_toArray, List.set_cons_zero, List.set_cons_succ]
              refine Lt.wpAnyL_take (i := 10) (oi := { dst := some 68, op := Op.move (Operand.tmp 67), type := 4, pos := _, after := #[{ on := 9, ground := Ground.data }, { on := 8, ground := Ground.chain }], guard := Option.none }) (v := ?_) [] rfl (by kernel_rfl) (by kernel_rfl) (by kernel_rfl) (by kernel_rfl) (by kernel_rfl) (by kernel_rfl) (fun _ _ _ h => h) (Or.inl ⟨by rfl, ?_⟩) ⟨⟨m0, m1, m2, m3, m4, m5⟩, ⟨n0, n1, n2, n3, n4, n5⟩⟩ ?_
              rotate_left 1
              · intro w hSw
                try dsimp only at hSw
                go_simp
                first | done | with_reducible rfl
              try simp only [Act.put, List.setIfInBounds_toArray, List.set_cons_zero, List.set_cons_succ]
              refine Lt.wpAnyL_take (i := 11) (oi := { dst := some 69, op := Op.move (Operand.tmp 11), type := 3, pos := _, after := #[{ on := 10, ground := Ground.guard }], guard := some (10, false) }) (v := ?_) [] rfl (by kernel_rfl) (by kernel_rfl) (by kernel_rfl) (by kernel_rfl) (by kernel_rfl) (by kernel_rfl) (fun _ _ _ h => h) (Or.inl ⟨by rfl, ?_⟩) ⟨⟨m0, m1, m2, m3, m4, m5⟩, ⟨n0, n1, n2, n3, n4, n5⟩⟩ ?_
              rotate_left 1
              · intro w hSw
                try dsimp only at hSw
                go_simp
                first | done | with_reducible rfl
              try simp only [Act.put, List.setIfInBounds_toArray, List.set_cons_zero, List.set_cons_succ]
              refine Lt.wpAnyL_take (i := 12) (oi := { dst := some 70, op := Op.binOp BinOp.gtr 3 (Operand.tmp 69) (Operand.const (Value.int IntKind.i64 0)) 3, type := 4, pos := _, after := #[{ on := 11, ground := Ground.data }, { on := 10, ground := Ground.guard }], guard := some (10, false) }) (v := ?_) [] rfl (by kernel_rfl) (by kernel_rfl) (by kernel_rfl) (by kernel_rfl) (by kernel_rfl) (by kernel_rfl) (fun _ _ _ h => h) (Or.inl ⟨by rfl, ?_⟩) ⟨⟨m0, m1, m2, m3, m4, m5⟩, ⟨n0, n1, n2, n3, n4, n5⟩⟩ ?_
              rotate_left 1
              · intro w hSw
                try dsimp only at hSw
                go_simp
                first | done | with_reducible rfl
              try simp only [Act.put, List.setIfInBounds_toArray, List.set_cons_zero, List.set_cons_succ]
              refine Lt.wpAnyL_take (i := 13) (oi := { dst := some 71, op := Op.move (Operand.tmp 70), type := 4, pos := _, after := #[{ on := 12, ground := Ground.data }, { on := 10, ground := Ground.chain }, { on := 10, ground := Ground.guard }], guard := some (10, false) }) (v := ?_) [] rfl (by kernel_rfl) (by kernel_rfl) (by kernel_rfl) (by kernel_rfl) (by kernel_rfl) (by kernel_rfl) (fun _ _ _ h => h) (Or.inl ⟨by rfl, ?_⟩) ⟨⟨m0, m1, m2, m3, m4, m5⟩, ⟨n0, n1, n2, n3, n4, n5⟩⟩ ?_
              rotate_left 1
              · intro w hSw
                try dsimp only at hSw
                go_simp
                first | done | with_reducible rfl
              try simp only [Act.put, List.setIfInBounds_toArray, List.set_cons_zero, List.set_cons_succ]
              refine Lt.wpAnyL_take (i := 14) (oi := { dst := some 72, op := Op.move (Operand.tmp 8), type := 47, pos := _, after := #[{ on := 13, ground := Ground.guard }], guard := some (13, true) }) (v := undef) [] rfl (by kernel_rfl) (by kernel_rfl) (by kernel_rfl) (by kernel_rfl) (by kernel_rfl) (by kernel_rfl) (fun _ _ _ h => h) (Or.inr ⟨by rfl, rfl⟩) ⟨⟨m0, m1, m2, m3, m4, m5⟩, ⟨n0, n1, n2, n3, n4, n5⟩⟩ ?_
              try simp only [Act.put, List.setIfInBounds_toArray, List.set_cons_zero, List.set_cons_succ]
              refine Lt.wpAnyL_take (i := 15) (oi := { dst := some 73, op := Op.move (Operand.tmp 11), type := 3, pos := _, after := #[{ on := 13, ground := Ground.guard }], guard := some (13, true) }) (v := undef) [] rfl (by kernel_rfl) (by kernel_rfl) (by kernel_rfl) (by kernel_rfl) (by kernel_rfl) (by kernel_rfl) (fun _ _ _ h => h) (Or.inr ⟨by rfl, rfl⟩) ⟨⟨m0, m1, m2, m3, m4, m5⟩, ⟨n0, n1, n2, n3, n4, n5⟩⟩ ?_
              try simp only [Act.put, List.setIfInBounds_toArray, List.set_cons_zero, List.set_cons_succ]
              refine Lt.wpAnyL_take (i := 16) (oi := { dst := some 74, op := Op.binOp BinOp.sub 3 (Operand.tmp 73) (Operand.const (Value.int IntKind.i64 1)) 3, type := 3, pos := _, after := #[{ on := 15, ground := Ground.data }, { on := 13, ground := Ground.guard }], guard := some (13, true) }) (v := undef) [] rfl (by kernel_rfl) (by kernel_rfl) (by kernel_rfl) (by kernel_rfl) (by kernel_rfl) (by kernel_rfl) (fun _ _ _ h => h) (Or.inr ⟨by rfl, rfl⟩) ⟨⟨m0, m1, m2, m3, m4, m5⟩, ⟨n0, n1, n2, n3, n4, n5⟩⟩ ?_
              try simp only [Act.put, List.setIfInBounds_toArray, List.set_cons_zero, List.set_cons_succ]
              refine Lt.wpAnyL_take (i := 17) (oi := { dst := some 75, op := Op.indexAddr 47 (Operand.tmp 72) (Operand.tmp 74), type := 0, pos := _, after := #[{ on := 14, ground := Ground.data }, { on := 16, ground := Ground.data }, { on := 13, ground := Ground.guard }], guard := some (13, true) }) (v := undef) [] rfl (by kernel_rfl) (by kernel_rfl) (by kernel_rfl) (by kernel_rfl) (by kernel_rfl) (by kernel_rfl) (fun _ _ _ h => h) (Or.inr ⟨by rfl, rfl⟩) ⟨⟨m0, m1, m2, m3, m4, m5⟩, ⟨n0, n1, n2, n3, n4, n5⟩⟩ ?_
              try simp only [Act.put, List.setIfInBounds_toArray, List.set_cons_zero, List.set_cons_succ]
              refine Lt.wpAnyL_take (i := 18) (oi := { dst := some 76, op := Op.fieldAddr 33 (Operand.tmp 75) 0, type := 0, pos := _, after := #[{ on := 17, ground := Ground.data }, { on := 13, ground := Ground.guard }], guard := some (13, true) }) (v := undef) [] rfl (by kernel_rfl) (by kernel_rfl) (by kernel_rfl) (by kernel_rfl) (by kernel_rfl) (by kernel_rfl) (fun _ _ _ h => h) (Or.inr ⟨by rfl, rfl⟩) ⟨⟨m0, m1, m2, m3, m4, m5⟩, ⟨n0, n1, n2, n3, n4, n5⟩⟩ ?_
              try simp only [Act.put, List.setIfInBounds_toArray, List.set_cons_zero, List.set_cons_succ]
              refine Lt.wpAnyL_take (i := 19) (oi := { dst := some 77, op := Op.load 9 (Operand.tmp 76), type := 9, pos := _, after := #[{ on := 18, ground := Ground.data }, { on := 13, ground := Ground.guard }], guard := some (13, true) }) (v := undef) [] rfl (by kernel_rfl) (by kernel_rfl) (by kernel_rfl) (by kernel_rfl) (by kernel_rfl) (by kernel_rfl) (fun _ _ _ h => h) (Or.inr ⟨by rfl, rfl⟩) ⟨⟨m0, m1, m2, m3, m4, m5⟩, ⟨n0, n1, n2, n3, n4, n5⟩⟩ ?_
              try simp only [Act.put, List.setIfInBounds_toArray, List.set_cons_zero, List.set_cons_succ]
              refine Lt.wpAnyL_take (i := 20) (oi := { dst := some 78, op := Op.move (Operand.tmp 8), type := 47, pos := _, after := #[{ on := 13, ground := Ground.guard }], guard := some (13, true) }) (v := undef) [] rfl (by kernel_rfl) (by kernel_rfl) (by kernel_rfl) (by kernel_rfl) (by kernel_rfl) (by kernel_rfl) (fun _ _ _ h => h) (Or.inr ⟨by rfl, rfl⟩) ⟨⟨m0, m1, m2, m3, m4, m5⟩, ⟨n0, n1, n2, n3, n4, n5⟩⟩ ?_
              try simp only [Act.put, List.setIfInBounds_toArray, List.set_cons_zero, List.set_cons_succ]
              refine Lt.wpAnyL_take (i := 21) (oi := { dst := some 79, op := Op.move (Operand.tmp 11), type := 3, pos := _, after := #[{ on := 13, ground := Ground.guard }], guard := some (13, true) }) (v := undef) [] rfl (by kernel_rfl) (by kernel_rfl) (by kernel_rfl) (by kernel_rfl) (by kernel_rfl) (by kernel_rfl) (fun _ _ _ h => h) (Or.inr ⟨by rfl, rfl⟩) ⟨⟨m0, m1, m2, m3, m4, m5⟩, ⟨n0, n1, n2, n3, n4, n5⟩⟩ ?_
              try simp only [Act.put, List.setIfInBounds_toArray, List.set_cons_zero, List.set_cons_succ]
              refine Lt.wpAnyL_take (i := 22) (oi := { dst := some 80, op := Op.indexAddr 47 (Operand.tmp 78) (Operand.tmp 79), type := 0, pos := _, after := #[{ on := 20, ground := Ground.data }, { on := 21, ground := Ground.data }, { on := 13, ground := Ground.guard }], guard := some (13, true) }) (v := undef) [] rfl (by kernel_rfl) (by kernel_rfl) (by kernel_rfl) (by kernel_rfl) (by kernel_rfl) (by kernel_rfl) (fun _ _ _ h => h) (Or.inr ⟨by rfl, rfl⟩) ⟨⟨m0, m1, m2, m3, m4, m5⟩, ⟨n0, n1, n2, n3, n4, n5⟩⟩ ?_
              try simp only [Act.put, List.setIfInBounds_toArray, List.set_cons_zero, List.set_cons_succ]
              refine Lt.wpAnyL_take (i := 23) (oi := { dst := some 81, op := Op.fieldAddr 33 (Operand.tmp 80) 0, type := 0, pos := _, after := #[{ on := 22, ground := Ground.data }, { on := 13, ground := Ground.guard }], guard := some (13, true) }) (v := undef) [] rfl (by kernel_rfl) (by kernel_rfl) (by kernel_rfl) (by kernel_rfl) (by kernel_rfl) (by kernel_rfl) (fun _ _ _ h => h) (Or.inr ⟨by rfl, rfl⟩) ⟨⟨m0, m1, m2, m3, m4, m5⟩, ⟨n0, n1, n2, n3, n4, n5⟩⟩ ?_
              try simp only [Act.put, List.setIfInBounds_toArray, List.set_cons_zero, List.set_cons_succ]
              refine Lt.wpAnyL_take (i := 24) (oi := { dst := some 82, op := Op.load 9 (Operand.tmp 81), type := 9, pos := _, after := #[{ on := 23, ground := Ground.data }, { on := 13, ground := Ground.guard }], guard := some (13, true) }) (v := undef) [] rfl (by kernel_rfl) (by kernel_rfl) (by kernel_rfl) (by kernel_rfl) (by kernel_rfl) (by kernel_rfl) (fun _ _ _ h => h) (Or.inr ⟨by rfl, rfl⟩) ⟨⟨m0, m1, m2, m3, m4, m5⟩, ⟨n0, n1, n2, n3, n4, n5⟩⟩ ?_
              try simp only [Act.put, List.setIfInBounds_toArray, List.set_cons_zero, List.set_cons_succ]
              refine Lt.wpAnyL_take (i := 25) (oi := { dst := some 83, op := Op.binOp BinOp.geq 9 (Operand.tmp 77) (Operand.tmp 82) 9, type := 4, pos := _, after := #[{ on := 19, ground := Ground.data }, { on := 24, ground := Ground.data }, { on := 13, ground := Ground.guard }], guard := some (13, true) }) (v := undef) [] rfl (by kernel_rfl) (by kernel_rfl) (by kernel_rfl) (by kernel_rfl) (by kernel_rfl) (by kernel_rfl) (fun _ _ _ h => h) (Or.inr ⟨by rfl, rfl⟩) ⟨⟨m0, m1, m2, m3, m4, m5⟩, ⟨n0, n1, n2, n3, n4, n5⟩⟩ ?_
              try simp only [Act.put, List.setIfInBounds_toArray, List.set_cons_zero, List.set_cons_succ]
              refine Lt.wpAnyL_take (i := 26) (oi := { dst := some 84, op := Op.pick (Operand.tmp 71) (Operand.tmp 83) (Operand.const (Value.bool false)), type := 4, pos := _, after := #[{ on := 13, ground := Ground.data }, { on := 25, ground := Ground.data }, { on := 10, ground := Ground.guard }], guard := some (10, false) }) (v := ?_) [] rfl (by kernel_rfl) (by kernel_rfl) (by kernel_rfl) (by kernel_rfl) (by kernel_rfl) (by kernel_rfl) (fun _ _ _ h => h) (Or.inl ⟨by rfl, ?_⟩) ⟨⟨m0, m1, m2, m3, m4, m5⟩, ⟨n0, n1, n2, n3, n4, n5⟩⟩ ?_
              rotate_left 1
              · intro w hSw
                try dsimp only at hSw
                go_simp
                first | done | with_reducible rfl
              try simp only [Act.put, List.setIfInBounds_toArray, List.set_cons_zero, List.set_cons_succ]
              refine Lt.wpAnyL_take (i := 27) (oi := { dst := some 85, op := Op.pick (Operand.tmp 68) (Operand.const (Value.bool true)) (Operand.tmp 84), type := 4, pos := _, after := #[{ on := 10, ground := Ground.data }, { on := 26, ground := Ground.data }], guard := Option.none }) (v := ?_) [] rfl (by kernel_rfl) (by kernel_rfl) (by kernel_rfl) (by kernel_rfl) (by kernel_rfl) (by kernel_rfl) (fun _ _ _ h => h) (Or.inl ⟨by rfl, ?_⟩) ⟨⟨m0, m1, m2, m3, m4, m5⟩, ⟨n0, n1, n2, n3, n4, n5⟩⟩ ?_
              rotate_left 1
              · intro w hSw
                try dsimp only at hSw
                go_simp
                first | done | with_reducible rfl
              try simp only [Act.put, List.setIfInBounds_toArray, List.set_cons_zero, List.set_cons_succ]
              refine Lt.wpAnyL_done (by kernel_rfl) ?_ _
              refine NoPanic.normal ?_
              go_wp2_with fail
              go_roundw
              case rel => exact ⟨0 + 1, by have := HLL.out; omega, by go_num, A7, Z7⟩
              case measure => simp [intOf]; omega
            · obtain ⟨i, rfl⟩ : ∃ i, j = i + 1 := ⟨j - 1, by omega⟩
              clear hj0
              obtain ⟨p', hp'⟩ : ∃ p', G1[i]? = some p' := ⟨_, List.getElem?_eq_getElem (by have := (List.getElem?_eq_some_iff.1 HP.out).1; omega)⟩
              obtain ⟨bi', mi', di', bf', mf', df', -, -, hAc⟩ := HCB.out i p' hp'
              obtain ⟨z, zi, zf⟩ := p'
              have hless : (!Op.bytesLess z.out.toList x.out.toList) = false := less_of (fo_rises F1.out (i := i) (by rw [List.getElem?_map, hp']; rfl) (by rw [List.getElem?_map, HP.out]; rfl))
              have z0 := (hAc.below hglb (below_drew (Below.refl _ _))).c0
              have HAC := Lib.hid hAc
              have hi2 : (0 : Int) ≤ (i : Int) := by omega
              have hi3 : (i : Int) < (G1.length : Int) := by have := hi1; push_cast at this; omega
              have hi4 : (0 : Int) ≤ (i : Int) + 1 := by omega
              have hi5 : (i : Int) + 1 < (G1.length : Int) := by have := hi1; push_cast at this; omega
              have hG60 : G1.length ≤ 60 := by have h1 := fo_le F1.out; rw [List.length_map] at h1; exact Nat.le_trans h1 hl60
              have hwi : IntKind.i64.wrap (i : Int) = (i : Int) := IntWalk.i64_in _ (by omega)
              clear hAc hp'
              go_wp2_with fail
              refine wp_region_noPanic ?_
              refine Lt.wp_region_late [] (fun w' => (w'.cell? ⟨ga, (i + 1) * 6, Option.none⟩ = some (.string x.out) ∧ w'.cell? ⟨ga, (i + 1) * 6 + 1, Option.none⟩ = some (.string x.cmd) ∧ w'.cell? ⟨ga, (i + 1) * 6 + 2, Option.none⟩ = some (.int .i64 x.time) ∧ w'.cell? ⟨ga, (i + 1) * 6 + 3, Option.none⟩ = some (.int .i64 x.mark) ∧ w'.cell? ⟨ga, (i + 1) * 6 + 4, Option.none⟩ = some (.slice ai ni ci) ∧ w'.cell? ⟨ga, (i + 1) * 6 + 5, Option.none⟩ = some (.slice af nf cf)) ∧ (w'.cell? ⟨gb, (i + 1) * 6, Option.none⟩ = some (.string x.out) ∧ w'.cell? ⟨gb, (i + 1) * 6 + 1, Option.none⟩ = some (.string x.cmd) ∧ w'.cell? ⟨gb, (i + 1) * 6 + 2, Option.none⟩ = some (.int .i64 x.time) ∧ w'.cell? ⟨gb, (i + 1) * 6 + 3, Option.none⟩ = some (.int .i64 x.mark) ∧ w'.cell? ⟨gb, (i + 1) * 6 + 4, Option.none⟩ = some (.slice bi mi di) ∧ w'.cell? ⟨gb, (i + 1) * 6 + 5, Option.none⟩ = some (.slice bf mf df)) ∧ w'.cell? ⟨gb, i * 6, Option.none⟩ = some (.string z.out)) (by kernel_rfl) ?_
              refine Lt.wpAnyL_take (i := 0) (oi := { dst := some 58, op := Op.move (Operand.tmp 10), type := 47, pos := _, after := #[], guard := Option.none }) (v := ?_) [] rfl (by kernel_rfl) (by kernel_rfl) (by kernel_rfl) (by kernel_rfl) (by kernel_rfl) (by kernel_rfl) (fun _ _ _ h => h) (Or.inl ⟨by rfl, ?_⟩) ⟨⟨k0, k1, k2, k3, k4, k5⟩, ⟨l0, l1, l2, l3, l4, l5⟩, z0⟩ ?_
              rotate_left 1
              · intro w hSw
                try dsimp only at hSw
                go_simp
                first | done | with_reducible rfl
              try simp only [Act.put, List.setIfInBounds_toArray, List.set_cons_zero, List.set_cons_succ]
              refine Lt.wpAnyL_take (i := 1) (oi := { dst := some 59, op := Op.move (Operand.tmp 11), type := 3, pos := _, after := #[], guard := Option.none }) (v := ?_) [] rfl (by kernel_rfl) (by kernel_rfl) (by kernel_rfl) (by kernel_rfl) (by kernel_rfl) (by kernel_rfl) (fun _ _ _ h => h) (Or.inl ⟨by rfl, ?_⟩) ⟨⟨k0, k1, k2, k3, k4, k5⟩, ⟨l0, l1, l2, l3, l4, l5⟩, z0⟩ ?_
              rotate_left 1
              · intro w hSw
                try dsimp only at hSw
                go_simp
                first | done | with_reducible rfl
              try simp only [Act.put, List.setIfInBounds_toArray, List.set_cons_zero, List.set_cons_succ]
              refine Lt.wpAnyL_take (i := 2) (oi := { dst := some 60, op := Op.indexAddr 47 (Operand.tmp 58) (Operand.tmp 59), type := 0, pos := _, after := #[{ on := 0, ground := Ground.data }, { on := 1, ground := Ground.data }], guard := Option.none }) (v := ?_) [] rfl (by kernel_rfl) (by kernel_rfl) (by kernel_rfl) (by kernel_rfl) (by kernel_rfl) (by kernel_rfl) (fun _ _ _ h => h) (Or.inl ⟨by rfl, ?_⟩) ⟨⟨k0, k1, k2, k3, k4, k5⟩, ⟨l0, l1, l2, l3, l4, l5⟩, z0⟩ ?_
              rotate_left 1
              · intro w hSw
                try dsimp only at hSw
                go_simp
                first | done | with_reducible rfl
              try simp only [Act.put, List.setIfInBounds_toArray, List.set_cons_zero, List.set_cons_succ]
              refine Lt.wpAnyL_take (i := 3) (oi := { dst := some 61, op := Op.load 33 (Operand.tmp 60), type := 33, pos := _, after := #[{ on := 2, ground := Ground.data }], guard := Option.none }) (v := ?_) [] rfl (by kernel_rfl) (by kernel_rfl) (by kernel_rfl) (by kernel_rfl) (by kernel_rfl) (by kernel_rfl) (fun _ _ _ h => h) (Or.inl ⟨by rfl, ?_⟩) ⟨⟨k0, k1, k2, k3, k4, k5⟩, ⟨l0, l1, l2, l3, l4, l5⟩, z0⟩ ?_
              rotate_left 1
              · intro w hSw
                try dsimp only at hSw
                go_simp
                first | done | with_reducible rfl
              try simp only [Act.put, List.setIfInBounds_toArray, List.set_cons_zero, List.set_cons_succ]
              refine Lt.wpAnyL_take (i := 4) (oi := { dst := some 62, op := Op.move (Operand.tmp 8), type := 47, pos := _, after := #[], guard := Option.none }) (v := ?_) [] rfl (by kernel_rfl) (by kernel_rfl) (by kernel_rfl) (by kernel_rfl) (by kernel_rfl) (by kernel_rfl) (fun _ _ _ h => h) (Or.inl ⟨by rfl, ?_⟩) ⟨⟨k0, k1, k2, k3, k4, k5⟩, ⟨l0, l1, l2, l3, l4, l5⟩, z0⟩ ?_
              rotate_left 1
              · intro w hSw
                try dsimp only at hSw
                go_simp
                first | done | with_reducible rfl
              try simp only [Act.put, List.setIfInBounds_toArray, List.set_cons_zero, List.set_cons_succ]
              refine Lt.wpAnyL_take (i := 5) (oi := { dst := some 63, op := Op.move (Operand.tmp 11), type := 3, pos := _, after := #[], guard := Option.none }) (v := ?_) [] rfl (by kernel_rfl) (by kernel_rfl) (by kernel_rfl) (by kernel_rfl) (by kernel_rfl) (by kernel_rfl) (fun _ _ _ h => h) (Or.inl ⟨by rfl, ?_⟩) ⟨⟨k0, k1, k2, k3, k4, k5⟩, ⟨l0, l1, l2, l3, l4, l5⟩, z0⟩ ?_
              rotate_left 1
              · intro w hSw
                try dsimp only at hSw
                go_simp
                first | done | with_reducible rfl
              try simp only [Act.put, List.setIfInBounds_toArray, List.set_cons_zero, List.set_cons_succ]
              refine Lt.wpAnyL_take (i := 6) (oi := { dst := some 64, op := Op.indexAddr 47 (Operand.tmp 62) (Operand.tmp 63), type := 0, pos := _, after := #[{ on := 4, ground := Ground.data }, { on := 5, ground := Ground.data }], guard := Option.none }) (v := ?_) [] rfl (by kernel_rfl) (by kernel_rfl) (by kernel_rfl) (by kernel_rfl) (by kernel_rfl) (by kernel_rfl) (fun _ _ _ h => h) (Or.inl ⟨by rfl, ?_⟩) ⟨⟨k0, k1, k2, k3, k4, k5⟩, ⟨l0, l1, l2, l3, l4, l5⟩, z0⟩ ?_
              rotate_left 1
              · intro w hSw
                try dsimp only at hSw
                go_simp
                first | done | with_reducible rfl
              try simp only [Act.put, List.setIfInBounds_toArray, List.set_cons_zero, List.set_cons_succ]
              refine Lt.wpAnyL_take (i := 7) (oi := { dst := some 65, op := Op.load 33 (Operand.tmp 64), type := 33, pos := _, after := #[{ on := 6, ground := Ground.data }], guard := Option.none }) (v := ?_) [] rfl (by kernel_rfl) (by kernel_rfl) (by kernel_rfl) (by kernel_rfl) (by kernel_rfl) (by kernel_rfl) (fun _ _ _ h => h) (Or.inl ⟨by rfl, ?_⟩) ⟨⟨k0, k1, k2, k3, k4, k5⟩, ⟨l0, l1, l2, l3, l4, l5⟩, z0⟩ ?_
              rotate_left 1
              · intro w hSw
                try dsimp only at hSw
                go_simp
                first | done | with_reducible rfl
              try simp only [Act.put, List.setIfInBounds_toArray, List.set_cons_zero, List.set_cons_succ]
              refine Lt.wpAnyL_next (i := 8) (by kernel_rfl) rfl (fun K hK => ?_)
              go_simp
              go_at_call 23
              refine hsa.mono ?_
              rintro e w7 ⟨rfl, hb7⟩
              have hb7' := below_of_drew hb7
              have A7 := Lib.hid (hA.out.next hb7')
              have Z7 := Lib.hid (hW.out.next hb7')
              obtain ⟨m0, m1, m2, m3, m4, m5, -, -⟩ := HAA.out.below hgla hb7'
              obtain ⟨n0, n1, n2, n3, n4, n5, -, -⟩ := HAB.out.below hglb hb7'
              have z7 := (HAC.out.below hglb hb7').c0
              clear hb7 hb7'
              refine hK.out _ _ (fun _ => ⟨⟨m0, m1, m2, m3, m4, m5⟩, ⟨n0, n1, n2, n3, n4, n5⟩, z7⟩) ?_
              clear hK K
              try simp only [Act.put, List.setIfInBounds_toArray, List.set_cons_zero, List.set_cons_succ]
              refine Lt.wpAnyL_take (i := 9) (oi := { dst := some 67, op := Op.unOp UnOp.not 4 (Operand.tmp 66), type := 4, pos := _, after := #[{ on := 8, ground := Ground.data }], guard := Option.none }) (v := ?_) [] rfl (by kernel_rfl) (by kernel_rfl) (by kernel_rfl) (by kernel_rfl) (by kernel_rfl) (by kernel_rfl) (fun _ _ _ h => h) (Or.inl ⟨by rfl, ?_⟩) ⟨⟨m0, m1, m2, m3, m4, m5⟩, ⟨n0, n1, n2, n3, n4, n5⟩, z7⟩ ?_
              rotate_left 1
              · intro w hSw
                try dsimp only at hSw
                go_simp
                first | done | with_reducible rfl
              try simp only [Act.put, List.setIfInBounds_toArray, List.set_cons_zero, List.set_cons_succ]
              refine Lt.wpAnyL_take (i := 10) (oi := { dst := some 68, op := Op.move (Operand.tmp 67), type := 4, pos := _, after := #[{ on := 9, ground := Ground.data }, { on := 8, ground := Ground.chain }], guard := Option.none }) (v := ?_) [] rfl (by kernel_rfl) (by kernel_rfl) (by kernel_rfl) (by kernel_rfl) (by kernel_rfl) (by kernel_rfl) (fun _ _ _ h => h) (Or.inl ⟨by rfl, ?_⟩) ⟨⟨m0, m1, m2, m3, m4, m5⟩, ⟨n0, n1, n2, n3, n4, n5⟩, z7⟩ ?_
              rotate_left 1
              · intro w hSw
                try dsimp only at hSw
                go_simp
                first | done | with_reducible rfl
              try simp only [Act.put, List.setIfInBounds_toArray, List.set_cons_zero, List.set_cons_succ]
              refine Lt.wpAnyL_take (i := 11) (oi := { dst := some 69, op := Op.move (Operand.tmp 11), type := 3, pos := _, after := #[{ on := 10, ground := Ground.guard }], guard := some (10, false) }) (v := ?_) [] rfl (by kernel_rfl) (by kernel_rfl) (by kernel_rfl) (by kernel_rfl) (by kernel_rfl) (by kernel_rfl) (fun _ _ _ h => h) (Or.inl ⟨by rfl, ?_⟩) ⟨⟨m0, m1, m2, m3, m4, m5⟩, ⟨n0, n1, n2, n3, n4, n5⟩, z7⟩ ?_
              rotate_left 1
              · intro w hSw
                try dsimp only at hSw
                go_simp
                first | done | with_reducible rfl
              try simp only [Act.put, List.setIfInBounds_toArray, List.set_cons_zero, List.set_cons_succ]
              refine Lt.wpAnyL_take (i := 12) (oi := { dst := some 70, op := Op.binOp BinOp.gtr 3 (Operand.tmp 69) (Operand.const (Value.int IntKind.i64 0)) 3, type := 4, pos := _, after := #[{ on := 11, ground := Ground.data }, { on := 10, ground := Ground.guard }], guard := some (10, false) }) (v := ?_) [] rfl (by kernel_rfl) (by kernel_rfl) (by kernel_rfl) (by kernel_rfl) (by kernel_rfl) (by kernel_rfl) (fun _ _ _ h => h) (Or.inl ⟨by rfl, ?_⟩) ⟨⟨m0, m1, m2, m3, m4, m5⟩, ⟨n0, n1, n2, n3, n4, n5⟩, z7⟩ ?_
              rotate_left 1
              · intro w hSw
                try dsimp only at hSw
                go_simp
                first | done | with_reducible rfl
              try simp only [Act.put, List.setIfInBounds_toArray, List.set_cons_zero, List.set_cons_succ]
              refine Lt.wpAnyL_take (i := 13) (oi := { dst := some 71, op := Op.move (Operand.tmp 70), type := 4, pos := _, after := #[{ on := 12, ground := Ground.data }, { on := 10, ground := Ground.chain }, { on := 10, ground := Ground.guard }], guard := some (10, false) }) (v := ?_) [] rfl (by kernel_rfl) (by kernel_rfl) (by kernel_rfl) (by kernel_rfl) (by kernel_rfl) (by kernel_rfl) (fun _ _ _ h => h) (Or.inl ⟨by rfl, ?_⟩) ⟨⟨m0, m1, m2, m3, m4, m5⟩, ⟨n0, n1, n2, n3, n4, n5⟩, z7⟩ ?_
              rotate_left 1
              · intro w hSw
                try dsimp only at hSw
                go_simp
                first | done | with_reducible rfl
              try simp only [Act.put, List.setIfInBounds_toArray, List.set_cons_zero, List.set_cons_succ]
              refine Lt.wpAnyL_take (i := 14) (oi := { dst := some 72, op := Op.move (Operand.tmp 8), type := 47, pos := _, after := #[{ on := 13, ground := Ground.guard }], guard := some (13, true) }) (v := ?_) [] rfl (by kernel_rfl) (by kernel_rfl) (by kernel_rfl) (by kernel_rfl) (by kernel_rfl) (by kernel_rfl) (fun _ _ _ h => h) (Or.inl ⟨by rfl, ?_⟩) ⟨⟨m0, m1, m2, m3, m4, m5⟩, ⟨n0, n1, n2, n3, n4, n5⟩, z7⟩ ?_
              rotate_left 1
              · intro w hSw
                try dsimp only at hSw
                go_simp
                first | done | with_reducible rfl
              try simp only [Act.put, List.setIfInBounds_toArray, List.set_cons_zero, List.set_cons_succ]
              refine Lt.wpAnyL_take (i := 15) (oi := { dst := some 73, op := Op.move (Operand.tmp 11), type := 3, pos := _, after := #[{ on := 13, ground := Ground.guard }], guard := some (13, true) }) (v := ?_) [] rfl (by kernel_rfl) (by kernel_rfl) (by kernel_rfl) (by kernel_rfl) (by kernel_rfl) (by kernel_rfl) (fun _ _ _ h => h) (Or.inl ⟨by rfl, ?_⟩) ⟨⟨m0, m1, m2, m3, m4, m5⟩, ⟨n0, n1, n2, n3, n4, n5⟩, z7⟩ ?_
              rotate_left 1
              · intro w hSw
                try dsimp only at hSw
                go_simp
                first | done | with_reducible rfl
              try simp only [Act.put, List.setIfInBounds_toArray, List.set_cons_zero, List.set_cons_succ]
              refine Lt.wpAnyL_take (i := 16) (oi := { dst := some 74, op := Op.binOp BinOp.sub 3 (Operand.tmp 73) (Operand.const (Value.int IntKind.i64 1)) 3, type := 3, pos := _, after := #[{ on := 15, ground := Ground.data }, { on := 13, ground := Ground.guard }], guard := some (13, true) }) (v := ?_) [] rfl (by kernel_rfl) (by kernel_rfl) (by kernel_rfl) (by kernel_rfl) (by kernel_rfl) (by kernel_rfl) (fun _ _ _ h => h) (Or.inl ⟨by rfl, ?_⟩) ⟨⟨m0, m1, m2, m3, m4, m5⟩, ⟨n0, n1, n2, n3, n4, n5⟩, z7⟩ ?_
              rotate_left 1
              · intro w hSw
                try dsimp only at hSw
                go_simp
                first | done | with_reducible rfl
              try simp only [Act.put, List.setIfInBounds_toArray, List.set_cons_zero, List.set_cons_succ]
              refine Lt.wpAnyL_take (i := 17) (oi := { dst := some 75, op := Op.indexAddr 47 (Operand.tmp 72) (Operand.tmp 74), type := 0, pos := _, after := #[{ on := 14, ground := Ground.data }, { on := 16, ground := Ground.data }, { on := 13, ground := Ground.guard }], guard := some (13, true) }) (v := ?_) [] rfl (by kernel_rfl) (by kernel_rfl) (by kernel_rfl) (by kernel_rfl) (by kernel_rfl) (by kernel_rfl) (fun _ _ _ h => h) (Or.inl ⟨by rfl, ?_⟩) ⟨⟨m0, m1, m2, m3, m4, m5⟩, ⟨n0, n1, n2, n3, n4, n5⟩, z7⟩ ?_
              rotate_left 1
              · intro w hSw
                try dsimp only at hSw
                go_simp
                first | done | with_reducible rfl
              try simp only [Act.put, List.setIfInBounds_toArray, List.set_cons_zero, List.set_cons_succ]
              refine Lt.wpAnyL_take (i := 18) (oi := { dst := some 76, op := Op.fieldAddr 33 (Operand.tmp 75) 0, type := 0, pos := _, after := #[{ on := 17, ground := Ground.data }, { on := 13, ground := Ground.guard }], guard := some (13, true) }) (v := ?_) [] rfl (by kernel_rfl) (by kernel_rfl) (by kernel_rfl) (by kernel_rfl) (by kernel_rfl) (by kernel_rfl) (fun _ _ _ h => h) (Or.inl ⟨by rfl, ?_⟩) ⟨⟨m0, m1, m2, m3, m4, m5⟩, ⟨n0, n1, n2, n3, n4, n5⟩, z7⟩ ?_
              rotate_left 1
              · intro w hSw
                try dsimp only at hSw
                go_simp
                first | done | with_reducible rfl
              try simp only [Act.put, List.setIfInBounds_toArray, List.set_cons_zero, List.set_cons_succ]
              refine Lt.wpAnyL_take (i := 19) (oi := { dst := some 77, op := Op.load 9 (Operand.tmp 76), type := 9, pos := _, after := #[{ on := 18, ground := Ground.data }, { on := 13, ground := Ground.guard }], guard := some (13, true) }) (v := ?_) [] rfl (by kernel_rfl) (by kernel_rfl) (by kernel_rfl) (by kernel_rfl) (by kernel_rfl) (by kernel_rfl) (fun _ _ _ h => h) (Or.inl ⟨by rfl, ?_⟩) ⟨⟨m0, m1, m2, m3, m4, m5⟩, ⟨n0, n1, n2, n3, n4, n5⟩, z7⟩ ?_
              rotate_left 1
              · intro w hSw
                try dsimp only at hSw
                go_simp
                first | done | with_reducible rfl
              try simp only [Act.put, List.setIfInBounds_toArray, List.set_cons_zero, List.set_cons_succ]
              refine Lt.wpAnyL_take (i := 20) (oi := { dst := some 78, op := Op.move (Operand.tmp 8), type := 47, pos := _, after := #[{ on := 13, ground := Ground.guard }], guard := some (13, true) }) (v := ?_) [] rfl (by kernel_rfl) (by kernel_rfl) (by kernel_rfl) (by kernel_rfl) (by kernel_rfl) (by kernel_rfl) (fun _ _ _ h => h) (Or.inl ⟨by rfl, ?_⟩) ⟨⟨m0, m1, m2, m3, m4, m5⟩, ⟨n0, n1, n2, n3, n4, n5⟩, z7⟩ ?_
              rotate_left 1
              · intro w hSw
                try dsimp only at hSw
                go_simp
                first | done | with_reducible rfl
              try simp only [Act.put, List.setIfInBounds_toArray, List.set_cons_zero, List.set_cons_succ]
              refine Lt.wpAnyL_take (i := 21) (oi := { dst := some 79, op := Op.move (Operand.tmp 11), type := 3, pos := _, after := #[{ on := 13, ground := Ground.guard }], guard := some (13, true) }) (v := ?_) [] rfl (by kernel_rfl) (by kernel_rfl) (by kernel_rfl) (by kernel_rfl) (by kernel_rfl) (by kernel_rfl) (fun _ _ _ h => h) (Or.inl ⟨by rfl, ?_⟩) ⟨⟨m0, m1, m2, m3, m4, m5⟩, ⟨n0, n1, n2, n3, n4, n5⟩, z7⟩ ?_
              rotate_left 1
              · intro w hSw
                try dsimp only at hSw
                go_simp
                first | done | with_reducible rfl
              try simp only [Act.put, List.setIfInBounds_toArray, List.set_cons_zero, List.set_cons_succ]
              refine Lt.wpAnyL_take (i := 22) (oi := { dst := some 80, op := Op.indexAddr 47 (Operand.tmp 78) (Operand.tmp 79), type := 0, pos := _, after := #[{ on := 20, ground := Ground.data }, { on := 21, ground := Ground.data }, { on := 13, ground := Ground.guard }], guard := some (13, true) }) (v := ?_) [] rfl (by kernel_rfl) (by kernel_rfl) (by kernel_rfl) (by kernel_rfl) (by kernel_rfl) (by kernel_rfl) (fun _ _ _ h => h) (Or.inl ⟨by rfl, ?_⟩) ⟨⟨m0, m1, m2, m3, m4, m5⟩, ⟨n0, n1, n2, n3, n4, n5⟩, z7⟩ ?_
              rotate_left 1
              · intro w hSw
                try dsimp only at hSw
                go_simp
                first | done | with_reducible rfl
              try simp only [Act.put, List.setIfInBounds_toArray, List.set_cons_zero, List.set_cons_succ]
              refine Lt.wpAnyL_take (i := 23) (oi := { dst := some 81, op := Op.fieldAddr 33 (Operand.tmp 80) 0, type := 0, pos := _, after := #[{ on := 22, ground := Ground.data }, { on := 13, ground := Ground.guard }], guard := some (13, true) }) (v := ?_) [] rfl (by kernel_rfl) (by kernel_rfl) (by kernel_rfl) (by kernel_rfl) (by kernel_rfl) (by kernel_rfl) (fun _ _ _ h => h) (Or.inl ⟨by rfl, ?_⟩) ⟨⟨m0, m1, m2, m3, m4, m5⟩, ⟨n0, n1, n2, n3, n4, n5⟩, z7⟩ ?_
              rotate_left 1
              · intro w hSw
                try dsimp only at hSw
                go_simp
                first | done | with_reducible rfl
              try simp only [Act.put, List.setIfInBounds_toArray, List.set_cons_zero, List.set_cons_succ]
              refine Lt.wpAnyL_take (i := 24) (oi := { dst := some 82, op := Op.load 9 (Operand.tmp 81), type := 9, pos := _, after := #[{ on := 23, ground := Ground.data }, { on := 13, ground := Ground.guard }], guard := some (13, true) }) (v := ?_) [] rfl (by kernel_rfl) (by kernel_rfl) (by kernel_rfl) (by kernel_rfl) (by kernel_rfl) (by kernel_rfl) (fun _ _ _ h => h) (Or.inl ⟨by rfl, ?_⟩) ⟨⟨m0, m1, m2, m3, m4, m5⟩, ⟨n0, n1, n2, n3, n4, n5⟩, z7⟩ ?_
              rotate_left 1
              · intro w hSw
                try dsimp only at hSw
                go_simp
                first | done | with_reducible rfl
              try simp only [Act.put, List.setIfInBounds_toArray, List.set_cons_zero, List.set_cons_succ]
              refine Lt.wpAnyL_take (i := 25) (oi := { dst := some 83, op := Op.binOp BinOp.geq 9 (Operand.tmp 77) (Operand.tmp 82) 9, type := 4, pos := _, after := #[{ on := 19, ground := Ground.data }, { on := 24, ground := Ground.data }, { on := 13, ground := Ground.guard }], guard := some (13, true) }) (v := ?_) [] rfl (by kernel_rfl) (by kernel_rfl) (by kernel_rfl) (by kernel_rfl) (by kernel_rfl) (by kernel_rfl) (fun _ _ _ h => h) (Or.inl ⟨by rfl, ?_⟩) ⟨⟨m0, m1, m2, m3, m4, m5⟩, ⟨n0, n1, n2, n3, n4, n5⟩, z7⟩ ?_
              rotate_left 1
              · intro w hSw
                try dsimp only at hSw
                go_simp
                first | done | with_reducible rfl
              try simp only [Act.put, List.setIfInBounds_toArray, List.set_cons_zero, List.set_cons_succ]
              refine Lt.wpAnyL_take (i := 26) (oi := { dst := some 84, op := Op.pick (Operand.tmp 71) (Operand.tmp 83) (Operand.const (Value.bool false)), type := 4, pos := _, after := #[{ on := 13, ground := Ground.data }, { on := 25, ground := Ground.data }, { on := 10, ground := Ground.guard }], guard := some (10, false) }) (v := ?_) [] rfl (by kernel_rfl) (by kernel_rfl) (by kernel_rfl) (by kernel_rfl) (by kernel_rfl) (by kernel_rfl) (fun _ _ _ h => h) (Or.inl ⟨by rfl, ?_⟩) ⟨⟨m0, m1, m2, m3, m4, m5⟩, ⟨n0, n1, n2, n3, n4, n5⟩, z7⟩ ?_
              rotate_left 1
              · intro w hSw
                try dsimp only at hSw
                go_simp
                first | done | with_reducible rfl
              try simp only [Act.put, List.setIfInBounds_toArray, List.set_cons_zero, List.set_cons_succ]
              refine Lt.wpAnyL_take (i := 27) (oi := { dst := some 85, op := Op.pick (Operand.tmp 68) (Operand.const (Value.bool true)) (Operand.tmp 84), type := 4, pos := _, after := #[{ on := 10, ground := Ground.data }, { on := 26, ground := Ground.data }], guard := Option.none }) (v := ?_) [] rfl (by kernel_rfl) (by kernel_rfl) (by kernel_rfl) (by kernel_rfl) (by kernel_rfl) (by kernel_rfl) (fun _ _ _ h => h) (Or.inl ⟨by rfl, ?_⟩) ⟨⟨m0, m1, m2, m3, m4, m5⟩, ⟨n0, n1, n2, n3, n4, n5⟩, z7⟩ ?_
              rotate_left 1
              · intro w hSw
                try dsimp only at hSw
                go_simp
                first | done | with_reducible rfl
              try simp only [Act.put, List.setIfInBounds_toArray, List.set_cons_zero, List.set_cons_succ]
              refine Lt.wpAnyL_done (by kernel_rfl) ?_ _
              refine NoPanic.normal ?_
              go_wp2_with fail
              go_roundw
              case rel => exact ⟨(i + 1) + 1, by have := HLL.out; omega, by go_num, A7, Z7⟩
              case measure => simp [intOf]; omega
          · obtain rfl : j = G1.length := by omega
            have haw := awake_c wr
            go_wp2_with fail
            refine haw.mono ?_
            rintro e w10 ⟨rfl, hb10⟩
            have HB := Lib.hid (hA.out.next hb10).bel
            clear haw hb10
            go_wp2_with fail
            go_ret
            exact ⟨rfl, HB.out⟩
end Go.Proofs.Ytdijpoemimebmaa.Rn
