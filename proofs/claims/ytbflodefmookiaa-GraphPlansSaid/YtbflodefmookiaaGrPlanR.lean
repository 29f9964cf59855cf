/-
  THE DOCUMENT's PLAN (pure): the least one below which all is done, until none is left; what is wanted. A bool in a row is set.
  THE DOCUMENT's Plan.
-/
import Derived.Test.YtbflodefmookiaaGrUniq
import Derived.Test.YtbflodefmookiaaGrBrow
import Derived.Test.YtbflodefmookiaaGrTgtR
import Derived.Test.YtbflodefmookiaaGrPlanW
namespace Go.Proofs.Ytbflodefmookiaa.Gr
open Go.RowKit Go.Proofs.Ytbflodefmookiaa Go.Proofs.Ytbflodefmookiaa.Pr
section
variable {deps : Nat → List Nat} {M P : List Nat} {n x d j : Nat}
theorem Gd.closed (h : Gd deps M P) (hd : d ∈ P) (ht : Tc deps d j) : j ∈ P := by
  obtain ⟨t, ht'⟩ := List.getElem?_of_mem hd
  exact List.mem_of_mem_take (h.above ht t ht')
theorem Gd.all_in (h : Gd deps M P) {y : Nat} (hy : ∀ d ∈ deps y, d ∈ P) : ∀ j, Tc deps y j → j ∈ P := fun j ht => by
  cases ht with
  | one hd => exact hy _ hd
  | more hd ht => exact h.closed (hy _ hd) ht
theorem Gd.snoc2 (h : Gd deps M P) (hx : x ∈ M) (hxP : x ∉ P) (hall : ∀ j, Tc deps x j → j ∈ P) (hle : ∀ y ∈ M, y ∉ P → (∀ j, Tc deps y j → j ∈ P) → x ≤ y) : Gd deps M (P ++ [x]) := by
  have hcase : ∀ (t z : Nat), (P ++ [x])[t]? = some z → (P[t]? = some z ∧ (P ++ [x]).take t = P.take t) ∨ (t = P.length ∧ z = x ∧ (P ++ [x]).take t = P) := fun t z hz => by
    by_cases ht : t < P.length
    · rw [List.getElem?_append_left ht] at hz
      exact .inl ⟨hz, List.take_append_of_le_length (by omega)⟩
    · rw [List.getElem?_append_right (by omega)] at hz
      have h0 : t - P.length = 0 := by
        have := (List.getElem?_eq_some_iff.1 hz).1
        simp at this
        omega
      rw [h0] at hz
      have e : t = P.length := by omega
      refine .inr ⟨e, by cases hz; rfl, by rw [e, List.take_left]⟩
  refine ⟨?_, fun z hz => ?_, fun t z hz => ?_, fun t z hz => ?_⟩
  · refine List.nodup_append.2 ⟨h.nd, by simp, fun a ha b hb => ?_⟩
    rw [List.mem_singleton.1 hb]
    exact fun e => hxP (e ▸ ha)
  · rcases List.mem_append.1 hz with hz | hz
    · exact h.sub z hz
    · rw [List.mem_singleton.1 hz]; exact hx
  · rcases hcase t z hz with ⟨hz, e⟩ | ⟨_, rfl, e⟩
    · rw [e]; exact h.ahead t z hz
    · rw [e]; exact fun d hd => hall d (.one hd)
  · rcases hcase t z hz with ⟨hz, e⟩ | ⟨_, rfl, e⟩
    · rw [e]; exact h.least t z hz
    · rw [e]
      exact fun y hy hyP hyd => hle y hy hyP (h.all_in hyd)
theorem plan_all2 (hM : M.Pairwise (· < ·)) (hcM : ∀ u ∈ M, ∀ d ∈ deps u, d ∈ M) (hac : ∀ u ∈ M, ¬ Tc deps u u) (hst : ∀ y ∈ M, y ∉ P → ∃ j, Tc deps y j ∧ j ∉ P) : ∀ x ∈ M, x ∈ P := by
  have hg := order_gd (deps := deps) hM
  have key : ∀ t y, (order deps M)[t]? = some y → y ∈ P := fun t => by
    induction t using Nat.strongRecOn with
    | _ t ih =>
      intro y hy
      refine Classical.byContradiction fun hn => ?_
      obtain ⟨j, h1, h2⟩ := hst y (hg.sub y (List.mem_of_getElem? hy)) hn
      have h3 := hg.above h1 t hy
      obtain ⟨s, hs⟩ := List.getElem?_of_mem h3
      have hst : s < t := by
        have := (List.getElem?_eq_some_iff.1 hs).1
        rw [List.length_take] at this
        omega
      rw [List.getElem?_take_of_lt hst] at hs
      exact h2 (ih s hst j hs)
  intro x hx
  obtain ⟨t, ht⟩ := List.getElem?_of_mem (order_all hM hcM hac x hx)
  exact key t x ht
theorem Gd.is_order (h : Gd deps M P) (hM : M.Pairwise (· < ·)) (hcM : ∀ u ∈ M, ∀ d ∈ deps u, d ∈ M) (hac : ∀ u ∈ M, ¬ Tc deps u u) (hst : ∀ y ∈ M, y ∉ P → ∃ j, Tc deps y j ∧ j ∉ P) : P = order deps M :=
  h.unique (order_gd hM) (hM.imp fun h => Nat.ne_of_lt h) (plan_all2 hM hcM hac hst) (order_all hM hcM hac)
end
section
variable {mkr : Bs → Option Nat} {L : List Ed} {K : List Bs} {x m : Nat}
theorem Reach.tc (h : Reach mkr L K m) (t : Tc (depsL mkr L) m x) : Reach mkr L K x := by
  induction t with
  | one hd => exact .step h hd
  | more hd _ ih => exact ih (.step h hd)
theorem reach_iff : Reach mkr L K x ↔ ∃ s ∈ K, ∃ y, mkr s = some y ∧ (x = y ∨ Tc (depsL mkr L) y x) := by
  constructor
  · intro h
    induction h with
    | base hs hm => exact ⟨_, hs, _, hm, .inl rfl⟩
    | step _ hd ih =>
      obtain ⟨s, hs, y, hm, h⟩ := ih
      refine ⟨s, hs, y, hm, .inr ?_⟩
      rcases h with rfl | h
      · exact .one hd
      · exact h.trans (.one hd)
  · rintro ⟨s, hs, y, hm, rfl | h⟩
    · exact .base hs hm
    · exact (Reach.base hs hm).tc h
end
theorem Br.put {w W : World} {g n : Nat} {b : Nat → Bool} (h : Br w W g n b) (j : Nat) (c : Bool) {b' : Nat → Bool} (hb : ∀ x, b' x = if x = j then c else b x) : Br w (W.setCell ⟨g, j, none⟩ (.bool c)) g n b' ∧ KeepN W (W.setCell ⟨g, j, none⟩ (.bool c)) ∧ (∀ B, Below B w W → B ≤ g → Below B w (W.setCell ⟨g, j, none⟩ (.bool c))) ∧ (W.setCell ⟨g, j, none⟩ (.bool c)).heap.size = W.heap.size := by
  obtain ⟨h1, h2⟩ := World.ownsRow.stored h j (.bool c)
  obtain ⟨_, D, hD⟩ := h.blk
  have e : (bL b n).set j (.bool c) = bL b' n := by
    refine List.ext_getElem? fun k => ?_
    by_cases hk : k < n
    · rw [bL_at hk, List.getElem?_set, hb]
      by_cases e : j = k
      · subst e
        simp [bL_len, hk]
      · rw [if_neg e, bL_at hk, if_neg fun h => e h.symm]
    · rw [List.getElem?_eq_none (by rw [List.length_set, bL_len]; omega), List.getElem?_eq_none (by rw [bL_len]; omega)]
  rw [e] at h1
  refine ⟨h1, fun q C t x ht hc => ?_, fun B hB hg => hB.setCell hg _, by simp [World.setCell]⟩
  rw [Below.heap_setCell]
  intro e2
  have e2 : q = g := e2
  subst e2
  rw [hD] at hc
  cases hc
  exact ht rfl

/-- what the document's plan holds while it goes on -/
structure Ps (w W : World) (gw gd n : Nat) (bw bd : Nat → Bool) (v : Value) (P : List Nat) : Prop where
  wt : Br w W gw n bw
  dn : Br w W gd n bd
  al : RowI W w.heap.size v P
  bel : Below w.heap.size w W
  ne : gw ≠ gd
section
variable {w W W' : World} {gw gd n x q : Nat} {bw bd : Nat → Bool} {v : Value} {P : List Nat}
theorem Ps.below (h : Ps w W gw gd n bw bd v P) (hb : Below W.heap.size W W') : Ps w W' gw gd n bw bd v P := ⟨h.wt.below hb, h.dn.below hb, h.al.below hb, h.bel.trans (hb.mono h.bel.size), h.ne⟩
theorem Ps.mark (h : Ps w W gw gd n bw bd v P) (x : Nat) : Ps w (W.setCell ⟨gd, x, none⟩ (.bool true)) gw gd n bw (fun k => if k = x then true else bd k) v P := by
  obtain ⟨h1, h2, h3, -⟩ := h.dn.put x true (fun _ => rfl)
  exact ⟨h.wt.other h.ne x _ h.dn, h1, h.al.keepN h2, h3 _ h.bel h.dn.blk.1, h.ne⟩
theorem Ps.push (h : Ps w W gw gd n bw bd v P) (hl : P.length ≤ 1000000) (hq : W.heap[q]? = some (.cells #[.int .i64 (x : Int)] 3 (0, 0))) :
    ∃ a' c' W', (Builtin.append_ #[37, 37] 37 #[v, .slice (some ⟨q, 0, none⟩) 1 1]).run Try.prog W = .ok (.slice a' (P ++ [x]).length c') W' ∧ Ps w W' gw gd n bw bd (.slice a' (P ++ [x]).length c') (P ++ [x]) := by
  obtain ⟨a', c', W', hrun, hr, hg, ho⟩ := run_pushI Try.underlying37 h.al h.bel.size hl hq
  have hkind : ∀ g, v.ownBlock = some g → w.heap.size ≤ g ∧ ∃ C, W.heap[g]? = some (.cells C 3 (0, 0)) := fun g hg => owns_block h.al.2 hg
  have hT : ∀ (g : Nat) C, W.heap[g]? = some (.cells C 4 (0, 0)) → W'.heap[g]? = W.heap[g]? := fun g C hc => hg.block g (lt_some hc) fun e => by
    obtain ⟨_, C2, h2⟩ := hkind g e.symm
    rw [hc] at h2
    cases h2
  have hB : ∀ {g : Nat} {b : Nat → Bool}, Br w W g n b → Br w W' g n b := fun {g b} hb => owns_kept hb fun q hq => by
    cases hq
    obtain ⟨_, D, hD⟩ := hb.blk
    exact hT _ _ hD
  refine ⟨a', c', W', hrun, hB h.wt, hB h.dn, hr, h.bel.trans ⟨hg.os, hg.tape, hg.output, hg.size, fun g hk => hg.block g (by have := h.bel.size; omega) fun e => ?_⟩, h.ne⟩
  have := (hkind _ e.symm).1
  omega
end
end Go.Proofs.Ytbflodefmookiaa.Gr
namespace Go.Proofs.Ytbflodefmookiaa.Gr
open Go.RowKit Go.Maps Go.Proofs.Ytbflodefmookiaa Go.Proofs.Ytbflodefmookiaa.Pr

def slLen : Value → Nat
  | .slice _ n _ => n
  | _ => 0
theorem rise_eq {A B : List Nat} (hA : A.Pairwise (· < ·)) (hB : B.Pairwise (· < ·)) (h : ∀ x, x ∈ A ↔ x ∈ B) : A = B :=
  List.Perm.eq_of_pairwise (le := fun a b => a < b) (fun _ _ _ _ h1 h2 => absurd h1 (Nat.not_lt.2 (Nat.le_of_lt h2))) hA hB ((List.perm_ext_iff_of_nodup (hA.imp fun h => Nat.ne_of_lt h) (hB.imp fun h => Nat.ne_of_lt h)).2 h)
/-- it may be done next -/
def Eg (B : Nat → Nat → Bool) (bw bd : Nat → Bool) (n k : Nat) : Prop := bw k = true ∧ bd k = false ∧ ∀ a, a < n → B k a = true → bd a = true
set_option maxRecDepth 100000 in
set_option maxHeartbeats 64000000 in
theorem planR_c {w : World} {u0 u1 vT : Value} {L : List Ed} {T : List Bs} {mkr : Bs → Option Nat} (hL : Eds w u0 L) (hm : makers L = some mkr) (hs : ∀ e ∈ L, Sm e) (hl : L.length ≤ 1000) (hac : ∀ i, i < L.length → ¬ Tc (depsL mkr L) i i)
    (hT : Strs w vT T) (hTl : T.length ≤ 1000000) :
    Calls Try.prog 16 #[.agg #[u0, u1], vT] w fun e w' => Below w.heap.size w w' ∧
      ((∃ s ∈ T, ¬ Kno mkr L s) ∧ e = .returned (.tuple #[.slice none 0 0, .int .i64 6]) ∨
       (∀ s ∈ T, Kno mkr L s) ∧ ∃ v, e = .returned (.tuple #[v, .int .i64 0]) ∧ ∀ M, M.Pairwise (· < ·) → (∀ x, x ∈ M ↔ Reach mkr L T x) → IntR w' v (order (depsL mkr L) M)) := by
  have hA := below_alloc w (.cells #[u0, u1] 25)
  have hb := heap_alloc_new w (.cells #[u0, u1] 25)
  obtain ⟨wB, hwB⟩ : ∃ wB, w.alloc (.cells #[u0, u1] 25) = wB := ⟨_, rfl⟩
  rw [hwB] at hA hb
  obtain ⟨a0, k0, rfl, -, -⟩ := id hL
  obtain ⟨aT, kT, rfl, -, -⟩ := id hT
  have hbx : Bx w wB w.heap.size #[.slice a0 L.length k0, u1] 25 := ⟨hb, hA⟩
  have hbl := belowR_c (u1 := u1) (hL.below hA) hm hs hl
  have c0 := hbx.c0
  have c1 := hbx.c1
  have HL := Lib.hid hL
  have HS := Lib.hid hs
  have HMK := Lib.hid hm
  have HAC := Lib.hid hac
  have HT := Lib.hid hT
  have HBX := Lib.hid hbx
  have HWB := Lib.hid hwB
  obtain ⟨n, hn⟩ : ∃ n, L.length = n := ⟨_, rfl⟩
  have HN := Lib.hid hn
  have HDL : Hid (∀ i, ∀ j ∈ depsL mkr L i, j < n) := Lib.hid (hn ▸ deps_lt hm)
  rw [hn] at HBX hl HWB hbl c0
  obtain ⟨bb, hbb⟩ : ∃ bb, w.heap.size = bb := ⟨_, rfl⟩
  rw [hbb] at HBX c0 c1
  clear hA hb hwB hL hs hm hT hac hbx
  go_enter Try.func16, Try.ntmps16
  go_upto_region 1 with fail
  rw [hn, HWB.out]
  clear HWB hn
  go_wp2_with fail
  refine hbl.mono ?_
  rintro e w2 ⟨g, b2, C2, ty2, rf, B, rfl, hM, -, hB⟩
  have HM := Lib.hid hM
  have HBB := Lib.hid hB
  have HQ2 := Lib.hid (HBX.out.below hM.bel)
  clear hbl hM hB c0 c1
  have c0 := HQ2.out.c0
  obtain ⟨hmkW, hBr⟩ := Br.made (w := w2) (W := w2) (Nat.le_refl _) hl
  have hA3 := below_alloc w2 (.cells (madeCells #[.bool false] n) 4)
  obtain ⟨w3, hw3⟩ : ∃ w3, w2.alloc (.cells (madeCells #[.bool false] n) 4) = w3 := ⟨_, rfl⟩
  rw [hw3] at hmkW hBr hA3
  obtain ⟨gw, hgw⟩ : ∃ gw, w2.heap.size = gw := ⟨_, rfl⟩
  rw [hgw] at hmkW hBr
  have HBr := Lib.hid hBr
  have HB3 : Hid (Below w2.heap.size w2 w3) := Lib.hid hA3
  clear hBr hA3 hw3
  go_upto_region 3 with fail
  clear hmkW c0
  have hso := sourcesR_c (w := w3) (u1 := u1) ((HL.out.below HQ2.out.bel).below HB3.out) HMK.out HS.out (by rw [HN.out]; exact hl)
  rw [HN.out] at hso
  have hQ3 := HQ2.out.below HB3.out
  have c0 := hQ3.c0
  have c1 := hQ3.c1
  have hw3b := hQ3.bel
  clear hQ3
  go_wp2_with fail
  refine hso.mono ?_
  rintro e w4 ⟨vS, K, rfl, hS, hR, hKl, hb4⟩
  have HS4 := Lib.hid hS
  have HR4 := Lib.hid hR
  have HBr4 := Lib.hid (HBr.out.below hb4)
  have HB4 := Lib.hid (HB3.out.trans (hb4.mono HB3.out.size))
  clear hso hS hR hb4 c0 c1 HBr HB3 hw3b
  go_wp2_with fail
  go_loopw [9, 10, 11] (fun i _ _ W => ∃ (t : Nat) (bw : Nat → Bool), t ≤ T.length ∧ i = .int .i64 t ∧ Hid (Br w2 W gw n bw) ∧ Hid (∀ k, k < n → (bw k = true ↔ ∃ s ∈ T.take t, ∃ y, mkr s = some y ∧ (k = y ∨ Tc (depsL mkr L) y k))) ∧ Hid (∀ s ∈ T.take t, Kno mkr L s) ∧ Hid (Below w2.heap.size w2 W) ∧ Hid (KeepN w4 W)) (fun i _ _ _ => T.length - (intOf i).toNat)
  case atStart => exact ⟨0, _, Nat.zero_le _, rfl, HBr4, Lib.hid (fun k _ => by simp), Lib.hid (by simp), HB4, Lib.hid (KeepN.refl _)⟩
  case round =>
    clear HBr4 HB4
    obtain ⟨t, bw, ht, rfl, HBW, HWT, HKN, HB, HKP⟩ := hrel
    have HQ := Lib.hid (HQ2.out.below HB.out)
    by_cases hlt : t < T.length
    · have hx := List.getElem?_eq_getElem hlt
      generalize T[t] = s at *
      obtain ⟨_, _, eS, _, hSr⟩ := HT.out.below HQ.out.bel
      cases eS
      rcases hSr with h | ⟨gS, oS, rfl, hgS, hcS⟩
      · rw [h] at hlt; simp at hlt
      have s0 := hcS t s hx
      have c0 := HQ.out.c0
      have c1 := HQ.out.c1
      have hmr := makerR_c (w := wr.drew) (u1 := u1) (s := s) ((HL.out.below HQ.out.bel).below ⟨rfl, rfl, rfl, Nat.le_refl _, fun _ _ => rfl⟩) HMK.out (by rw [HN.out]; omega) (fun e he => by have := (HS.out e he).o; omega)
      rw [HN.out] at hmr
      have hbl := lt_some HQ.out.bx
      have hmr2 := hmr.mono (R' := fun e w' => (e = .returned (mkV (mkr s)) ∧ Below wr.heap.size wr w') ∧ (w'.cell? ⟨bb, 0, none⟩ = some (.slice a0 n k0) ∧ w'.cell? ⟨bb, 1, none⟩ = some u1 ∧ w'.cell? ⟨gS, oS + t, none⟩ = some (.string (mk s)))) fun e w' ⟨h1, h2⟩ => by
        have h5 : Below wr.heap.size wr w' := ⟨h2.os, h2.tape, h2.output, h2.size, h2.block⟩
        exact ⟨⟨h1, h5⟩, (cell_of_block (h5.block bb hbl)).trans c0, (cell_of_block (h5.block bb hbl)).trans c1, (cell_of_block (h5.block gS hgS)).trans s0⟩
      have k0' : wr.drew.cell? ⟨bb, 0, none⟩ = some (.slice a0 n k0) ∧ wr.drew.cell? ⟨bb, 1, none⟩ = some u1 ∧ wr.drew.cell? ⟨gS, oS + t, none⟩ = some (.string (mk s)) := ⟨c0, c1, s0⟩
      have hj0 : (0 : Int) ≤ (t : Int) := by omega
      have hj1 : (t : Int) < (T.length : Int) := by omega
      have HTK := Lib.hid (take1 hx)
      clear hx hcS hmr hbl hgS
      cases hms : mkr s with
      | some x =>
        have hxn : x < n := by
          obtain ⟨e, h1, -⟩ := (makers_iff HMK.out s x).1 hms
          have := (List.getElem?_eq_some_iff.1 h1).1
          rwa [HN.out] at this
        simp only [hms, mkV] at hmr2
        have HMS := Lib.hid hms
        have hx0 : ¬ (x : Int) < 0 := by omega
        clear hms
        go_wp2_with fail
        go_region_held3 (fun w' => w'.cell? ⟨bb, 0, none⟩ = some (.slice a0 n k0) ∧ w'.cell? ⟨bb, 1, none⟩ = some u1 ∧ w'.cell? ⟨gS, oS + t, none⟩ = some (.string (mk s)))
          (first | exact k0' | exact k1)
          (first
            | (go_at_call 18; (with_reducible refine hmr2.mono ?_); rintro e w5 ⟨⟨rfl, hb5⟩, k1⟩))
        clear hmr2 k0' k1 c0 c1 s0
        have HBW5 := Lib.hid (HBW.out.below hb5)
        have HB5 := Lib.hid (HB.out.trans (hb5.mono HB.out.size))
        have HKP5 := Lib.hid (HKP.out.trans (KeepN.below hb5))
        clear hb5 HBW HB HKP HQ
        go_wp2_with fail
        have hx1 : (0 : Int) ≤ (x : Int) := by omega
        go_loopw [11] (fun i W => ∃ (j : Nat) (b3 : Nat → Bool), j ≤ n ∧ i = .int .i64 j ∧ Hid (Br w2 W gw n b3) ∧ Hid (∀ k, k < n → (b3 k = true ↔ bw k = true ∨ (k < j ∧ (k = x ∨ Tc (depsL mkr L) x k)))) ∧ Hid (Below w2.heap.size w2 W) ∧ Hid (KeepN w4 W)) (fun i _ => n - (intOf i).toNat)
        case atStart => exact ⟨0, bw, Nat.zero_le _, rfl, HBW5, Lib.hid (fun k _ => by simp), HB5, HKP5⟩
        case round =>
          clear HBW5 HB5 HKP5
          obtain ⟨j, b3, hj, rfl, HBW, HW3, HB, HKP⟩ := hrel
          by_cases hlj : j < n
          · have hMr := HM.out.below HB.out
            have t0 := hMr.cell0 hxn
            have t1 := hMr.cell1 hxn hlj
            have t2 := HBW.out.cell hlj
            have tf := HBW.out.frz j
            have q0 : (0 : Int) ≤ (x : Int) := by omega
            have q1 : (x : Int) < (n : Int) := by omega
            have q2 : (0 : Int) ≤ (j : Int) := by omega
            have q3 : (j : Int) < (n : Int) := by omega
            obtain ⟨c, hc⟩ : ∃ c, (b3 j || decide (j = x) || B x j) = c := ⟨_, rfl⟩
            obtain ⟨h1, h2, h3, h4⟩ := HBW.out.put j c (fun _ => rfl)
            have hbp : B x j = true ↔ Tc (depsL mkr L) x j := HBB.out x j hxn hlj
            have HW4 : Hid (∀ k, k < n → ((if k = j then c else b3 k) = true ↔ bw k = true ∨ (k < j + 1 ∧ (k = x ∨ Tc (depsL mkr L) x k)))) := Lib.hid fun k hk => by
              by_cases e : k = j
              · subst e
                rw [if_pos rfl, ← hc, Bool.or_eq_true, Bool.or_eq_true, decide_eq_true_iff, HW3.out k hk, hbp]
                constructor
                · rintro (((h | ⟨_, h⟩) | h) | h)
                  · exact .inl h
                  · exact .inr ⟨by omega, h⟩
                  · exact .inr ⟨by omega, .inl h⟩
                  · exact .inr ⟨by omega, .inr h⟩
                · rintro (h | ⟨_, h | h⟩)
                  · exact .inl (.inl (.inl h))
                  · exact .inl (.inr h)
                  · exact .inr h
              · rw [if_neg e, HW3.out k hk]
                constructor
                · rintro (h | ⟨h1, h2⟩)
                  · exact .inl h
                  · exact .inr ⟨by omega, h2⟩
                · rintro (h | ⟨h1, h2⟩)
                  · exact .inl h
                  · exact .inr ⟨by omega, h2⟩
            obtain ⟨W5, hW5⟩ : ∃ W5, wr.setCell ⟨gw, j, none⟩ (.bool c) = W5 := ⟨_, rfl⟩
            rw [hW5] at h1 h2 h3
            have HBW5 := Lib.hid h1
            have HKP5 := Lib.hid (HKP.out.trans h2)
            have HB5 := Lib.hid (h3 _ HB.out HBW.out.blk.1)
            have HW5 := Lib.hid hW5
            clear h1 h2 h3 h4 hbp hW5 hMr HB HKP
            cases h1 : b3 j with
            | true =>
              obtain rfl : true = c := by rw [← hc, h1]; rfl
              rw [h1] at t2
              clear h1 hc HW3 HBW
              go_upto_region 12 with fail
              rw [HW5.out]
              clear HW5 t0 t1 t2 tf
              go_wp2_with fail
              go_roundw
              case rel => exact ⟨j + 1, _, by omega, by go_num, HBW5, HW4, HB5, HKP5⟩
              case measure => simp [intOf]; omega
            | false =>
              rw [h1] at t2
              by_cases hjx : j = x
              · obtain rfl : true = c := by rw [← hc, h1, decide_eq_true hjx]; rfl
                clear h1 hc HW3 HBW
                subst hjx
                go_upto_region 12 with fail
                rw [HW5.out]
                clear HW5 t0 t1 t2 tf
                go_wp2_with fail
                go_roundw
                case rel => exact ⟨j + 1, _, by omega, by go_num, HBW5, HW4, HB5, HKP5⟩
                case measure => simp [intOf]; omega
              · have e1 : ((j : Int) == (x : Int)) = false := beq_eq_false_iff_ne.2 (by omega)
                obtain rfl : B x j = c := by rw [← hc, h1, decide_eq_false hjx]; rfl
                clear h1 hc HW3 HBW
                go_upto_region 12 with fail
                rw [HW5.out]
                clear HW5 t0 t1 t2 tf
                go_wp2_with fail
                go_roundw
                case rel => exact ⟨j + 1, _, by omega, by go_num, HBW5, HW4, HB5, HKP5⟩
                case measure => simp [intOf]; omega
          · obtain rfl : j = n := by omega
            have HW4 : Hid (∀ k, k < j → (b3 k = true ↔ ∃ s ∈ T.take (t + 1), ∃ y, mkr s = some y ∧ (k = y ∨ Tc (depsL mkr L) y k))) := Lib.hid fun k hk => by
              rw [HW3.out k hk, HWT.out k hk, HTK.out]
              constructor
              · rintro (⟨s', h1, h2⟩ | ⟨_, h⟩)
                · exact ⟨s', List.mem_append.2 (.inl h1), h2⟩
                · exact ⟨s, by simp, x, HMS.out, h⟩
              · rintro ⟨s', h1, y, h2, h3⟩
                rcases List.mem_append.1 h1 with h1 | h1
                · exact .inl ⟨s', h1, y, h2, h3⟩
                · rw [List.mem_singleton.1 h1, HMS.out] at h2
                  cases h2
                  exact .inr ⟨hk, h3⟩
            have HKN2 : Hid (∀ s ∈ T.take (t + 1), Kno mkr L s) := Lib.hid fun y hy => by
              rw [HTK.out] at hy
              rcases List.mem_append.1 hy with hy | hy
              · exact HKN.out y hy
              · rw [List.mem_singleton.1 hy]
                exact .inr (by rw [HMS.out]; rfl)
            clear HW3 HWT HKN
            go_wp2_with fail
            go_roundw
            case rel => exact ⟨t + 1, b3, by omega, by go_num, HBW, HW4, HKN2, HB, HKP⟩
            case measure => simp [intOf]; omega
      | none =>
        simp only [hms, mkV] at hmr2
        have HMS := Lib.hid hms
        clear hms
        go_wp2_with fail
        go_region_held3 (fun w' => w'.cell? ⟨bb, 0, none⟩ = some (.slice a0 n k0) ∧ w'.cell? ⟨bb, 1, none⟩ = some u1 ∧ w'.cell? ⟨gS, oS + t, none⟩ = some (.string (mk s)))
          (first | exact k0' | exact k1)
          (first
            | (go_at_call 18; (with_reducible refine hmr2.mono ?_); rintro e w5 ⟨⟨rfl, hb5⟩, k1⟩))
        have s0' := k1.2.2
        clear hmr2 k0' k1 c0 c1 s0
        have HBW5 := Lib.hid (HBW.out.below hb5)
        have HB5 := Lib.hid (HB.out.trans (hb5.mono HB.out.size))
        have HKP5 := Lib.hid (HKP.out.trans (KeepN.below hb5))
        have hin := in_c (s := s) (StrsT.keepN HS4.out HKP5.out).1 (by omega)
        clear hb5 HBW HB HKP
        by_cases hsK : s ∈ K
        · rw [decide_eq_true hsK] at hin
          have HKN2 : Hid (∀ s ∈ T.take (t + 1), Kno mkr L s) := Lib.hid fun y hy => by
            rw [HTK.out] at hy
            rcases List.mem_append.1 hy with hy | hy
            · exact HKN.out y hy
            · rw [List.mem_singleton.1 hy]
              exact .inl ((HR4.out.mem s).1 hsK).1
          have HW4 : Hid (∀ k, k < n → (bw k = true ↔ ∃ s ∈ T.take (t + 1), ∃ y, mkr s = some y ∧ (k = y ∨ Tc (depsL mkr L) y k))) := Lib.hid fun k hk => by
            rw [HWT.out k hk, HTK.out]
            constructor
            · rintro ⟨s', h1, h2⟩
              exact ⟨s', List.mem_append.2 (.inl h1), h2⟩
            · rintro ⟨s', h1, y, h2, h3⟩
              rcases List.mem_append.1 h1 with h1 | h1
              · exact ⟨s', h1, y, h2, h3⟩
              · rw [List.mem_singleton.1 h1, HMS.out] at h2
                cases h2
          clear hsK HWT HKN HQ
          go_wp2_with fail
          refine hin.mono ?_
          rintro e w6 ⟨rfl, hb6⟩
          have HBW6 := Lib.hid (HBW5.out.below hb6)
          have HB6 := Lib.hid (HB5.out.trans (hb6.mono HB5.out.size))
          have HKP6 := Lib.hid (HKP5.out.trans (KeepN.below hb6))
          clear hin hb6 s0' HBW5 HB5 HKP5
          go_wp2_with fail
          go_loopw [11] (fun i W => i = .int .i64 0 ∧ Hid (Br w2 W gw n bw) ∧ Hid (Below w2.heap.size w2 W) ∧ Hid (KeepN w4 W)) (fun _ _ => 0)
          case atStart => exact ⟨rfl, HBW6, HB6, HKP6⟩
          case round =>
            clear HBW6 HB6 HKP6
            obtain ⟨rfl, HBW, HB, HKP⟩ := hrel
            by_cases hn0 : 0 < n
            · have hn1 : (0 : Int) < (n : Int) := by omega
              go_wp2_with fail
              go_roundw
              case rel => exact ⟨t + 1, bw, by omega, by go_num, HBW, HW4, HKN2, HB, HKP⟩
              case measure => simp [intOf]; omega
            · have hn1 : ¬ (0 : Int) < (n : Int) := by omega
              go_wp2_with fail
              go_roundw
              case rel => exact ⟨t + 1, bw, by omega, by go_num, HBW, HW4, HKN2, HB, HKP⟩
              case measure => simp [intOf]; omega
        · rw [decide_eq_false hsK] at hin
          have HF : Hid (∃ s ∈ T, ¬ Kno mkr L s) := Lib.hid ⟨s, by
            have : s ∈ T.take (t + 1) := by rw [HTK.out]; simp
            exact List.mem_of_mem_take this, fun h => by
            rcases h with h | h
            · exact hsK ((HR4.out.mem s).2 ⟨h, HMS.out⟩)
            · rw [HMS.out] at h
              cases h⟩
          clear hsK HWT HKN
          go_wp2_with fail
          refine hin.mono ?_
          rintro e w6 ⟨rfl, hb6⟩
          have HB6 := Lib.hid (HB5.out.trans (hb6.mono HB5.out.size))
          clear hin hb6 s0'
          go_wp2_with fail
          refine bodyPost_ret (v := .tuple #[.slice none 0 0, .int .i64 6]) (by simp [results, Try.f16, go_sem]) rfl ?_
          exact ⟨(HQ2.out.below HB6.out).bel, .inl ⟨HF.out, rfl⟩⟩
    · obtain rfl : t = T.length := by omega
      rw [List.take_length] at HWT HKN
      have hQ := HQ.out
      have c0 := hQ.c0
      obtain ⟨hmkD, hBrD⟩ := Br.made (w := w2) (W := wr) HB.out.size hl
      have hA5 := below_alloc wr (.cells (madeCells #[.bool false] n) 4)
      obtain ⟨w5, hw5⟩ : ∃ w5, wr.alloc (.cells (madeCells #[.bool false] n) 4) = w5 := ⟨_, rfl⟩
      obtain ⟨gd, hgd⟩ : ∃ gd, wr.heap.size = gd := ⟨_, rfl⟩
      have hgne : gw ≠ gd := by
        obtain ⟨_, D, hD⟩ := HBW.out.blk
        have := lt_some hD
        omega
      rw [hw5] at hmkD hBrD hA5
      have HW5 := Lib.hid hw5
      rw [hgd] at hmkD hBrD
      have HPS : Hid (Ps w2 w5 gw gd n bw (fun _ => false) (.slice none 0 0) []) := Lib.hid ⟨HBW.out.below hA5, hBrD, ⟨⟨none, 0, rfl⟩, World.ownsRow_nil _ _ _ _⟩, HB.out.trans (hA5.mono HB.out.size), hgne⟩
      obtain ⟨Mw, hMw⟩ : ∃ Mw, (List.range n).filter bw = Mw := ⟨_, rfl⟩
      have HMM : Hid (∀ k, k ∈ Mw ↔ k < n ∧ bw k = true) := Lib.hid fun k => by rw [← hMw]; simp
      have HMP : Hid (Mw.Pairwise (· < ·)) := Lib.hid (by rw [← hMw]; exact (range_rising n).sublist List.filter_sublist)
      have HRE : Hid (∀ x, x ∈ Mw ↔ Reach mkr L T x) := Lib.hid fun x => by
        rw [HMM.out, reach_iff]
        constructor
        · rintro ⟨h1, h2⟩
          exact (HWT.out x h1).1 h2
        · rintro ⟨s, h1, y, h2, h3⟩
          have hx : x < n := by
            rcases h3 with rfl | h3
            · obtain ⟨e, h4, -⟩ := (makers_iff HMK.out s x).1 h2
              have := (List.getElem?_eq_some_iff.1 h4).1
              rwa [HN.out] at this
            · exact h3.lt HDL.out
          exact ⟨hx, (HWT.out x hx).2 ⟨s, h1, y, h2, h3⟩⟩
      clear hQ hBrD hA5 hw5 hMw HBW HB HKP
      go_wp2_with fail
      clear HW5 hmkD c0 hgd
      go_loopw [12, 14, 15, 16, 17] (fun v _ _ _ _ W => ∃ (P : List Nat) (bd : Nat → Bool) (va : Option Addr) (vc : Nat), v = .slice va P.length vc ∧ Hid (Ps w2 W gw gd n bw bd (.slice va P.length vc) P) ∧ Hid (Gd (depsL mkr L) Mw P) ∧ Hid (∀ k, k < n → (bd k = true ↔ k ∈ P)) ∧ P.length ≤ n) (fun v _ _ _ _ _ => n - slLen v)
      case atStart => exact ⟨[], _, none, 0, rfl, HPS, Lib.hid Gd.nil, Lib.hid (fun k _ => by simp), Nat.zero_le _⟩
      case round =>
        clear HPS
        obtain ⟨P, bd, va, vc, rfl, HPS, HGD, HBD, hPl⟩ := hrel
        go_wp2_with fail
        go_loopw [14, 15, 16, 17] (fun x i _ _ W => ∃ k : Nat, k ≤ n ∧ i = .int .i64 k ∧ Hid (Ps w2 W gw gd n bw bd (.slice va P.length vc) P) ∧ (x = .int .i64 (-1) ∧ Hid (∀ j, j < k → ¬ Eg B bw bd n j) ∨ ∃ y : Nat, y < n ∧ x = .int .i64 (y : Int) ∧ Hid (Eg B bw bd n y ∧ ∀ j, j < y → ¬ Eg B bw bd n j))) (fun _ i _ _ _ => n - (intOf i).toNat)
        case atStart => exact ⟨0, Nat.zero_le _, rfl, HPS, .inl ⟨rfl, Lib.hid fun j h => by omega⟩⟩
        case round =>
          clear HPS
          obtain ⟨k, hk, rfl, HPS, ⟨rfl, HNO⟩ | ⟨y, hy, rfl, HY⟩⟩ := hrel
          · by_cases hlk : k < n
            · have t0 := HPS.out.wt.cell hlk
              have t1 := HPS.out.dn.cell hlk
              have q0 : (0 : Int) ≤ (k : Int) := by omega
              have q1 : (k : Int) < (n : Int) := by omega
              cases h1 : bw k with
              | false =>
                have HNO2 : Hid (∀ j, j < k + 1 → ¬ Eg B bw bd n j) := Lib.hid fun j hj => by
                  by_cases e : j = k
                  · subst e
                    intro h
                    rw [h.1] at h1
                    cases h1
                  · exact HNO.out j (by omega)
                rw [h1] at t0
                clear h1 t1 HNO
                go_wp2_with fail
                go_roundw
                case rel => exact ⟨k + 1, by omega, by go_num, HPS, .inl ⟨rfl, HNO2⟩⟩
                case measure => simp [intOf]; omega
              | true =>
                cases h2 : bd k with
                | true =>
                  have HNO2 : Hid (∀ j, j < k + 1 → ¬ Eg B bw bd n j) := Lib.hid fun j hj => by
                    by_cases e : j = k
                    · subst e
                      intro h
                      rw [h.2.1] at h2
                      cases h2
                    · exact HNO.out j (by omega)
                  rw [h1] at t0
                  rw [h2] at t1
                  clear h1 h2 HNO
                  go_wp2_with fail
                  go_roundw
                  case rel => exact ⟨k + 1, by omega, by go_num, HPS, .inl ⟨rfl, HNO2⟩⟩
                  case measure => simp [intOf]; omega
                | false =>
                  have HK1 := Lib.hid h1
                  have HK2 := Lib.hid h2
                  rw [h1] at t0
                  rw [h2] at t1
                  clear h1 h2
                  go_wp2_with fail
                  clear t0 t1
                  go_loopw [16, 17] (fun r i W => ∃ (j : Nat) (b : Bool), j ≤ n ∧ i = .int .i64 j ∧ r = .bool b ∧ Hid (b = true ↔ ∀ a, a < j → B k a = true → bd a = true) ∧ Hid (Ps w2 W gw gd n bw bd (.slice va P.length vc) P)) (fun _ i _ => n - (intOf i).toNat)
                  case atStart => exact ⟨0, true, Nat.zero_le _, rfl, rfl, Lib.hid (by simp), HPS⟩
                  case round =>
                    clear HPS
                    obtain ⟨j, b, hj, rfl, rfl, HR, HPS⟩ := hrel
                    by_cases hlj : j < n
                    · have hMr := HM.out.below HPS.out.bel
                      have t0 := hMr.cell0 hlk
                      have t1 := hMr.cell1 hlk hlj
                      have t2 := HPS.out.dn.cell hlj
                      have q2 : (0 : Int) ≤ (j : Int) := by omega
                      have q3 : (j : Int) < (n : Int) := by omega
                      cases b with
                      | false =>
                        have HR2 : Hid (false = true ↔ ∀ a, a < j + 1 → B k a = true → bd a = true) := Lib.hid ⟨fun h => (by cases h), fun h => HR.out.2 fun a ha => h a (by omega)⟩
                        clear hMr t0 t1 t2 HR
                        go_wp2_with fail
                        go_roundw
                        case rel => exact ⟨j + 1, false, by omega, by go_num, rfl, HR2, HPS⟩
                        case measure => simp [intOf]; omega
                      | true =>
                        cases h1 : B k j with
                        | false =>
                          have HR2 : Hid (true = true ↔ ∀ a, a < j + 1 → B k a = true → bd a = true) := Lib.hid ⟨fun _ a ha hb => by
                            by_cases e : a = j
                            · subst e
                              rw [h1] at hb
                              cases hb
                            · exact HR.out.1 rfl a (by omega) hb, fun _ => rfl⟩
                          rw [h1] at t1
                          clear hMr t2 HR h1
                          go_wp2_with fail
                          go_roundw
                          case rel => exact ⟨j + 1, true, by omega, by go_num, rfl, HR2, HPS⟩
                          case measure => simp [intOf]; omega
                        | true =>
                          have HR2 : Hid (bd j = true ↔ ∀ a, a < j + 1 → B k a = true → bd a = true) := Lib.hid ⟨fun hd a ha hb => by
                            by_cases e : a = j
                            · subst e
                              exact hd
                            · exact HR.out.1 rfl a (by omega) hb, fun h => h j (by omega) h1⟩
                          rw [h1] at t1
                          clear hMr HR h1
                          go_wp2_with fail
                          go_roundw
                          case rel => exact ⟨j + 1, bd j, by omega, by go_num, rfl, HR2, HPS⟩
                          case measure => simp [intOf]; omega
                    · obtain rfl : j = n := by omega
                      cases b with
                      | false =>
                        have HNO2 : Hid (∀ i, i < k + 1 → ¬ Eg B bw bd j i) := Lib.hid fun i hi => by
                          by_cases e : i = k
                          · subst e
                            intro h
                            have := HR.out.2 h.2.2
                            cases this
                          · exact HNO.out i (by omega)
                        clear HNO HR
                        go_wp2_with fail
                        go_roundw
                        case rel => exact ⟨k + 1, by omega, by go_num, HPS, .inl ⟨rfl, HNO2⟩⟩
                        case measure => simp [intOf]; omega
                      | true =>
                        have HY : Hid (Eg B bw bd j k ∧ ∀ i, i < k → ¬ Eg B bw bd j i) := Lib.hid ⟨⟨HK1.out, HK2.out, HR.out.1 rfl⟩, HNO.out⟩
                        clear HNO HR
                        go_wp2_with fail
                        go_roundw
                        case rel => exact ⟨k + 1, by omega, by go_num, HPS, .inr ⟨k, hlk, rfl, HY⟩⟩
                        case measure => simp [intOf]; omega
            · obtain rfl : k = n := by omega
              have HF : Hid (P = order (depsL mkr L) Mw) := Lib.hid (HGD.out.is_order HMP.out (fun u hu d hd => (HRE.out d).2 (.step ((HRE.out u).1 hu) hd)) (fun u hu => HAC.out u (by rw [HN.out]; exact ((HMM.out u).1 hu).1)) fun y hy hyP => Classical.byContradiction fun hn => by
                obtain ⟨h1, h2⟩ := (HMM.out y).1 hy
                refine HNO.out y h1 ⟨h2, ?_, fun a ha hb => (HBD.out a ha).2 (Classical.byContradiction fun h => hn ⟨a, (HBB.out y a h1 ha).1 hb, h⟩)⟩
                cases hbd : bd y with
                | false => rfl
                | true => exact absurd ((HBD.out y h1).1 hbd) hyP)
              go_wp2_with fail
              refine bodyPost_ret (v := .tuple #[.slice va P.length vc, .int .i64 0]) (by simp [results, Try.f16, go_sem]) rfl ?_
              refine ⟨(HQ2.out.below HPS.out.bel).bel, .inr ⟨HKN.out, _, rfl, fun M hM hMe => ?_⟩⟩
              rw [rise_eq hM HMP.out fun x => (hMe x).trans (HRE.out x).symm, ← HF.out]
              exact HPS.out.al.read
          · have hall : ∀ z, z ∈ Mw → (∀ j, Tc (depsL mkr L) z j → j ∈ P) → z ∉ P → Eg B bw bd n z := fun z hz hzt hzP => by
              obtain ⟨h1, h2⟩ := (HMM.out z).1 hz
              refine ⟨h2, ?_, fun a ha hb => (HBD.out a ha).2 (hzt a ((HBB.out z a h1 ha).1 hb))⟩
              cases hbd : bd z with
              | false => rfl
              | true => exact absurd ((HBD.out z h1).1 hbd) hzP
            have hyP : y ∉ P := fun h => by
              have h2 := (HBD.out y hy).2 h
              rw [HY.out.1.2.1] at h2
              cases h2
            have HG2 : Hid (Gd (depsL mkr L) Mw (P ++ [y])) := Lib.hid (HGD.out.snoc2 ((HMM.out y).2 ⟨hy, HY.out.1.1⟩) hyP (fun j hj => by
              have hjn := hj.lt HDL.out
              exact (HBD.out j hjn).1 (HY.out.1.2.2 j hjn ((HBB.out y j hy hjn).2 hj))) fun z hz hzP hzt => Classical.byContradiction fun hn => HY.out.2 z (by omega) (hall z hz hzt hzP))
            have HBD2 : Hid (∀ k, k < n → ((if k = y then true else bd k) = true ↔ k ∈ P ++ [y])) := Lib.hid fun k hk => by
              rw [List.mem_append, List.mem_singleton]
              by_cases e : k = y
              · rw [if_pos e]
                exact ⟨fun _ => .inr e, fun _ => rfl⟩
              · rw [if_neg e, HBD.out k hk]
                exact ⟨.inl, fun h => h.resolve_right e⟩
            have hlen : (P ++ [y]).length = P.length + 1 := by simp
            have hle : P.length + 1 ≤ n := by
              have := sub_len (B := List.range n) HG2.out.nd fun x hx => List.mem_range.2 ((HMM.out x).1 (HG2.out.sub x hx)).1
              rwa [hlen, List.length_range] at this
            have t0 := HPS.out.dn.cell hy
            have tf := HPS.out.dn.frz y
            have hm5 := HPS.out.mark y
            obtain ⟨W5, hW5⟩ : ∃ W5, wr.setCell ⟨gd, y, none⟩ (.bool true) = W5 := ⟨_, rfl⟩
            rw [hW5] at hm5
            have HW5 := Lib.hid hW5
            have hA6 := below_alloc W5 (.cells #[.int .i64 (y : Int)] 3)
            obtain ⟨a', c', W6, hrun, hp6⟩ := (hm5.below hA6).push (by omega) (heap_alloc_new W5 (.cells #[.int .i64 (y : Int)] 3))
            have HP6 := Lib.hid hp6
            have HLN := Lib.hid hlen
            have q0 : (0 : Int) ≤ (y : Int) := by omega
            have q1 : (y : Int) < (n : Int) := by omega
            have q2 : ¬ (y : Int) < 0 := by omega
            clear hall hyP hm5 hW5 hA6 hp6 hlen HGD HBD HPS HY
            have hcases : (k : Int) < (n : Int) ∨ ¬ (k : Int) < (n : Int) := by omega
            rcases hcases with hkk | hkk
            · go_upto_region 31 with fail
              rw [HW5.out]
              clear t0 tf HW5
              go_wp2_with (at_builtin; refine wpList_run rfl (.tmp 136) (.tmp 138) rfl rfl rfl hrun ?_)
              clear hrun
              go_roundw
              case rel => exact ⟨P ++ [y], _, a', c', by rw [HLN.out], HP6, HG2, HBD2, by rw [HLN.out]; exact hle⟩
              case measure => simp [slLen]; omega
            · go_upto_region 31 with fail
              rw [HW5.out]
              clear t0 tf HW5
              go_wp2_with (at_builtin; refine wpList_run rfl (.tmp 136) (.tmp 138) rfl rfl rfl hrun ?_)
              clear hrun
              go_roundw
              case rel => exact ⟨P ++ [y], _, a', c', by rw [HLN.out], HP6, HG2, HBD2, by rw [HLN.out]; exact hle⟩
              case measure => simp [slLen]; omega
end Go.Proofs.Ytbflodefmookiaa.Gr
