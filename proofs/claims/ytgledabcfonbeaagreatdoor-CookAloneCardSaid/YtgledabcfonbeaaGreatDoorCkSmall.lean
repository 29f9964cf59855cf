/-
  The laws' small functions: light, of; Find, and the document's.
-/
import Derived.Test.YtgledabcfonbeaaGreatDoorCkJ14
namespace Go.Proofs.YtgledabcfonbeaaGreatDoor.Df
open Go.RowKit Go.Maps Go.Proofs.YtgledabcfonbeaaGreatDoor

theorem Fls.at {w : World} {v : Value} {L : List Fl} {U : List Value} (h : Fls w v L U) {j : Nat} {x : Fl} (hx : L[j]? = some x) : ∃ g off c ua uc, v = .slice (some ⟨g, off, none⟩) L.length c ∧ g < w.heap.size ∧ U[j]? = some (.slice ua x.2.length uc) ∧ w.cell? ⟨g, off + j * 2, none⟩ = some (.string (mk x.1)) ∧ w.cell? ⟨g, off + j * 2 + 1, none⟩ = some (.slice ua x.2.length uc) ∧ Byt w (.slice ua x.2.length uc) x.2 := by
  obtain ⟨-, a, c, rfl, -, hrow⟩ := h
  rcases hrow with rfl | ⟨g, off, rfl, hg, hcell⟩
  · cases hx
  · obtain ⟨u, h1, h2, h3, h4⟩ := hcell j x hx
    obtain ⟨ua, uc, e, -⟩ := id h4
    subst e
    exact ⟨g, off, c, ua, uc, rfl, hg, h1, h2, h3, h4⟩

/-- are files few, and short? -/
def shortF (x : Fl) : Bool := decide (x.2.length ≤ 200) && decide (x.1.length ≤ 200)
def lightL (L : List Fl) : Bool := decide (L.length ≤ 10) && L.all shortF
set_option maxRecDepth 100000 in
set_option maxHeartbeats 4000000 in
theorem light_c {w : World} {v : Value} {L : List Fl} {U : List Value} (h : Fls w v L U) (hl : L.length ≤ 9223372036854775807) :
    Calls Tryz.prog 8 #[v] w fun e w' => e = .returned (.bool (lightL L)) ∧ w' = w := by
  have H := Lib.hid h
  obtain ⟨-, a, c, rfl, -, -⟩ := h
  by_cases h10 : L.length ≤ 10
  · have HE : Hid (lightL L = L.all shortF) := Lib.hid (by unfold lightL; rw [decide_eq_true h10]; rfl)
    have hgt : ¬ (10 : Int) < (L.length : Int) := by omega
    go_enter Tryz.func8, Tryz.ntmps8
    go_wp2_with fail
    go_loopw [3] (fun i wr => ∃ j : Nat, j ≤ L.length ∧ i = .int .i64 j ∧ wr = w ∧ Hid ((L.take j).all shortF = true)) (fun i _ => L.length - (intOf i).toNat)
    case atStart => refine ⟨0, Nat.zero_le _, ?_, ?_, Lib.hid (by simp)⟩ <;> first | rfl | trivial
    case round =>
      obtain ⟨j, hj, rfl, rfl, hA⟩ := hrel
      by_cases hlt : j < L.length
      · have hx := List.getElem?_eq_getElem hlt
        have hmem := List.getElem_mem hlt
        have htk : (L.take (j + 1)).all shortF = ((L.take j).all shortF && shortF L[j]) := by
          rw [List.take_add_one, hx, List.all_append]
          generalize L[j] = y
          simp
        generalize L[j] = x at *
        obtain ⟨g, off, c2, ua, uc, e, hg, -, c0, c1, hb⟩ := H.out.at hx
        cases e
        have hi0 : (0 : Int) ≤ (j : Int) := by omega
        have hi1 : (j : Int) < (L.length : Int) := by omega
        have HTK := Lib.hid htk
        have HMEM := Lib.hid hmem
        have hsz := mk_size x.1
        by_cases hb2 : x.2.length ≤ 200
        · by_cases hn2 : x.1.length ≤ 200
          · have hs : shortF x = true := by unfold shortF; rw [decide_eq_true hb2, decide_eq_true hn2]; rfl
            have HS := Lib.hid hs
            have d1 : ¬ (200 : Int) < (x.2.length : Int) := by omega
            have d2 : ¬ (200 : Int) < ((mk x.1).size : Int) := by rw [hsz]; omega
            have d3 : decide ((200 : Int) < (x.2.length : Int)) = false := decide_eq_false d1
            have d4 : decide ((200 : Int) < ((mk x.1).size : Int)) = false := decide_eq_false d2
            clear hx hmem htk hs hsz
            go_wp2_with fail
            go_roundw
            case rel => exact ⟨j + 1, by omega, by go_num, by first | rfl | trivial, Lib.hid (by rw [HTK.out, hA.out, HS.out]; rfl)⟩
            case measure => simp [intOf] <;> omega
          · have hs : shortF x = false := by unfold shortF; rw [decide_eq_false hn2, Bool.and_false]
            have HF : Hid (L.all shortF = false) := Lib.hid (by
              rw [List.all_eq_false]
              exact ⟨x, hmem, by rw [hs]; simp⟩)
            have d1 : ¬ (200 : Int) < (x.2.length : Int) := by omega
            have d3 : decide ((200 : Int) < (x.2.length : Int)) = false := decide_eq_false d1
            have d2 : (200 : Int) < ((mk x.1).size : Int) := by rw [hsz]; omega
            clear hx hmem htk hs hsz
            go_wp2_with fail
            go_ret
            exact ⟨by rw [HE.out, HF.out]; rfl, rfl⟩
        · have hs : shortF x = false := by unfold shortF; rw [decide_eq_false hb2]; rfl
          have HF : Hid (L.all shortF = false) := Lib.hid (by
            rw [List.all_eq_false]
            exact ⟨x, hmem, by rw [hs]; simp⟩)
          have d1 : (200 : Int) < (x.2.length : Int) := by omega
          clear hx hmem htk hs hsz
          go_wp2_with fail
          go_ret
          exact ⟨by rw [HE.out, HF.out]; rfl, rfl⟩
      · obtain rfl : j = L.length := by omega
        rw [List.take_length] at hA
        go_wp2_with fail
        go_ret
        exact ⟨by rw [HE.out, hA.out]; rfl, rfl⟩
  · have HE : Hid (lightL L = false) := Lib.hid (by unfold lightL; rw [decide_eq_false h10]; rfl)
    have hgt : (10 : Int) < (L.length : Int) := by omega
    go_enter Tryz.func8, Tryz.ntmps8
    go_wp2_with fail
    go_ret
    exact ⟨by rw [HE.out]; rfl, rfl⟩

/-- files of the call's own -/
def OwnFl (W : World) (base : Nat) (v : Value) (L : List Fl) : Prop :=
  ∃ (LL : List (Bs × Value)) (a : Option Addr) (c : Nat), v = .slice a LL.length c ∧ W.ownsRow base 52 2 (.slice a LL.length c) LL.length (fcells LL) ∧ LL.length = L.length ∧ ∀ (k : Nat) x, L[k]? = some x → ∃ u, LL[k]? = some (x.1, u) ∧ W.ownsRow base 5 1 u x.2.length (bytesV x.2)
theorem fcells_at : ∀ (LL : List (Bs × Value)) (k : Nat) (x : Bs) (u : Value), LL[k]? = some (x, u) → (fcells LL)[k * 2]? = some (.string (mk x)) ∧ (fcells LL)[k * 2 + 1]? = some u
  | [], k, x, u, h => by cases h
  | p :: LL, 0, x, u, h => by cases h; exact ⟨rfl, rfl⟩
  | p :: LL, k + 1, x, u, h => by
    have := fcells_at LL k x u h
    have e1 : (k + 1) * 2 = k * 2 + 1 + 1 := by omega
    rw [e1]
    exact this
theorem OwnFl.fls {W : World} {base : Nat} {v : Value} {L : List Fl} (h : OwnFl W base v L) : ∃ U, Fls W v L U ∧ ∀ u ∈ U, CapOk u := by
  obtain ⟨LL, a, c, rfl, hown, hlen, hat⟩ := h
  have hU : ∀ u ∈ LL.map Prod.snd, ∃ k x, LL[k]? = some (x, u) := fun u hu => by
    obtain ⟨p, hp, rfl⟩ := List.mem_map.1 hu
    obtain ⟨k, hk⟩ := List.getElem?_of_mem hp
    exact ⟨k, p.1, hk⟩
  have hE : ∀ u ∈ LL.map Prod.snd, ∃ n xs, W.ownsRow base 5 1 u n xs := fun u hu => by
    obtain ⟨k, x, hk⟩ := hU u hu
    have hkl : k < L.length := by rw [← hlen]; exact (List.getElem?_eq_some_iff.1 hk).1
    obtain ⟨u2, h2, h3⟩ := hat k _ (List.getElem?_eq_getElem hkl)
    rw [hk] at h2
    cases h2
    exact ⟨_, _, h3⟩
  refine ⟨LL.map Prod.snd, ⟨fun u hu => ?_, a, c, by rw [hlen], ?_, ?_⟩, fun u hu => ?_⟩
  · obtain ⟨n, xs, ho⟩ := hE u hu
    obtain ⟨a, c, e⟩ := own_slice ho
    exact ⟨_, _, _, e⟩
  · rw [← hlen]
    rcases hown.2 with ⟨e, h0⟩ | ⟨g, cap, cur, e, hb, hc, hle, _⟩
    · injection e with _ e2 _; omega
    · cases e; exact hle
  · rcases hown.2 with ⟨e, h0⟩ | ⟨g, cap, cur, e, hb, hc, hle, _⟩
    · exact .inl (List.eq_nil_of_length_eq_zero (by omega))
    · cases e
      refine .inr ⟨g, 0, rfl, lt_some hc, fun j x hx => ?_⟩
      obtain ⟨u, hu, ho⟩ := hat j x hx
      obtain ⟨f1, f2⟩ := fcells_at LL j x.1 u hu
      have g1 := hown.cells (g := g) rfl _ _ f1
      have g2 := hown.cells (g := g) rfl _ _ f2
      rw [Go.WideShapes.add_plain] at g1 g2
      exact ⟨u, by rw [List.getElem?_map, hu]; rfl, g1, g2, owns_byt ho⟩
  · obtain ⟨n, xs, ho⟩ := hE u hu
    intro a c2 n2 e
    rcases ho.2 with ⟨e1, _⟩ | ⟨g, cap, cur, e1, _, _, _, hcap, _⟩
    · rw [e] at e1; cases e1; omega
    · rw [e] at e1; cases e1; unfold maxLen at hcap; omega

set_option maxRecDepth 100000 in
set_option maxHeartbeats 16000000 in
theorem of_c {w : World} {v : Value} {L : List Fl} {U : List Value} (h : Fls w v L U) (hl : L.length ≤ 1000) (hb : ∀ x ∈ L, x.2.length ≤ 1000) :
    Calls Tryz.prog 10 #[v] w fun e w' => ∃ v', e = .returned v' ∧ OwnFl w' w.heap.size v' L ∧ Below w.heap.size w w' := by
  have H := Lib.hid h
  have HBL := Lib.hid hb
  obtain ⟨-, a, c, rfl, -, -⟩ := h
  clear hb
  go_enter Tryz.func10, Tryz.ntmps10
  go_wp2_with fail
  go_loopw [3, 4] (fun o i wr => ∃ (j : Nat) (LL : List (Bs × Value)) (oa : Option Addr) (oc : Nat), j ≤ L.length ∧ i = .int .i64 j ∧ o = .slice oa LL.length oc ∧ Hid (LL.length = j) ∧ Hid (wr.ownsRow w.heap.size 52 2 (.slice oa LL.length oc) LL.length (fcells LL)) ∧ Hid (∀ (k : Nat) x, k < j → L[k]? = some x → ∃ u, LL[k]? = some (x.1, u) ∧ wr.ownsRow w.heap.size 5 1 u x.2.length (bytesV x.2)) ∧ Hid (Below w.heap.size w wr)) (fun _ i _ => L.length - (intOf i).toNat)
  case atStart => exact ⟨0, [], none, 0, Nat.zero_le _, rfl, rfl, Lib.hid rfl, Lib.hid (World.ownsRow_nil _ _ _ _), Lib.hid (fun k x hk => absurd hk (Nat.not_lt_zero _)), Lib.hid (Below.refl _ _)⟩
  case round =>
    obtain ⟨j, LL, oa, oc, hj, rfl, rfl, hLL, HO, HAT, HB⟩ := hrel
    by_cases hlt : j < L.length
    · have hx := List.getElem?_eq_getElem hlt
      have hbx := HBL.out _ (List.getElem_mem hlt)
      generalize L[j] = x at *
      have HX := Lib.hid hx
      obtain ⟨g, off, c2, ua, uc, e, hg, -, c0, c1, hbyw⟩ := H.out.at hx
      cases e
      have hby := hbyw.below HB.out
      have hbd : Below wr.heap.size wr wr.drew := ⟨rfl, rfl, rfl, Nat.le_refl _, fun _ _ => rfl⟩
      have hA1 := below_alloc wr.drew (.cells #[] 5)
      have oA : (wr.drew.alloc (.cells #[] 5)).ownsRow wr.drew.heap.size 5 1 (.slice (some ⟨wr.drew.heap.size, 0, none⟩) ([] : Bs).length 0) ([] : Bs).length (bytesV []) := World.ownsRow_made wr.drew #[] 0 (Nat.le_refl _) (by unfold maxLen; omega) rfl
      obtain ⟨a', c', W1, hrun1, ho1, hg1⟩ := run_appB oA hA1.size ((hby.below hbd).below hA1) (by simp; omega)
      rw [List.nil_append] at hrun1 ho1
      have hrun1' : (Builtin.append_ #[24, 24] 24 #[.slice (some ⟨wr.heap.size, 0, none⟩) 0 0, .slice ua x.2.length uc]).run Tryz.prog (wr.drew.alloc (.cells #[] 5)) = .ok (.slice a' x.2.length c') W1 := hrun1
      have hb1 : Below wr.heap.size wr W1 := by
        have h1 : Below wr.heap.size wr (wr.drew.alloc (.cells #[] 5)) := ⟨rfl, rfl, rfl, hA1.size, fun q hq => hA1.block q hq⟩
        exact h1.trans ⟨hg1.os, hg1.tape, hg1.output, hg1.size, fun q hq => hg1.block q (Nat.lt_of_lt_of_le hq h1.size) (fun e => by
          have e2 : q = wr.heap.size := Option.some.inj e
          omega)⟩
      have hF1 := owns_below HO.out hb1
      obtain ⟨a9, c9, W2, hrun2, hF2, hg2⟩ := run_appF hF1 (Nat.le_trans HB.out.size hb1.size) (by have := hLL.out; omega) x.1 (ba := a') (bn := x.2.length) (bc := c')
      have hA2 := below_alloc W1 (.cells #[.string (mk x.1), .slice a' x.2.length c'] 52)
      have hown : ∀ g, (Value.slice oa LL.length oc).ownBlock = some g → w.heap.size ≤ g ∧ ∃ cur, (W1.alloc (.cells #[.string (mk x.1), .slice a' x.2.length c'] 52)).heap[g]? = some (Obj.cells cur 52 (0, 0)) := fun g hg => owns_block (owns_below hF1 hA2) hg
      have hK2 : Kp [52] W1 W2 := (Kp.of_below hA2).trans (Kp.of_grown hg2 (fun g hg => by
        obtain ⟨_, cur, hc⟩ := hown g hg
        exact ⟨cur, _, hc⟩) (by decide))
      have hB2 : Below w.heap.size w W2 := by
        have h1 := (HB.out.trans (hb1.mono HB.out.size)).trans (hA2.mono (Nat.le_trans HB.out.size hb1.size))
        exact h1.trans ⟨hg2.os, hg2.tape, hg2.output, hg2.size, fun q hq => hg2.block q (Nat.lt_of_lt_of_le hq h1.size) (fun e => by
          have := (hown q e.symm).1
          omega)⟩
      have hS : ∀ W, Below w.heap.size w W → W.cell? ⟨g, off + j * 2, none⟩ = some (.string (mk x.1)) ∧ W.cell? ⟨g, off + j * 2 + 1, none⟩ = some (.slice ua x.2.length uc) := fun W hW => ⟨(cell_of_block (hW.block _ hg)).trans c0, (cell_of_block (hW.block _ hg)).trans c1⟩
      have hwS := HB.out.size
      have S0 := hS wr.drew (HB.out.trans (hbd.mono hwS))
      have S1 := hS (wr.drew.alloc (.cells #[] 5)) ((HB.out.trans (hbd.mono hwS)).trans (hA1.mono hwS))
      have S2 := hS W1 (HB.out.trans (hb1.mono hwS))
      have S3 := hS (W1.alloc (.cells #[.string (mk x.1), .slice a' x.2.length c'] 52)) ((HB.out.trans (hb1.mono hwS)).trans (hA2.mono (Nat.le_trans hwS hb1.size)))
      have S4 := hS W2 hB2
      have HR1 := Lib.hid hrun1'
      have HR2 := Lib.hid hrun2
      have HATN : Hid (∀ (k : Nat) y, k < j + 1 → L[k]? = some y → ∃ u, (LL ++ [(x.1, Value.slice a' x.2.length c')])[k]? = some (y.1, u) ∧ W2.ownsRow w.heap.size 5 1 u y.2.length (bytesV y.2)) := Lib.hid fun k y hk hy => by
        by_cases hkj : k < j
        · obtain ⟨u, hu, ho⟩ := HAT.out k y hkj hy
          refine ⟨u, by rw [List.getElem?_append_left (by have := hLL.out; omega)]; exact hu, ?_⟩
          exact owns_kept (owns_below ho hb1) fun g hg => by
            obtain ⟨_, cur, hc⟩ := owns_block (owns_below ho hb1) hg
            exact (hK2.keep _ _ hc (fun C t f e => by cases e; decide)).trans hc.symm
        · obtain rfl : k = j := by omega
          rw [HX.out] at hy
          cases hy
          refine ⟨_, by rw [List.getElem?_append_right (by have := hLL.out; omega), hLL.out, Nat.sub_self]; rfl, ?_⟩
          have ho := owns_lower ho1 (show w.heap.size ≤ wr.drew.heap.size from HB.out.size)
          exact owns_kept ho fun g hg => by
            obtain ⟨_, cur, hc⟩ := owns_block ho hg
            exact (hK2.keep _ _ hc (fun C t f e => by cases e; decide)).trans hc.symm
      have HF2 := Lib.hid hF2
      have HB2 := Lib.hid hB2
      have hi0 : (0 : Int) ≤ (j : Int) := by omega
      have hi1 : (j : Int) < (L.length : Int) := by omega
      clear hbd hA1 oA hrun1 ho1 hg1 hrun1' hb1 hF1 hrun2 hF2 hg2 hA2 hown hK2 hB2 hS hx hby hbyw c0 c1 hwS
      go_wp2_with fail
      refine Nt.wp_region_N 16 (fun w' => w'.cell? ⟨g, off + j * 2, none⟩ = some (.string (mk x.1)) ∧ w'.cell? ⟨g, off + j * 2 + 1, none⟩ = some (.slice ua x.2.length uc)) (by kernel_rfl) ?_
      refine Nt.takeT (i := 0) (oi := { dst := some 11, op := Op.move (Operand.tmp 3), type := 27, pos := _, after := #[], guard := Option.none }) (v := ?_) rfl (by kernel_rfl) (by kernel_rfl) (by kernel_rfl) (by kernel_rfl) (fun _ _ _ h => h) (Or.inl ⟨by rfl, ?_⟩) (fun _ => S0) ?_
      rotate_left 1
      · intro w hSw
        try dsimp only at hSw
        go_simp
        first | done | with_reducible rfl
      try simp only [Act.put, List.setIfInBounds_toArray, List.set_cons_zero, List.set_cons_succ]
      refine Nt.takeT (i := 1) (oi := { dst := some 12, op := Op.move (Operand.tmp 0), type := 22, pos := _, after := #[], guard := Option.none }) (v := ?_) rfl (by kernel_rfl) (by kernel_rfl) (by kernel_rfl) (by kernel_rfl) (fun _ _ _ h => h) (Or.inl ⟨by rfl, ?_⟩) (fun _ => S0) ?_
      rotate_left 1
      · intro w hSw
        try dsimp only at hSw
        go_simp
        first | done | with_reducible rfl
      try simp only [Act.put, List.setIfInBounds_toArray, List.set_cons_zero, List.set_cons_succ]
      refine Nt.takeT (i := 2) (oi := { dst := some 13, op := Op.move (Operand.tmp 4), type := 3, pos := _, after := #[], guard := Option.none }) (v := ?_) rfl (by kernel_rfl) (by kernel_rfl) (by kernel_rfl) (by kernel_rfl) (fun _ _ _ h => h) (Or.inl ⟨by rfl, ?_⟩) (fun _ => S0) ?_
      rotate_left 1
      · intro w hSw
        try dsimp only at hSw
        go_simp
        first | done | with_reducible rfl
      try simp only [Act.put, List.setIfInBounds_toArray, List.set_cons_zero, List.set_cons_succ]
      refine Nt.takeT (i := 3) (oi := { dst := some 14, op := Op.indexAddr 22 (Operand.tmp 12) (Operand.tmp 13), type := 0, pos := _, after := #[{ on := 1, ground := Ground.data }, { on := 2, ground := Ground.data }], guard := Option.none }) (v := ?_) rfl (by kernel_rfl) (by kernel_rfl) (by kernel_rfl) (by kernel_rfl) (fun _ _ _ h => h) (Or.inl ⟨by rfl, ?_⟩) (fun _ => S0) ?_
      rotate_left 1
      · intro w hSw
        try dsimp only at hSw
        go_simp
        first | done | with_reducible rfl
      try simp only [Act.put, List.setIfInBounds_toArray, List.set_cons_zero, List.set_cons_succ]
      refine Nt.takeT (i := 4) (oi := { dst := some 15, op := Op.fieldAddr 45 (Operand.tmp 14) 0, type := 0, pos := _, after := #[{ on := 3, ground := Ground.data }], guard := Option.none }) (v := ?_) rfl (by kernel_rfl) (by kernel_rfl) (by kernel_rfl) (by kernel_rfl) (fun _ _ _ h => h) (Or.inl ⟨by rfl, ?_⟩) (fun _ => S0) ?_
      rotate_left 1
      · intro w hSw
        try dsimp only at hSw
        go_simp
        first | done | with_reducible rfl
      try simp only [Act.put, List.setIfInBounds_toArray, List.set_cons_zero, List.set_cons_succ]
      refine Nt.takeS (i := 5) (oi := { dst := some 16, op := Op.load 9 (Operand.tmp 15), type := 9, pos := _, after := #[{ on := 4, ground := Ground.data }], guard := Option.none }) (v := ?_) rfl (by kernel_rfl) (by kernel_rfl) (by kernel_rfl) (by kernel_rfl) (by kernel_rfl) (by kernel_rfl) (fun _ _ _ h => h) (Or.inl ⟨by rfl, ?_⟩) S0 ?_
      rotate_left 1
      · intro w hSw
        try dsimp only at hSw
        go_simp
        first | done | with_reducible rfl
      try simp only [Act.put, List.setIfInBounds_toArray, List.set_cons_zero, List.set_cons_succ]
      refine Nt.takeT (i := 7) (oi := { dst := some 18, op := Op.move (Operand.tmp 0), type := 22, pos := _, after := #[], guard := Option.none }) (v := ?_) rfl (by kernel_rfl) (by kernel_rfl) (by kernel_rfl) (by kernel_rfl) (fun _ _ _ h => h) (Or.inl ⟨by rfl, ?_⟩) (fun _ => S0) ?_
      rotate_left 1
      · intro w hSw
        try dsimp only at hSw
        go_simp
        first | done | with_reducible rfl
      try simp only [Act.put, List.setIfInBounds_toArray, List.set_cons_zero, List.set_cons_succ]
      refine Nt.takeT (i := 8) (oi := { dst := some 19, op := Op.move (Operand.tmp 4), type := 3, pos := _, after := #[], guard := Option.none }) (v := ?_) rfl (by kernel_rfl) (by kernel_rfl) (by kernel_rfl) (by kernel_rfl) (fun _ _ _ h => h) (Or.inl ⟨by rfl, ?_⟩) (fun _ => S0) ?_
      rotate_left 1
      · intro w hSw
        try dsimp only at hSw
        go_simp
        first | done | with_reducible rfl
      try simp only [Act.put, List.setIfInBounds_toArray, List.set_cons_zero, List.set_cons_succ]
      refine Nt.takeT (i := 9) (oi := { dst := some 20, op := Op.indexAddr 22 (Operand.tmp 18) (Operand.tmp 19), type := 0, pos := _, after := #[{ on := 7, ground := Ground.data }, { on := 8, ground := Ground.data }], guard := Option.none }) (v := ?_) rfl (by kernel_rfl) (by kernel_rfl) (by kernel_rfl) (by kernel_rfl) (fun _ _ _ h => h) (Or.inl ⟨by rfl, ?_⟩) (fun _ => S0) ?_
      rotate_left 1
      · intro w hSw
        try dsimp only at hSw
        go_simp
        first | done | with_reducible rfl
      try simp only [Act.put, List.setIfInBounds_toArray, List.set_cons_zero, List.set_cons_succ]
      refine Nt.takeT (i := 10) (oi := { dst := some 21, op := Op.fieldAddr 45 (Operand.tmp 20) 1, type := 0, pos := _, after := #[{ on := 9, ground := Ground.data }], guard := Option.none }) (v := ?_) rfl (by kernel_rfl) (by kernel_rfl) (by kernel_rfl) (by kernel_rfl) (fun _ _ _ h => h) (Or.inl ⟨by rfl, ?_⟩) (fun _ => S0) ?_
      rotate_left 1
      · intro w hSw
        try dsimp only at hSw
        go_simp
        first | done | with_reducible rfl
      try simp only [Act.put, List.setIfInBounds_toArray, List.set_cons_zero, List.set_cons_succ]
      refine Nt.takeS (i := 11) (oi := { dst := some 22, op := Op.load 24 (Operand.tmp 21), type := 24, pos := _, after := #[{ on := 10, ground := Ground.data }], guard := Option.none }) (v := ?_) rfl (by kernel_rfl) (by kernel_rfl) (by kernel_rfl) (by kernel_rfl) (by kernel_rfl) (by kernel_rfl) (fun _ _ _ h => h) (Or.inl ⟨by rfl, ?_⟩) S0 ?_
      rotate_left 1
      · intro w hSw
        try dsimp only at hSw
        go_simp
        first | done | with_reducible rfl
      try simp only [Act.put, List.setIfInBounds_toArray, List.set_cons_zero, List.set_cons_succ]
      refine Nt.nextN (i := 6) (by kernel_rfl) rfl (fun K hK => ?_)
      go_simp
      refine hK.out _ _ (fun _ => S1) ?_
      clear hK K
      try simp only [Act.put, List.setIfInBounds_toArray, List.set_cons_zero, List.set_cons_succ]
      refine Nt.nextN (i := 12) (by kernel_rfl) rfl (fun K hK => ?_)
      refine step_run2 rfl (.tmp 17) (.tmp 22) rfl (by simp [Act.eval]) (by simp [Act.eval]) HR1.out ?_
      refine hK.out _ _ (fun _ => S2) ?_
      clear hK K
      try simp only [Act.put, List.setIfInBounds_toArray, List.set_cons_zero, List.set_cons_succ]
      refine Nt.takeT (i := 13) (oi := { dst := some 24, op := Op.build 52 #[(0, Operand.tmp 16), (1, Operand.tmp 23)], type := 52, pos := _, after := #[{ on := 5, ground := Ground.data }, { on := 12, ground := Ground.data }], guard := Option.none }) (v := ?_) rfl (by kernel_rfl) (by kernel_rfl) (by kernel_rfl) (by kernel_rfl) (fun _ _ _ h => h) (Or.inl ⟨by rfl, ?_⟩) (fun _ => S2) ?_
      rotate_left 1
      · intro w hSw
        try dsimp only at hSw
        go_simp
        first | done | with_reducible rfl
      try simp only [Act.put, List.setIfInBounds_toArray, List.set_cons_zero, List.set_cons_succ]
      refine Nt.nextN (i := 14) (by kernel_rfl) rfl (fun K hK => ?_)
      go_simp
      refine hK.out _ _ (fun _ => S3) ?_
      clear hK K
      try simp only [Act.put, List.setIfInBounds_toArray, List.set_cons_zero, List.set_cons_succ]
      refine Nt.nextN (i := 15) (by kernel_rfl) rfl (fun K hK => ?_)
      refine step_run2 rfl (.tmp 11) (.tmp 25) rfl (by simp [Act.eval]) (by simp [Act.eval]) HR2.out ?_
      refine hK.out _ _ (fun _ => S4) ?_
      clear hK K
      try simp only [Act.put, List.setIfInBounds_toArray, List.set_cons_zero, List.set_cons_succ]
      refine Nt.nextN (i := 16) (by kernel_rfl) rfl (fun K hK => ?_)
      go_simp
      refine hK.out _ _ (fun h => by simp at h) ?_
      clear hK K
      try simp only [Act.put, List.setIfInBounds_toArray, List.set_cons_zero, List.set_cons_succ]
      refine Nt.doneN (by kernel_rfl) ?_ _
      go_wp2_with fail
      obtain ⟨L1, hL1⟩ : ∃ L1, LL ++ [(x.1, Value.slice a' x.2.length c')] = L1 := ⟨_, rfl⟩
      have e1 : L1.length = LL.length + 1 := by rw [← hL1]; simp
      rw [hL1] at HF2 HATN
      go_roundw
      case rel => exact ⟨j + 1, L1, a9, c9, by omega, by go_num, by rw [e1], Lib.hid (by have := hLL.out; omega), HF2, HATN, HB2⟩
      case measure => simp [intOf] <;> omega
    · obtain rfl : j = L.length := by omega
      go_wp2_with fail
      go_ret
      exact ⟨_, rfl, ⟨LL, oa, oc, rfl, HO.out, hLL.out, fun k x hx => HAT.out k x (List.getElem?_eq_some_iff.1 hx).1 hx⟩, HB.out⟩
end Go.Proofs.YtgledabcfonbeaaGreatDoor.Df
