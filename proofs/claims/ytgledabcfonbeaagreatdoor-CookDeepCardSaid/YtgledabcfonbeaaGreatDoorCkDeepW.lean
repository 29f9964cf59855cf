/-
  The walk of CookDeep.
-/
import Derived.Test.YtgledabcfonbeaaGreatDoorCkDeepF
namespace Go.Proofs.YtgledabcfonbeaaGreatDoor.Df
open Go.RowKit Go.Maps Go.Proofs.YtgledabcfonbeaaGreatDoor

theorem u8_nat {z : Int} (h : (Lit.int .u8 z).wf = true) : ∃ m : Nat, m < 256 ∧ z = (m : Int) := by
  have h2 : (decide (0 ≤ z) && decide (z ≤ 255)) = true := h
  rw [Bool.and_eq_true, decide_eq_true_iff, decide_eq_true_iff] at h2
  exact ⟨z.toNat, by omega, by omega⟩
/-- what holds of CookDeep's first loop -/
def DRel (w : World) (n : Nat) (b : Bool) (o i : Value) (wr : World) : Prop := ∃ (j : Nat) (LL : List (Bs × Value)) (oa : Option Addr) (oc : Nat), j ≤ n + 1 ∧ i = .int .i64 j ∧ o = .slice oa LL.length oc ∧ Hid (LL.length = j) ∧ Hid (wr.ownsRow w.heap.size 52 2 (.slice oa LL.length oc) LL.length (fcells LL)) ∧ Hid (∀ (k : Nat) x, k < j → (deepL n b)[k]? = some x → ∃ u, LL[k]? = some (x.1, u) ∧ wr.ownsRow w.heap.size 5 1 u x.2.length (bytesV x.2)) ∧ Hid (Below w.heap.size w wr)
/-- of its second, and of its third -/
def DRel2 (w3 : World) (n : Nat) (s d i : Value) (wr : World) : Prop := ∃ j : Nat, j ≤ n + 1 ∧ i = .int .i64 j ∧ s = .string (mk (wantA j)) ∧ d = .string (mk (depsA j)) ∧ Hid (Below w3.heap.size w3 wr)
def DRel3 (wr : World) (n : Nat) (wa : Bs) (s i : Value) (wr2 : World) : Prop := ∃ k : Nat, k ≤ n ∧ i = .int .i64 k ∧ s = .string (mk (wa ++ List.replicate k 46)) ∧ wr = wr2

set_option maxRecDepth 100000 in
set_option maxHeartbeats 16000000 in
theorem deep_c {w : World} {m : Nat} (hm : m < 256) (b : Bool) :
    Calls Tryz.prog 6 #[.int .u8 m, .bool b] w fun e w' => e = .returned (.bool true) ∧ Below w.heap.size w w' := by
  obtain ⟨n, hn, hmn⟩ : ∃ n : Nat, n < 14 ∧ ((m : Int) % 14) = (n : Int) := ⟨m % 14, Nat.mod_lt _ (by decide), by omega⟩
  go_enter Tryz.func6, Tryz.ntmps6
  go_wp2_with fail
  rw [hmn]
  clear hmn
  go_loopw [6, 7, 8] (fun o i _ wr => DRel w n b o i wr) (fun _ i _ _ => n + 1 - (intOf i).toNat)
  case atStart => exact ⟨0, [], none, 0, Nat.zero_le _, rfl, rfl, Lib.hid rfl, Lib.hid (World.ownsRow_nil _ _ _ _), Lib.hid (fun k x hk => absurd hk (Nat.not_lt_zero _)), Lib.hid (Below.refl _ _)⟩
  case round =>
    obtain ⟨j, LL, oa, oc, hj, rfl, rfl, hLL, HO, HAT, HB⟩ := hrel
    by_cases hlt : j ≤ n
    · have hjn : (j : Int) ≤ (n : Int) := by omega
      have HJ := Lib.hid hlt
      by_cases hlt2 : j < n
      · have hjn2 : (j : Int) < (n : Int) := by omega
        obtain ⟨a', c', W0, W1, W2, q, s1, hW0, hW1, hcv0, hct1, hct2, hql, hsl, hap0, ho2, hb2⟩ := deep_next (wr := wr) (b := b) hn hlt2
        obtain ⟨a9, c9, W3, W4, W5, L1, hW3, hcv, hW4, hap, hL1, HO1, HAT1, HB1⟩ := deep_step hn HJ.out hLL.out HO.out HAT.out HB.out hb2 ho2
        obtain ⟨q1, hq1⟩ : ∃ q1, [ch j] = q1 := ⟨_, rfl⟩
        obtain ⟨s2, hs2⟩ : ∃ s2, [102, ch j] = s2 := ⟨_, rfl⟩
        have hct : (⟨#[102]⟩ : ByteArray) ++ mk q1 = mk s2 := by rw [← hq1, ← hs2]; exact mk_append [102] _
        have hbg1 : ¬ 9223372036854775807 < (⟨#[102]⟩ : ByteArray).size + (mk q1).size := by rw [mk_size, ← hq1]; exact (by decide : ¬ 9223372036854775807 < 1 + 1)
        have HL1 := Lib.hid hL1
        have HO9 := Lib.hid HO1
        have HAT9 := Lib.hid HAT1
        have HB9 := Lib.hid HB1
        rw [hq1] at hcv
        rw [hs2] at hW4
        clear hq1 hs2 hb2 ho2 hL1 HO1 HAT1 HB1
        generalize (fileB n b j).length = LF at *
        have hI : (⟨#[35, 105, 110, 99, 108, 117, 100, 101, 32, 102]⟩ : ByteArray).size + (mk q).size = 11 := by rw [mk_size, hql]; rfl
        have hbg2 : ¬ 9223372036854775807 < (⟨#[35, 105, 110, 99, 108, 117, 100, 101, 32, 102]⟩ : ByteArray).size + (mk q).size := by rw [hI]; decide
        have hbg3 : ¬ 9223372036854775807 < (mk (inF ++ q)).size + (⟨#[10, 46]⟩ : ByteArray).size := by rw [mk_size, List.length_append, hql]; decide
        generalize inF ++ q = s0 at *
        clear hI hql hsl hlt hlt2
        go_wp2_with (at_builtin; first | refine wpList_run rfl (.tmp 43) (.tmp 52) rfl rfl rfl hap ?_ | refine wpList_run rfl (.tmp 30) (.tmp 38) rfl rfl rfl hap0 ?_)
        go_roundw
        case rel => exact ⟨j + 1, L1, a9, c9, by have := HJ.out; omega, by go_num, rfl, HL1, HO9, HAT9, HB9⟩
        case measure => have := HJ.out; simp [intOf] <;> omega
      · obtain rfl : j = n := by omega
        have hjn3 : ¬ (j : Int) < (j : Int) := by omega
        cases b with
        | true =>
        obtain ⟨a', c', W0, W2, hW0, hap0, ho2, hb2⟩ := deep_last (wr := wr) hn
        obtain ⟨a9, c9, W3, W4, W5, L1, hW3, hcv, hW4, hap, hL1, HO1, HAT1, HB1⟩ := deep_step hn HJ.out hLL.out HO.out HAT.out HB.out hb2 ho2
        obtain ⟨q1, hq1⟩ : ∃ q1, [ch j] = q1 := ⟨_, rfl⟩
        obtain ⟨s2, hs2⟩ : ∃ s2, [102, ch j] = s2 := ⟨_, rfl⟩
        have hct : (⟨#[102]⟩ : ByteArray) ++ mk q1 = mk s2 := by rw [← hq1, ← hs2]; exact mk_append [102] _
        have hbg1 : ¬ 9223372036854775807 < (⟨#[102]⟩ : ByteArray).size + (mk q1).size := by rw [mk_size, ← hq1]; exact (by decide : ¬ 9223372036854775807 < 1 + 1)
        have HL1 := Lib.hid hL1
        have HO9 := Lib.hid HO1
        have HAT9 := Lib.hid HAT1
        have HB9 := Lib.hid HB1
        rw [hq1] at hcv
        rw [hs2] at hW4
        clear hq1 hs2 hb2 ho2 hL1 HO1 HAT1 HB1
        generalize (fileB j true j).length = LF at *
        clear hlt hlt2
        go_wp2_with (at_builtin; first | refine wpList_run rfl (.tmp 43) (.tmp 52) rfl rfl rfl hap ?_ | refine wpList_run rfl (.tmp 41) (.const (.string ⟨#[35, 105, 110, 99, 108, 117, 100, 101, 32, 102, 97]⟩)) rfl rfl rfl hap0 ?_)
        go_roundw
        case rel => exact ⟨j + 1, L1, a9, c9, by have := HJ.out; omega, by go_num, rfl, HL1, HO9, HAT9, HB9⟩
        case measure => have := HJ.out; simp [intOf] <;> omega
        | false =>
        obtain ⟨W0, hW0, ho2, hb2, hlen⟩ := deep_plain (wr := wr) hn
        obtain ⟨a9, c9, W3, W4, W5, L1, hW3, hcv, hW4, hap, hL1, HO1, HAT1, HB1⟩ := deep_step hn HJ.out hLL.out HO.out HAT.out HB.out hb2 ho2
        obtain ⟨q1, hq1⟩ : ∃ q1, [ch j] = q1 := ⟨_, rfl⟩
        obtain ⟨s2, hs2⟩ : ∃ s2, [102, ch j] = s2 := ⟨_, rfl⟩
        have hct : (⟨#[102]⟩ : ByteArray) ++ mk q1 = mk s2 := by rw [← hq1, ← hs2]; exact mk_append [102] _
        have hbg1 : ¬ 9223372036854775807 < (⟨#[102]⟩ : ByteArray).size + (mk q1).size := by rw [mk_size, ← hq1]; exact (by decide : ¬ 9223372036854775807 < 1 + 1)
        have HL1 := Lib.hid hL1
        have HO9 := Lib.hid HO1
        have HAT9 := Lib.hid HAT1
        have HB9 := Lib.hid HB1
        rw [hq1] at hcv
        rw [hs2] at hW4
        clear hq1 hs2 hb2 ho2 hL1 HO1 HAT1 HB1
        rw [hlen] at hW4
        clear hlt hlt2 hlen
        go_wp2_with (at_builtin; refine wpList_run rfl (.tmp 43) (.tmp 52) rfl rfl rfl hap ?_)
        go_roundw
        case rel => exact ⟨j + 1, L1, a9, c9, by have := HJ.out; omega, by go_num, rfl, HL1, HO9, HAT9, HB9⟩
        case measure => have := HJ.out; simp [intOf] <;> omega
    · obtain rfl : j = n + 1 := by omega
      have hjn : ¬ ((n + 1 : Nat) : Int) ≤ (n : Int) := by omega
      have hOwn : OwnFl wr w.heap.size (.slice oa LL.length oc) (deepL n b) := ⟨LL, oa, oc, rfl, HO.out, by rw [deepL_length]; exact hLL.out, fun k x hx => HAT.out k x (by have := (List.getElem?_eq_some_iff.1 hx).1; rw [deepL_length] at this; exact this) hx⟩
      obtain ⟨W1, hW1⟩ : ∃ W, wr.alloc (.cells #[.string ⟨#[102, 97]⟩] 9) = W := ⟨_, rfl⟩
      have b1 : Below wr.heap.size wr W1 := by rw [← hW1]; exact below_alloc _ _
      have n1 : W1.heap[wr.heap.size]? = some (.cells #[.string ⟨#[102, 97]⟩] 9 (0, 0)) := by rw [← hW1]; exact heap_alloc_new _ _
      have hdec : Strs W1 (.slice (some ⟨wr.heap.size, 0, none⟩) 1 1) [[102, 97]] := ⟨_, 1, rfl, Nat.le_refl _, .inr ⟨wr.heap.size, 0, rfl, lt_some n1, fun j p hp => by
        match j, hp with
        | 0, hp => cases hp; exact cell_of_heap n1⟩⟩
      obtain ⟨U, hf, hcapU⟩ := hOwn.fls
      have ck := cook_a (H := fun x => x) (s := sDeep) (by decide) hdec (hf.below b1) (by decide) (fun z hz => by rw [List.mem_singleton.1 hz]; decide) (by rw [deepL_length]; omega) (fun x hx => by have := deepL_small hx; omega) (fun x hx => by have := deepL_small hx; omega) (fun u hu a n c e => hcapU u hu a n c e) (fun o ho => SumC.not (by rw [read_deep] at ho; cases ho; decide))
      rw [eval_deep hn] at ck
      have HB1 := Lib.hid (HB.out.trans (b1.mono HB.out.size))
      clear hOwn b1 n1 hdec hf hcapU HO HAT HB hlt
      cases hbz : (b || decide (10 < n)) with
      | true =>
        rw [hbz, if_pos rfl] at ck
        have ct : Calls Tryz.prog 13 #[.string ⟨#[105, 110, 99, 32, 102, 97, 32, 62, 32, 111, 32, 58, 32, 111, 46, 100]⟩, .slice (some ⟨wr.heap.size, 0, none⟩) 1 1, .slice oa LL.length oc] W1 fun e w' => e = .returned (.tuple #[.agg #[.slice none 0 0, .bool false, .string ⟨#[]⟩, .string ⟨#[]⟩], .int .i64 13]) ∧ Below W1.heap.size W1 w' := ck.mono fun e w' h => by
          obtain ⟨⟨C, er, h1, h2⟩, h3⟩ := h
          obtain ⟨h4, h5⟩ : er = 13 ∧ C = zDish := h2
          rw [h4, h5] at h1
          exact ⟨h1, h3⟩
        clear ck
        cases b with
        | true =>
          clear hbz
          go_wp2_with fail
          refine ct.mono ?_
          rintro e w2 ⟨rfl, hb2⟩
          clear ct hW1
          go_upto_region 13 with fail
          obtain ⟨w3, hw3⟩ : ∃ W, w2.alloc (.cells #[.slice none 0 0, .bool false, .string ⟨#[]⟩, .string ⟨#[]⟩] 36) = W := ⟨_, rfl⟩
          rw [hw3]
          have n3 : w3.heap[w2.heap.size]? = some (.cells #[.slice none 0 0, .bool false, .string ⟨#[]⟩, .string ⟨#[]⟩] 36 (0, 0)) := by rw [← hw3]; exact heap_alloc_new _ _
          have e1 : w3.cell? ⟨w2.heap.size, 0, none⟩ = some (.slice none 0 0) := cell_of_heap n3
          have HB3 := Lib.hid ((HB1.out.trans (hb2.mono HB1.out.size)).trans ((show Below w2.heap.size w2 w3 by rw [← hw3]; exact below_alloc _ _).mono (Nat.le_trans HB1.out.size hb2.size)))
          have ca := awake_c w3
          clear hw3 hb2 n3
          go_wp2_with fail
          refine ca.mono ?_
          rintro e w5 ⟨rfl, hb5⟩
          have HB5 := Lib.hid (HB3.out.trans (hb5.mono HB3.out.size))
          clear ca hb5
          go_wp2_with fail
          go_ret
          exact ⟨rfl, HB5.out⟩
        | false =>
          have h10 : (10 : Int) < (n : Int) := by
            rw [Bool.false_or, decide_eq_true_iff] at hbz
            omega
          clear hbz
          go_wp2_with fail
          refine ct.mono ?_
          rintro e w2 ⟨rfl, hb2⟩
          clear ct hW1
          go_upto_region 13 with fail
          obtain ⟨w3, hw3⟩ : ∃ W, w2.alloc (.cells #[.slice none 0 0, .bool false, .string ⟨#[]⟩, .string ⟨#[]⟩] 36) = W := ⟨_, rfl⟩
          rw [hw3]
          have n3 : w3.heap[w2.heap.size]? = some (.cells #[.slice none 0 0, .bool false, .string ⟨#[]⟩, .string ⟨#[]⟩] 36 (0, 0)) := by rw [← hw3]; exact heap_alloc_new _ _
          have e1 : w3.cell? ⟨w2.heap.size, 0, none⟩ = some (.slice none 0 0) := cell_of_heap n3
          have HB3 := Lib.hid ((HB1.out.trans (hb2.mono HB1.out.size)).trans ((show Below w2.heap.size w2 w3 by rw [← hw3]; exact below_alloc _ _).mono (Nat.le_trans HB1.out.size hb2.size)))
          have ca := awake_c w3
          clear hw3 hb2 n3
          go_wp2_with fail
          refine ca.mono ?_
          rintro e w5 ⟨rfl, hb5⟩
          have HB5 := Lib.hid (HB3.out.trans (hb5.mono HB3.out.size))
          clear ca hb5
          go_wp2_with fail
          go_ret
          exact ⟨rfl, HB5.out⟩
      | false =>
        obtain ⟨rfl, h10n⟩ : b = false ∧ ¬ 10 < n := by
          rw [Bool.or_eq_false_iff, decide_eq_false_iff_not] at hbz
          exact hbz
        have h10 : ¬ (10 : Int) < (n : Int) := by omega
        rw [hbz, if_neg (by decide)] at ck
        have hdp := eval_deps2 hn
        have ct : Calls Tryz.prog 13 #[.string ⟨#[105, 110, 99, 32, 102, 97, 32, 62, 32, 111, 32, 58, 32, 111, 46, 100]⟩, .slice (some ⟨wr.heap.size, 0, none⟩) 1 1, .slice oa LL.length oc] W1 fun e w' => ∃ g c bv, e = .returned (.tuple #[.agg #[.slice (some ⟨g, 0, none⟩) 1 c, .bool false, .string ⟨#[111, 46, 100]⟩, .string (mk (depsA (n + 1) ++ [10]))], .int .i64 0]) ∧ W1.heap.size ≤ g ∧ (∃ cur, w'.heap[g]? = some (.cells cur 52 (0, 0))) ∧ w'.cell? ⟨g, 1, none⟩ = some bv ∧ OB w' bv (wantL n) ∧ Below W1.heap.size W1 w' := ck.mono fun e w' h => by
          obtain ⟨g, c, bv, i1, i2, i3, -, i4, i5, i6⟩ := h.one (x := [111]) rfl
          rw [← hdp]
          exact ⟨g, c, bv, i1, i2, i3, i4, i5, i6⟩
        obtain ⟨dz, hdz⟩ : ∃ dz, depsA (n + 1) ++ [10] = dz := ⟨_, rfl⟩
        obtain ⟨wl, hwl⟩ : ∃ wl, wantL n = wl := ⟨_, rfl⟩
        rw [hdz, hwl] at ct
        have HDZ := Lib.hid hdz
        have HWL := Lib.hid hwl
        clear ck hdp hbz hdz hwl h10n
        go_wp2_with fail
        refine ct.mono ?_
        rintro e w2 ⟨g1, c1, bv1, rfl, hg1, ⟨cur1, hcur1⟩, hb1c, hob1, hb2⟩
        clear ct hW1
        go_upto_region 13 with fail
        obtain ⟨w3, hw3⟩ : ∃ W, w2.alloc (.cells #[.slice (some ⟨g1, 0, none⟩) 1 c1, .bool false, .string ⟨#[111, 46, 100]⟩, .string (mk dz)] 36) = W := ⟨_, rfl⟩
        rw [hw3]
        have b3 : Below w2.heap.size w2 w3 := by rw [← hw3]; exact below_alloc _ _
        have n3 : w3.heap[w2.heap.size]? = some (.cells #[.slice (some ⟨g1, 0, none⟩) 1 c1, .bool false, .string ⟨#[111, 46, 100]⟩, .string (mk dz)] 36 (0, 0)) := by rw [← hw3]; exact heap_alloc_new _ _
        have HN3 := Lib.hid n3
        have HG3 := Lib.hid ((b3.block _ (lt_some hcur1)).trans hcur1)
        have HC3 := Lib.hid ((cell_of_block (b3.block _ (lt_some hcur1))).trans hb1c)
        have HOB3 := Lib.hid (hob1.below b3)
        have HB3 := Lib.hid ((HB1.out.trans (hb2.mono HB1.out.size)).trans (b3.mono (Nat.le_trans HB1.out.size hb2.size)))
        clear hw3 hb2 b3 n3 hcur1 hb1c hob1 hg1 HB1
        go_wp2_with fail
        go_loopw [11, 12, 13] (fun s d i wr => DRel2 w3 n s d i wr) (fun _ _ i _ => n + 1 - (intOf i).toNat)
        case atStart => exact ⟨0, Nat.zero_le _, rfl, rfl, rfl, Lib.hid (Below.refl _ _)⟩
        case round =>
          obtain ⟨j, hj, rfl, rfl, rfl, hB⟩ := hrel
          by_cases hlt : j ≤ n
          · have hjn : (j : Int) ≤ (n : Int) := by omega
            have HJ := Lib.hid hlt
            obtain ⟨V0, hV0⟩ : ∃ W, wr.alloc (.cells #[.int .u8 (97 + (j : Int)), .int .u8 10] 5) = W := ⟨_, rfl⟩
            have k0 : Below wr.heap.size wr V0 := by rw [← hV0]; exact below_alloc _ _
            have hcv : (convert 24 9 (.slice (some ⟨wr.heap.size, 0, none⟩) 2 2)).run Tryz.prog V0 = .ok (.string (mk [ch j, 10])) V0 := by rw [← hV0]; exact letter10 (by omega)
            have hc1 : mk (wantA j) ++ mk [ch j, 10] = mk (wantA (j + 1)) := by rw [wantA_succ]; exact mk_append _ _
            have hz1 : ¬ 9223372036854775807 < (mk (wantA j)).size + (mk [ch j, 10]).size := by
              rw [mk_size, mk_size]
              have := wantA_len j
              simp only [List.length_cons, List.length_nil]
              omega
            by_cases hj0 : 0 < j
            · have hj0i : (0 : Int) < (j : Int) := by omega
              obtain ⟨V1, hV1⟩ : ∃ W, V0.alloc (.cells #[.int .u8 (97 + (j : Int))] 5) = W := ⟨_, rfl⟩
              have k1 : Below V0.heap.size V0 V1 := by rw [← hV1]; exact below_alloc _ _
              have hcv2 : (convert 24 9 (.slice (some ⟨V0.heap.size, 0, none⟩) 1 1)).run Tryz.prog V1 = .ok (.string (mk [ch j])) V1 := by rw [← hV1]; exact letter (by omega)
              have hc2 : (⟨#[32, 102]⟩ : ByteArray) ++ mk [ch j] = mk [32, 102, ch j] := mk_append [32, 102] _
              have hc3 : mk (depsA j) ++ mk [32, 102, ch j] = mk (depsA (j + 1)) := by rw [depsA_succ hj0]; exact mk_append _ _
              have hz2 : ¬ 9223372036854775807 < (⟨#[32, 102]⟩ : ByteArray).size + (mk [ch j]).size := by rw [mk_size]; exact (by decide : ¬ 9223372036854775807 < 2 + 1)
              have hz3 : ¬ 9223372036854775807 < (mk (depsA j)).size + (mk [32, 102, ch j]).size := by
                rw [mk_size, mk_size]
                have := depsA_len j
                simp only [List.length_cons, List.length_nil]
                omega
              have HBN := Lib.hid ((hB.out.trans (k0.mono hB.out.size)).trans (k1.mono (Nat.le_trans hB.out.size k0.size)))
              generalize [32, 102, ch j] = q3 at *
              generalize [ch j] = q1 at *
              generalize [ch j, 10] = q2 at *
              clear k0 k1 hlt hj0
              go_wp2_with fail
              go_roundw
              case rel => exact ⟨j + 1, by have := HJ.out; omega, by go_num, rfl, rfl, HBN⟩
              case measure => have := HJ.out; simp [intOf] <;> omega
            · have hj0i : ¬ (0 : Int) < (j : Int) := by omega
              have HBN := Lib.hid (hB.out.trans (k0.mono hB.out.size))
              have HD0 : Hid (depsA j = depsA (j + 1)) := Lib.hid (by
                obtain rfl : j = 0 := by omega
                rfl)
              generalize [ch j, 10] = q2 at *
              clear k0 hlt hj0
              go_wp2_with fail
              go_roundw
              case rel => exact ⟨j + 1, by have := HJ.out; omega, by go_num, rfl, by rw [HD0.out], HBN⟩
              case measure => have := HJ.out; simp [intOf] <;> omega
          · obtain rfl : j = n + 1 := by omega
            have hjn : ¬ ((n + 1 : Nat) : Int) ≤ (n : Int) := by omega
            have HWA : Hid (wantA (n + 1) ++ List.replicate n 46 = wl) := Lib.hid HWL.out
            have HWN := Lib.hid (wantA_len (n + 1))
            have HDN := Lib.hid (depsA_len (n + 1))
            clear hlt
            generalize wantA (n + 1) = wa at *
            generalize depsA (n + 1) = da at *
            go_wp2_with fail
            go_loopw [11, 14] (fun s i wr2 => DRel3 wr n wa s i wr2) (fun _ i _ => n - (intOf i).toNat)
            case atStart => exact ⟨0, Nat.zero_le _, rfl, by rw [List.replicate_zero, List.append_nil], rfl⟩
            case round =>
              obtain ⟨k, hk, rfl, rfl, rfl⟩ := hrel
              by_cases hlt : k < n
              · have hkn : (k : Int) < (n : Int) := by omega
                have hc : mk (wa ++ List.replicate k 46) ++ ⟨#[46]⟩ = mk (wa ++ List.replicate (k + 1) 46) := by
                  rw [List.replicate_succ', ← List.append_assoc]
                  exact mk_append _ [46]
                have hz : ¬ 9223372036854775807 < (mk (wa ++ List.replicate k 46)).size + (⟨#[46]⟩ : ByteArray).size := by
                  rw [mk_size, List.length_append, List.length_replicate]
                  have h1 := HWN.out
                  have : (⟨#[46]⟩ : ByteArray).size = 1 := rfl
                  omega
                have HK := Lib.hid hlt
                obtain ⟨s1, hs1⟩ : ∃ s1, wa ++ List.replicate (k + 1) 46 = s1 := ⟨_, rfl⟩
                have HS1 := Lib.hid hs1
                rw [hs1] at hc
                generalize wa ++ List.replicate k 46 = s0 at *
                clear hs1 hlt
                go_wp2_with fail
                go_roundw
                case rel => exact ⟨k + 1, HK.out, by go_num, by rw [HS1.out], rfl⟩
                case measure => have := HK.out; simp [intOf] <;> omega
              · obtain rfl : k = n := by omega
                have hkn : ¬ (k : Int) < (k : Int) := by omega
                rw [HWA.out]
                have e0 : wr.cell? ⟨w2.heap.size, 0, none⟩ = some (.slice (some ⟨g1, 0, none⟩) 1 c1) := cell_of_heap ((hB.out.block _ (lt_some HN3.out)).trans HN3.out)
                have e3 : wr.cell? ⟨w2.heap.size, 3, none⟩ = some (.string (mk dz)) := cell_of_heap ((hB.out.block _ (lt_some HN3.out)).trans HN3.out)
                have eb : wr.cell? ⟨g1, 1, none⟩ = some bv1 := (cell_of_block (hB.out.block _ (lt_some HG3.out))).trans HC3.out
                obtain ⟨bs1, ho1⟩ := HOB3.out.below hB.out
                obtain ⟨a1, k1, rfl⟩ := own_slice ho1
                have v1 := conv_byt (owns_byt ho1)
                have hcd : mk da ++ ⟨#[10]⟩ = mk dz := by rw [← HDZ.out]; exact mk_append _ [10]
                have hzd : ¬ 9223372036854775807 < (mk da).size + (⟨#[10]⟩ : ByteArray).size := by
                  rw [mk_size]
                  have h1 := HDN.out
                  have : (⟨#[10]⟩ : ByteArray).size = 1 := rfl
                  omega
                have HB4 := Lib.hid (HB3.out.trans (hB.out.mono HB3.out.size))
                have ca := awake_c wr
                clear ho1 hlt
                go_wp2_with fail
                refine ca.mono ?_
                rintro e w5 ⟨rfl, hb5⟩
                have HB5 := Lib.hid (HB4.out.trans (hb5.mono HB4.out.size))
                clear ca hb5
                go_wp2_with fail
                go_ret
                exact ⟨rfl, HB5.out⟩

end Go.Proofs.YtgledabcfonbeaaGreatDoor.Df
