/-
  The walk of CookCats.
-/
import Derived.Test.YtgledabcfonbeaaGreatDoorCkCatsM
import Derived.BigQuiet
import Derived.StillTailTactics
namespace Go.Proofs.YtgledabcfonbeaaGreatDoor.Df
open Go.RowKit Go.Maps Go.Proofs.YtgledabcfonbeaaGreatDoor

theorem eq_mk2 {a b : Bs} : ((mk a).toList == (mk b).toList) = decide (a = b) := by
  rw [mk_toList, mk_toList]
  exact Bool.eq_iff_iff.2 (by rw [beq_iff_eq, decide_eq_true_iff])
theorem byt_drew {w : World} {v : Value} {r : Bs} (a : Nat) (h : Byt w v r) : Byt (w.drewN a) v r := h.below ⟨rfl, rfl, rfl, Nat.le_refl _, fun _ _ => rfl⟩
theorem byt_drew1 {w : World} {v : Value} {r : Bs} (h : Byt w v r) : Byt w.drew v r := h.below ⟨rfl, rfl, rfl, Nat.le_refl _, fun _ _ => rfl⟩
theorem fls_nil (w : World) : Fls w (.slice none 0 0) [] [] := ⟨(fun _ hu => by cases hu), none, 0, rfl, Nat.le_refl _, .inl rfl⟩
theorem cap_nil : ∀ u ∈ ([] : List Value), ∀ a n c, u = .slice a n c → c ≤ 9223372036854775807 := fun _ hu => by cases hu
theorem no_file {P : Fl → Prop} : ∀ x ∈ ([] : List Fl), P x := fun _ hu => by cases hu
theorem lab_names {A B : Bs} : ∀ x ∈ LAB A B, x.1.length ≤ 1000000 := fun x hx => by
  rcases List.mem_cons.1 hx with rfl | hx
  · exact (by decide : 1 ≤ 1000000)
  · rw [List.mem_singleton.1 hx]; exact (by decide : 1 ≤ 1000000)
theorem lab_bytes {A B : Bs} (hA : A.length ≤ 200) (hB : B.length ≤ 200) : ∀ x ∈ LAB A B, x.2.length ≤ 200 := fun x hx => by
  rcases List.mem_cons.1 hx with rfl | hx
  · exact hA
  · rw [List.mem_singleton.1 hx]; exact hB

theorem still_hide {P : Program} {ops : Array Oper} {w : World} {Q : Act → Prop} {L : List Oper} {a : Act}
    (h : ∀ G : List Oper → Act → Prop, (∀ o rest a, Region.wanted o (yielded ops a.tmps) = false → G rest (a.put o.dst undef) → G (o :: rest) a) →
      (∀ o rest a v, Region.wanted o (yielded ops a.tmps) = true → (execOp a.eval o).run P w = .ok (.value v) w → G rest (a.put o.dst v) → G (o :: rest) a) → (∀ l a, wpStill P ops w Q l a → G l a) → G L a) : wpStill P ops w Q L a :=
  h (wpStill P ops w Q) (fun o rest a hw h => wpStill_step fun K hK => by rw [if_neg (by rw [hw]; exact Bool.false_ne_true)]; exact hK _ h)
    (fun o rest a v hw hr h => wpStill_step fun K hK => by
      rw [if_pos hw, Oper.still, hr, Oper.stillUpon_value]
      exact hK _ h) (fun _ _ h => h)
set_option maxRecDepth 100000 in
set_option maxHeartbeats 16000000 in
theorem cats_c {w : World} {va vb : Value} {A B : Bs} (hT : Tz w) (hva : Byt w va A) (hvb : Byt w vb B) (hca : CapOk va) (hcb : CapOk vb) (hla : A.length ≤ 9223372036854775807) (hlb : B.length ≤ 9223372036854775807) :
    Calls Tryz.prog 7 #[va, vb] w fun e w' => e = .returned (.bool true) ∧ Below w.heap.size w w' := by
  obtain ⟨ua, ka, eva, -⟩ := id hva
  obtain ⟨ub, kb, evb, -⟩ := id hvb
  subst eva
  subst evb
  by_cases hA : A.length ≤ 200
  rotate_left 1
  · have hd1 : (200 : Int) < (A.length : Int) := by omega
    go_enter Tryz.func7, Tryz.ntmps7
    go_wp2_with fail
    go_ret
    exact ⟨rfl, Below.refl _ _⟩
  by_cases hB : B.length ≤ 200
  rotate_left 1
  · have hd1 : ¬ (200 : Int) < (A.length : Int) := by omega
    have hd2 : (200 : Int) < (B.length : Int) := by omega
    go_enter Tryz.func7, Tryz.ntmps7
    go_wp2_with fail
    go_ret
    exact ⟨rfl, Below.refl _ _⟩
  have hd1 : ¬ (200 : Int) < (A.length : Int) := by omega
  have hd2 : ¬ (200 : Int) < (B.length : Int) := by omega
  obtain ⟨w1, hw1⟩ : ∃ W, w.alloc (.cells #[.string ⟨#[97]⟩, .slice ua A.length ka, .string ⟨#[98]⟩, .slice ub B.length kb] 52) = W := ⟨_, rfl⟩
  obtain ⟨V0, hV0⟩ : ∃ W, w1.alloc (.cells #[.string ⟨#[97]⟩, .string ⟨#[98]⟩] 9) = W := ⟨_, rfl⟩
  have b1 : Below w.heap.size w w1 := by rw [← hw1]; exact below_alloc _ _
  have b2 : Below w1.heap.size w1 V0 := by rw [← hV0]; exact below_alloc _ _
  have m1 : w1.heap[w.heap.size]? = some (.cells #[.string ⟨#[97]⟩, .slice ua A.length ka, .string ⟨#[98]⟩, .slice ub B.length kb] 52 (0, 0)) := by rw [← hw1]; exact heap_alloc_new _ _
  have m2 : V0.heap[w1.heap.size]? = some (.cells #[.string ⟨#[97]⟩, .string ⟨#[98]⟩] 9 (0, 0)) := by rw [← hV0]; exact heap_alloc_new _ _
  have b02 := b1.trans (b2.mono b1.size)
  have hdec : Strs V0 (.slice (some ⟨w1.heap.size, 0, none⟩) 2 2) [[97], [98]] := ⟨_, 2, rfl, Nat.le_refl _, .inr ⟨w1.heap.size, 0, rfl, lt_some m2, fun j p hp => by
    match j, hp with
    | 0, hp => cases hp; exact cell_of_heap m2
    | 1, hp => cases hp; exact cell_of_heap m2⟩⟩
  have hfil : Fls V0 (.slice (some ⟨w.heap.size, 0, none⟩) 2 2) (LAB A B) [.slice ua A.length ka, .slice ub B.length kb] := fls2 ((b2.block _ (lt_some m1)).trans m1) (hva.below b02) (hvb.below b02)
  have hcaps : ∀ u ∈ [Value.slice ua A.length ka, Value.slice ub B.length kb], ∀ a n c, u = .slice a n c → c ≤ 9223372036854775807 := fun u hu a n c e => by
    rcases List.mem_cons.1 hu with rfl | hu
    · exact hca _ _ _ e
    · rw [List.mem_singleton.1 hu] at e; exact hcb _ _ _ e
  obtain ⟨r1, e1⟩ : ∃ r, A ++ B ++ A = r := ⟨_, rfl⟩
  obtain ⟨r2, e2⟩ : ∃ r, A.reverse = r := ⟨_, rfl⟩
  obtain ⟨r4, e4⟩ : ∃ r, hashT A = r := ⟨_, rfl⟩
  obtain ⟨r5, e5⟩ : ∃ r, hashT B = r := ⟨_, rfl⟩
  obtain ⟨r6, e6⟩ : ∃ r : Bs, [97, 32, 98, 10] = r := ⟨_, rfl⟩
  have E1 := Lib.hid e1
  have E2 := Lib.hid e2
  have E4 := Lib.hid e4
  have E5 := Lib.hid e5
  have E6 := Lib.hid e6
  have L4 : Hid (r4.length = 17) := Lib.hid (by rw [← e4]; exact hashT_len A)
  clear e1 e2 e4 e5 e6
  have HB0 := Lib.hid b02
  have HD := Lib.hid hdec
  have HF := Lib.hid hfil
  have HCP := Lib.hid hcaps
  have HT := Lib.hid (hT.below b02)
  have HVA := Lib.hid (hva.below b02)
  have HVB := Lib.hid (hvb.below b02)
  clear b1 b2 m1 m2 b02 hdec hfil hcaps hT hva hvb hca hcb
  have ct1 : Calls Tryz.prog 13 #[.string ⟨#[99, 97, 116, 32, 97, 32, 98, 32, 97, 32, 62, 32, 111]⟩, .slice (some ⟨w1.heap.size, 0, none⟩) 2 2, .slice (some ⟨w.heap.size, 0, none⟩) 2 2] V0 (Dis V0 [111] r1) := by
    have ck := cook_a (H := hashT) (s := sC1) (by decide) HD.out HF.out (by decide) (two_names (by decide) (by decide)) (by simp [LAB]) (lab_names) (fun x hx => by have := lab_bytes hA hB x hx; omega) HCP.out (fun o _ => sumC_all HT.out (fun x hx => lab_bytes hA hB x hx) o)
    rw [eC1 hA hB] at ck
    rw [E1.out] at ck
    exact ck.mono fun e w' h => h.dis rfl rfl rfl
  go_enter Tryz.func7, Tryz.ntmps7
  go_wp2_with fail
  refine ct1.mono ?_
  rintro e x1 ⟨g1, c1, u1, k1, rfl, hc1, ⟨cur1, hcur1⟩, hx1, hb1, hk1, hby1, hbl1⟩
  clear ct1 hw1 hV0
  go_upto_region 6 with fail
  obtain ⟨V1, hV1⟩ : ∃ W, x1.alloc (.cells #[.slice (some ⟨g1, 0, none⟩) 1 c1, .bool false, .string ⟨#[]⟩, .string ⟨#[]⟩] 36) = W := ⟨_, rfl⟩
  rw [hV1]
  have q1 : Below x1.heap.size x1 V1 := by rw [← hV1]; exact below_alloc _ _
  have n1 : V1.heap[x1.heap.size]? = some (.cells #[.slice (some ⟨g1, 0, none⟩) 1 c1, .bool false, .string ⟨#[]⟩, .string ⟨#[]⟩] 36 (0, 0)) := by rw [← hV1]; exact heap_alloc_new _ _
  have HN1 := Lib.hid n1
  have HG1 := Lib.hid ((q1.block _ (lt_some hcur1)).trans hcur1)
  have HC1 := Lib.hid ((cell_of_block (q1.block _ (lt_some hcur1))).trans hb1)
  have HX1 := Lib.hid ((cell_of_block (q1.block _ (lt_some hcur1))).trans hx1)
  have HY1 := Lib.hid (hby1.below q1)
  have HS1 : Hid (Below V0.heap.size V0 V1) := Lib.hid (hbl1.trans (q1.mono hbl1.size))
  have HK1 := Lib.hid (And.intro hc1 hk1)
  clear hV1 q1 n1 hcur1 hb1 hx1 hby1 hbl1 hc1 hk1
  have ct2 : Calls Tryz.prog 13 #[.string ⟨#[114, 101, 118, 32, 97, 32, 62, 32, 111]⟩, .slice (some ⟨w1.heap.size, 0, none⟩) 2 2, .slice (some ⟨w.heap.size, 0, none⟩) 2 2] V1 (Dis V1 [111] r2) := by
    have ck := cook_a (H := hashT) (s := sC2) (by decide) (HD.out.below HS1.out) (HF.out.below HS1.out) (by decide) (two_names (by decide) (by decide)) (by simp [LAB]) (lab_names) (fun x hx => by have := lab_bytes hA hB x hx; omega) HCP.out (fun o _ => sumC_all (HT.out.below HS1.out) (fun x hx => lab_bytes hA hB x hx) o)
    rw [eC2 hA] at ck
    rw [E2.out] at ck
    exact ck.mono fun e w' h => h.dis rfl rfl rfl
  go_wp2_with fail
  refine ct2.mono ?_
  rintro e x2 ⟨g2, c2, u2, k2, rfl, hc2, ⟨cur2, hcur2⟩, hx2, hb2, hk2, hby2, hbl2⟩
  clear ct2
  go_upto_region 7 with fail
  obtain ⟨V2, hV2⟩ : ∃ W, x2.alloc (.cells #[.slice (some ⟨g2, 0, none⟩) 1 c2, .bool false, .string ⟨#[]⟩, .string ⟨#[]⟩] 36) = W := ⟨_, rfl⟩
  rw [hV2]
  have q2 : Below x2.heap.size x2 V2 := by rw [← hV2]; exact below_alloc _ _
  have n2 : V2.heap[x2.heap.size]? = some (.cells #[.slice (some ⟨g2, 0, none⟩) 1 c2, .bool false, .string ⟨#[]⟩, .string ⟨#[]⟩] 36 (0, 0)) := by rw [← hV2]; exact heap_alloc_new _ _
  have HN2 := Lib.hid n2
  have HG2 := Lib.hid ((q2.block _ (lt_some hcur2)).trans hcur2)
  have HC2 := Lib.hid ((cell_of_block (q2.block _ (lt_some hcur2))).trans hb2)
  have HX2 := Lib.hid ((cell_of_block (q2.block _ (lt_some hcur2))).trans hx2)
  have HY2 := Lib.hid (hby2.below q2)
  have HS2 : Hid (Below V1.heap.size V1 V2) := Lib.hid (hbl2.trans (q2.mono hbl2.size))
  have HK2 := Lib.hid (And.intro hc2 hk2)
  clear hV2 q2 n2 hcur2 hb2 hx2 hby2 hbl2 hc2 hk2
  have P2 : Hid (Below V0.heap.size V0 V2) := Lib.hid (HS1.out.trans (HS2.out.mono HS1.out.size))
  have z1 : V2.cell? ⟨x1.heap.size, 0, none⟩ = some (.slice (some ⟨g1, 0, none⟩) 1 c1) := cell_of_heap ((HS2.out.block _ (lt_some HN1.out)).trans HN1.out)
  have z2 : V2.cell? ⟨x2.heap.size, 0, none⟩ = some (.slice (some ⟨g2, 0, none⟩) 1 c2) := cell_of_heap HN2.out
  have z3 : V2.cell? ⟨g1, 1, none⟩ = some (.slice u1 r1.length k1) := (cell_of_block (HS2.out.block _ (lt_some HG1.out))).trans HC1.out
  have y1 := fun a => conv_byt (byt_drew a (HY1.out.below HS2.out))
  have y2 := fun a => conv_byt (byt_drew a (HVA.out.below P2.out))
  have y3 := fun a => conv_byt (byt_drew a (HVB.out.below P2.out))
  have a1 : mk A ++ mk B = mk (A ++ B) := mk_append _ _
  have a2 : mk (A ++ B) ++ mk A = mk r1 := by rw [← E1.out]; exact mk_append _ _
  have s1 : ¬ 9223372036854775807 < (mk A).size + (mk B).size := by rw [mk_size, mk_size]; omega
  have s2 : ¬ 9223372036854775807 < (mk (A ++ B)).size + (mk A).size := by rw [mk_size, mk_size, List.length_append]; omega
  go_quiet (fail)
  clear z1 z2 z3 y1 y2 y3 a1 a2 s1 s2
  have HDR : Hid (Below V2.heap.size V2 (V2.drewN nq)) := Lib.hid ⟨rfl, rfl, rfl, Nat.le_refl _, fun _ _ => rfl⟩
  generalize V2.drewN nq = V2d at *
  obtain ⟨U3, hU3⟩ : ∃ W, V2d.alloc (.cells #[.string ⟨#[111]⟩] 9) = W := ⟨_, rfl⟩
  have bU : Below V2d.heap.size V2d U3 := by rw [← hU3]; exact below_alloc _ _
  have nU : U3.heap[V2d.heap.size]? = some (.cells #[.string ⟨#[111]⟩] 9 (0, 0)) := by rw [← hU3]; exact heap_alloc_new _ _
  have b2U := HDR.out.trans (bU.mono HDR.out.size)
  have hdecO : Strs U3 (.slice (some ⟨V2d.heap.size, 0, none⟩) 1 1) [[111]] := ⟨_, 1, rfl, Nat.le_refl _, .inr ⟨V2d.heap.size, 0, rfl, lt_some nU, fun j p hp => by
    match j, hp with
    | 0, hp => cases hp; exact cell_of_heap nU⟩⟩
  have hfilO : Fls U3 (.slice (some ⟨g2, 0, none⟩) 1 c2) [([111], r2)] [.slice u2 r2.length k2] := ⟨fun u hu => by
    rw [List.mem_singleton.1 hu]; exact ⟨_, _, _, rfl⟩, _, c2, rfl, HK2.out.1, .inr ⟨g2, 0, rfl, Nat.lt_of_lt_of_le (lt_some HG2.out) b2U.size, fun j p hp => by
    match j, hp with
    | 0, hp => cases hp; exact ⟨_, rfl, (cell_of_block (b2U.block _ (lt_some HG2.out))).trans HX2.out, (cell_of_block (b2U.block _ (lt_some HG2.out))).trans HC2.out, HY2.out.below b2U⟩⟩⟩
  have hcapO : ∀ u ∈ [Value.slice u2 r2.length k2], ∀ a n c, u = .slice a n c → c ≤ 9223372036854775807 := fun u hu a n c e => by
    rw [List.mem_singleton.1 hu] at e; cases e; exact HK2.out.2
  have zz : U3.cell? ⟨x2.heap.size, 0, none⟩ = some (.slice (some ⟨g2, 0, none⟩) 1 c2) := cell_of_heap ((b2U.block _ (lt_some HN2.out)).trans HN2.out)
  have zz0 : V2d.cell? ⟨x2.heap.size, 0, none⟩ = some (.slice (some ⟨g2, 0, none⟩) 1 c2) := cell_of_heap ((HDR.out.block _ (lt_some HN2.out)).trans HN2.out)
  have PU : Hid (Below V0.heap.size V0 U3) := Lib.hid (P2.out.trans (b2U.mono P2.out.size))
  have H2U : Hid (Below V2.heap.size V2 U3) := Lib.hid b2U
  have ct3 : Calls Tryz.prog 13 #[.string ⟨#[114, 101, 118, 32, 111, 32, 62, 32, 112]⟩, .slice (some ⟨V2d.heap.size, 0, none⟩) 1 1, .slice (some ⟨g2, 0, none⟩) 1 c2] U3 (Dis U3 [112] A) := by
    have ck := cook_a (H := hashT) (s := sC3) (by decide) hdecO hfilO (by decide) (fun z hz => by rw [List.mem_singleton.1 hz]; decide) (by simp) (fun x hx => by rw [List.mem_singleton.1 hx]; exact (by decide : 1 ≤ 1000000)) (fun x hx => by rw [List.mem_singleton.1 hx]; show r2.length ≤ _; rw [← E2.out, List.length_reverse]; omega) hcapO (fun o _ => sumC_all (HT.out.below PU.out) (fun x hx => by rw [List.mem_singleton.1 hx]; show r2.length ≤ _; rw [← E2.out, List.length_reverse]; omega) o)
    rw [← E2.out, eC3 (by rw [E2.out, ← E2.out, List.length_reverse]; exact hA)] at ck
    exact ck.mono fun e w' h => by have := h.dis (x := [112]) rfl rfl rfl; rw [List.reverse_reverse] at this; exact this
  go_wp2_with fail
  refine ct3.mono ?_
  rintro e x3 ⟨g3, c3, u3, k3, rfl, hc3, ⟨cur3, hcur3⟩, hx3, hb3, hk3, hby3, hbl3⟩
  clear ct3 hU3 bU nU b2U hdecO hfilO hcapO zz zz0
  go_upto_region 10 with fail
  obtain ⟨V3, hV3⟩ : ∃ W, x3.alloc (.cells #[.slice (some ⟨g3, 0, none⟩) 1 c3, .bool false, .string ⟨#[]⟩, .string ⟨#[]⟩] 36) = W := ⟨_, rfl⟩
  rw [hV3]
  have q3 : Below x3.heap.size x3 V3 := by rw [← hV3]; exact below_alloc _ _
  have n3 : V3.heap[x3.heap.size]? = some (.cells #[.slice (some ⟨g3, 0, none⟩) 1 c3, .bool false, .string ⟨#[]⟩, .string ⟨#[]⟩] 36 (0, 0)) := by rw [← hV3]; exact heap_alloc_new _ _
  have HN3 := Lib.hid n3
  have HG3 := Lib.hid ((q3.block _ (lt_some hcur3)).trans hcur3)
  have HC3 := Lib.hid ((cell_of_block (q3.block _ (lt_some hcur3))).trans hb3)
  have HX3 := Lib.hid ((cell_of_block (q3.block _ (lt_some hcur3))).trans hx3)
  have HY3 := Lib.hid (hby3.below q3)
  have HS3 : Hid (Below U3.heap.size U3 V3) := Lib.hid (hbl3.trans (q3.mono hbl3.size))
  have HK3 := Lib.hid (And.intro hc3 hk3)
  clear hV3 q3 n3 hcur3 hb3 hx3 hby3 hbl3 hc3 hk3
  have P3 : Hid (Below V0.heap.size V0 V3) := Lib.hid (PU.out.trans (HS3.out.mono PU.out.size))
  have ct4 : Calls Tryz.prog 13 #[.string ⟨#[115, 117, 109, 32, 97, 32, 62, 32, 111]⟩, .slice (some ⟨w1.heap.size, 0, none⟩) 2 2, .slice (some ⟨w.heap.size, 0, none⟩) 2 2] V3 (Dis V3 [111] r4) := by
    have ck := cook_a (H := hashT) (s := sC4) (by decide) (HD.out.below P3.out) (HF.out.below P3.out) (by decide) (two_names (by decide) (by decide)) (by simp [LAB]) (lab_names) (fun x hx => by have := lab_bytes hA hB x hx; omega) HCP.out (fun o _ => sumC_all (HT.out.below P3.out) (fun x hx => lab_bytes hA hB x hx) o)
    rw [eC4] at ck
    rw [E4.out] at ck
    exact ck.mono fun e w' h => h.dis rfl rfl rfl
  go_wp2_with fail
  refine ct4.mono ?_
  rintro e x4 ⟨g4, c4, u4, k4, rfl, hc4, ⟨cur4, hcur4⟩, hx4, hb4, hk4, hby4, hbl4⟩
  clear ct4
  go_upto_region 11 with fail
  obtain ⟨V4, hV4⟩ : ∃ W, x4.alloc (.cells #[.slice (some ⟨g4, 0, none⟩) 1 c4, .bool false, .string ⟨#[]⟩, .string ⟨#[]⟩] 36) = W := ⟨_, rfl⟩
  rw [hV4]
  have q4 : Below x4.heap.size x4 V4 := by rw [← hV4]; exact below_alloc _ _
  have n4 : V4.heap[x4.heap.size]? = some (.cells #[.slice (some ⟨g4, 0, none⟩) 1 c4, .bool false, .string ⟨#[]⟩, .string ⟨#[]⟩] 36 (0, 0)) := by rw [← hV4]; exact heap_alloc_new _ _
  have HN4 := Lib.hid n4
  have HG4 := Lib.hid ((q4.block _ (lt_some hcur4)).trans hcur4)
  have HC4 := Lib.hid ((cell_of_block (q4.block _ (lt_some hcur4))).trans hb4)
  have HX4 := Lib.hid ((cell_of_block (q4.block _ (lt_some hcur4))).trans hx4)
  have HY4 := Lib.hid (hby4.below q4)
  have HS4 : Hid (Below V3.heap.size V3 V4) := Lib.hid (hbl4.trans (q4.mono hbl4.size))
  have HK4 := Lib.hid (And.intro hc4 hk4)
  clear hV4 q4 n4 hcur4 hb4 hx4 hby4 hbl4 hc4 hk4
  have P4 : Hid (Below V0.heap.size V0 V4) := Lib.hid (P3.out.trans (HS4.out.mono P3.out.size))
  have ct5 : Calls Tryz.prog 13 #[.string ⟨#[115, 117, 109, 32, 98, 32, 62, 32, 111]⟩, .slice (some ⟨w1.heap.size, 0, none⟩) 2 2, .slice (some ⟨w.heap.size, 0, none⟩) 2 2] V4 (Dis V4 [111] r5) := by
    have ck := cook_a (H := hashT) (s := sC5) (by decide) (HD.out.below P4.out) (HF.out.below P4.out) (by decide) (two_names (by decide) (by decide)) (by simp [LAB]) (lab_names) (fun x hx => by have := lab_bytes hA hB x hx; omega) HCP.out (fun o _ => sumC_all (HT.out.below P4.out) (fun x hx => lab_bytes hA hB x hx) o)
    rw [eC5] at ck
    rw [E5.out] at ck
    exact ck.mono fun e w' h => h.dis rfl rfl rfl
  go_wp2_with fail
  refine ct5.mono ?_
  rintro e x5 ⟨g5, c5, u5, k5, rfl, hc5, ⟨cur5, hcur5⟩, hx5, hb5, hk5, hby5, hbl5⟩
  clear ct5
  go_upto_region 12 with fail
  obtain ⟨V5, hV5⟩ : ∃ W, x5.alloc (.cells #[.slice (some ⟨g5, 0, none⟩) 1 c5, .bool false, .string ⟨#[]⟩, .string ⟨#[]⟩] 36) = W := ⟨_, rfl⟩
  rw [hV5]
  have q5 : Below x5.heap.size x5 V5 := by rw [← hV5]; exact below_alloc _ _
  have n5 : V5.heap[x5.heap.size]? = some (.cells #[.slice (some ⟨g5, 0, none⟩) 1 c5, .bool false, .string ⟨#[]⟩, .string ⟨#[]⟩] 36 (0, 0)) := by rw [← hV5]; exact heap_alloc_new _ _
  have HN5 := Lib.hid n5
  have HG5 := Lib.hid ((q5.block _ (lt_some hcur5)).trans hcur5)
  have HC5 := Lib.hid ((cell_of_block (q5.block _ (lt_some hcur5))).trans hb5)
  have HX5 := Lib.hid ((cell_of_block (q5.block _ (lt_some hcur5))).trans hx5)
  have HY5 := Lib.hid (hby5.below q5)
  have HS5 : Hid (Below V4.heap.size V4 V5) := Lib.hid (hbl5.trans (q5.mono hbl5.size))
  have HK5 := Lib.hid (And.intro hc5 hk5)
  clear hV5 q5 n5 hcur5 hb5 hx5 hby5 hbl5 hc5 hk5
  have P5 : Hid (Below V0.heap.size V0 V5) := Lib.hid (P4.out.trans (HS5.out.mono P4.out.size))
  have ct6 : Calls Tryz.prog 13 #[.string ⟨#[112, 117, 116, 32, 97, 32, 32, 98, 32, 62, 32, 111]⟩, .slice (some ⟨w1.heap.size, 0, none⟩) 2 2, .slice none 0 0] V5 (Dis V5 [111] r6) := by
    have ck := cook_a (H := hashT) (s := sC6) (by decide) (HD.out.below P5.out) (fls_nil _) (by decide) (two_names (by decide) (by decide)) (Nat.zero_le _) (no_file) (no_file) cap_nil (fun o _ => sumC_all (HT.out.below P5.out) (no_file) o)
    rw [eC6] at ck
    rw [E6.out] at ck
    exact ck.mono fun e w' h => h.dis rfl rfl rfl
  go_wp2_with fail
  refine ct6.mono ?_
  rintro e x6 ⟨g6, c6, u6, k6, rfl, hc6, ⟨cur6, hcur6⟩, hx6, hb6, hk6, hby6, hbl6⟩
  clear ct6
  go_upto_region 13 with fail
  obtain ⟨V6, hV6⟩ : ∃ W, x6.alloc (.cells #[.slice (some ⟨g6, 0, none⟩) 1 c6, .bool false, .string ⟨#[]⟩, .string ⟨#[]⟩] 36) = W := ⟨_, rfl⟩
  rw [hV6]
  have q6 : Below x6.heap.size x6 V6 := by rw [← hV6]; exact below_alloc _ _
  have n6 : V6.heap[x6.heap.size]? = some (.cells #[.slice (some ⟨g6, 0, none⟩) 1 c6, .bool false, .string ⟨#[]⟩, .string ⟨#[]⟩] 36 (0, 0)) := by rw [← hV6]; exact heap_alloc_new _ _
  have HN6 := Lib.hid n6
  have HG6 := Lib.hid ((q6.block _ (lt_some hcur6)).trans hcur6)
  have HC6 := Lib.hid ((cell_of_block (q6.block _ (lt_some hcur6))).trans hb6)
  have HX6 := Lib.hid ((cell_of_block (q6.block _ (lt_some hcur6))).trans hx6)
  have HY6 := Lib.hid (hby6.below q6)
  have HS6 : Hid (Below V5.heap.size V5 V6) := Lib.hid (hbl6.trans (q6.mono hbl6.size))
  have HK6 := Lib.hid (And.intro hc6 hk6)
  clear hV6 q6 n6 hcur6 hb6 hx6 hby6 hbl6 hc6 hk6
  have P6 : Hid (Below V0.heap.size V0 V6) := Lib.hid (P5.out.trans (HS6.out.mono P5.out.size))
  have k56 := HS6.out
  have k46 := HS5.out.trans (k56.mono HS5.out.size)
  have k36 := HS4.out.trans (k46.mono HS4.out.size)
  have z3 : V6.cell? ⟨x3.heap.size, 0, none⟩ = some (.slice (some ⟨g3, 0, none⟩) 1 c3) := cell_of_heap ((k36.block _ (lt_some HN3.out)).trans HN3.out)
  have z4 : V6.cell? ⟨x4.heap.size, 0, none⟩ = some (.slice (some ⟨g4, 0, none⟩) 1 c4) := cell_of_heap ((k46.block _ (lt_some HN4.out)).trans HN4.out)
  have z5 : V6.cell? ⟨x5.heap.size, 0, none⟩ = some (.slice (some ⟨g5, 0, none⟩) 1 c5) := cell_of_heap ((k56.block _ (lt_some HN5.out)).trans HN5.out)
  have z6 : V6.cell? ⟨x6.heap.size, 0, none⟩ = some (.slice (some ⟨g6, 0, none⟩) 1 c6) := cell_of_heap HN6.out
  have t3 : V6.cell? ⟨g3, 1, none⟩ = some (.slice u3 A.length k3) := (cell_of_block (k36.block _ (lt_some HG3.out))).trans HC3.out
  have t4 : V6.cell? ⟨g4, 1, none⟩ = some (.slice u4 r4.length k4) := (cell_of_block (k46.block _ (lt_some HG4.out))).trans HC4.out
  have t5 : V6.cell? ⟨g5, 1, none⟩ = some (.slice u5 r5.length k5) := (cell_of_block (k56.block _ (lt_some HG5.out))).trans HC5.out
  have t6 : V6.cell? ⟨g6, 1, none⟩ = some (.slice u6 r6.length k6) := HC6.out
  have Y3 := Lib.hid (HY3.out.below k36)
  have Y4 := Lib.hid (HY4.out.below k46)
  have Y5 := Lib.hid (HY5.out.below k56)
  have Y6 := HY6
  have YA := Lib.hid (HVA.out.below P6.out)
  have YB := Lib.hid (HVB.out.below P6.out)
  have HBE := Lib.hid (HB0.out.trans (P6.out.mono HB0.out.size))
  clear k36 k46 k56 HS1 HS2 HS3 HS4 HS5 HS6 HN1 HN2 HN3 HN4 HN5 HN6 HG1 HG2 HG3 HG4 HG5 HG6 HC1 HC2 HC3 HC4 HC5 HC6 HX1 HX2 HX3 HX4 HX5 HX6 HY1 HY2 HY3 HY4 HY5 HY6 HD HF HCP HT HVA HVB P2 PU H2U P3 P4 P5 P6 HB0 HDR
  go_upto_region 15 with fail
  have v3 := conv_byt (byt_drew1 Y3.out)
  have v4 := conv_byt (byt_drew1 Y4.out)
  have v5 := conv_byt (byt_drew1 Y5.out)
  have v6 := conv_byt (byt_drew1 Y6.out)
  have hr6 : mk r6 = ⟨#[97, 32, 98, 10]⟩ := by rw [← E6.out]; rfl
  rw [hr6] at v6
  have vA := conv_byt (byt_drew1 YA.out)
  have vB := conv_byt (byt_drew1 YB.out)
  have l4 := L4.out
  by_cases hAB : A = B
  · have e45 : r5 = r4 := by rw [← E4.out, ← E5.out, hAB]
    subst hAB
    subst e45
    rw [l4] at v4 v5 t4 t5
    go_still_tail 50, (by kernel_rfl)
    clear z3 z4 z5 z6 t3 t4 t5 t6 v3 v4 v5 v6 vA vB
    have HBD : Hid (Below w.heap.size w V6.drew) := Lib.hid (HBE.out.trans (below_drew _ _))
    have ca := awake_c V6.drew
    change wpList _ _ _ _ _ V6.drew
    go_wp2_with fail
    refine ca.mono ?_
    rintro e w9 ⟨rfl, hb9⟩
    have HB9 := Lib.hid (HBD.out.trans (hb9.mono HBD.out.size))
    clear ca hb9
    go_wp2_with fail
    go_ret
    exact ⟨rfl, HB9.out⟩
  · have eAB : ((mk A).toList == (mk B).toList) = false := by rw [eq_mk2]; exact decide_eq_false hAB
    rw [l4] at v4 t4
    refine wp_region_still_tail 50 (by kernel_rfl) (by kernel_rfl) ?_
    simp only [List.take_succ_cons, List.take_zero, List.drop_succ_cons, List.drop_zero]
    iterate 24 still_step
    refine still_hide (fun G hs hd ho => ?_)
    refine hd _ _ _ (.bool true) (by kernel_rfl) (by kernel_rfl) ?_
    simp only [Act.put, List.setIfInBounds_toArray, List.set_cons_zero, List.set_cons_succ]
    refine hs _ _ _ (by kernel_rfl) ?_
    simp only [Act.put, List.setIfInBounds_toArray, List.set_cons_zero, List.set_cons_succ]
    refine hs _ _ _ (by kernel_rfl) ?_
    simp only [Act.put, List.setIfInBounds_toArray, List.set_cons_zero, List.set_cons_succ]
    refine hs _ _ _ (by kernel_rfl) ?_
    simp only [Act.put, List.setIfInBounds_toArray, List.set_cons_zero, List.set_cons_succ]
    refine hs _ _ _ (by kernel_rfl) ?_
    simp only [Act.put, List.setIfInBounds_toArray, List.set_cons_zero, List.set_cons_succ]
    refine hs _ _ _ (by kernel_rfl) ?_
    simp only [Act.put, List.setIfInBounds_toArray, List.set_cons_zero, List.set_cons_succ]
    refine hs _ _ _ (by kernel_rfl) ?_
    simp only [Act.put, List.setIfInBounds_toArray, List.set_cons_zero, List.set_cons_succ]
    refine hs _ _ _ (by kernel_rfl) ?_
    simp only [Act.put, List.setIfInBounds_toArray, List.set_cons_zero, List.set_cons_succ]
    refine hs _ _ _ (by kernel_rfl) ?_
    simp only [Act.put, List.setIfInBounds_toArray, List.set_cons_zero, List.set_cons_succ]
    refine hs _ _ _ (by kernel_rfl) ?_
    simp only [Act.put, List.setIfInBounds_toArray, List.set_cons_zero, List.set_cons_succ]
    refine hs _ _ _ (by kernel_rfl) ?_
    simp only [Act.put, List.setIfInBounds_toArray, List.set_cons_zero, List.set_cons_succ]
    refine hs _ _ _ (by kernel_rfl) ?_
    simp only [Act.put, List.setIfInBounds_toArray, List.set_cons_zero, List.set_cons_succ]
    refine hs _ _ _ (by kernel_rfl) ?_
    simp only [Act.put, List.setIfInBounds_toArray, List.set_cons_zero, List.set_cons_succ]
    refine hs _ _ _ (by kernel_rfl) ?_
    simp only [Act.put, List.setIfInBounds_toArray, List.set_cons_zero, List.set_cons_succ]
    refine hd _ _ _ (.bool true) (by kernel_rfl) (by kernel_rfl) ?_
    simp only [Act.put, List.setIfInBounds_toArray, List.set_cons_zero, List.set_cons_succ]
    refine ho _ _ ?_
    clear ho hs hd G
    iterate 11 still_step
    refine wpStill_nil ?_
    clear z3 z4 z5 z6 t3 t4 t5 t6 v3 v4 v5 v6 vA vB
    have HBD : Hid (Below w.heap.size w V6.drew) := Lib.hid (HBE.out.trans (below_drew _ _))
    have ca := awake_c V6.drew
    change wpList _ _ _ _ _ V6.drew
    go_wp2_with fail
    refine ca.mono ?_
    rintro e w9 ⟨rfl, hb9⟩
    have HB9 := Lib.hid (HBD.out.trans (hb9.mono HBD.out.size))
    clear ca hb9
    go_wp2_with fail
    go_ret
    exact ⟨rfl, HB9.out⟩
end Go.Proofs.YtgledabcfonbeaaGreatDoor.Df
