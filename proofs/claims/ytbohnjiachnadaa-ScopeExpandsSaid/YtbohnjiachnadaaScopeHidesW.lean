/-
  The law ScopeHides, walked.
-/
import Derived.Test.YtbohnjiachnadaaScRef
namespace Go.Proofs.Ytbohnjiachnadaa.Sc
open Go.RowKit Go.Maps

theorem long_no125 {s : Bs} (h : nameB s = true) : (125 : UInt8) ∉ s := by
  intro hm
  unfold nameB at h
  rw [Bool.and_eq_true, List.all_eq_true] at h
  have := h.2 125 hm
  exact absurd this (by decide)

theorem cutAt_end {s : Bs} (h : (125 : UInt8) ∉ s) : cutAt 125 (s ++ [125]) = s := by
  unfold cutAt
  rw [List.takeWhile_append_of_pos]
  · simp
  · intro x hx
    simp
    rintro rfl
    exact h hx

theorem exp_braces (g : Bs → Bs) {s : Bs} (h : nameB s = true) : exp g (36 :: 123 :: (s ++ [125])) = some (g s) := by
  have hc := cutAt_end (long_no125 h)
  have hm : mean g (123 :: (s ++ [125])) = (g s, 2 + s.length) := by
    unfold mean
    simp only
    rw [if_neg (by decide), if_pos trivial, hc, if_pos ⟨by simp, h⟩]
  rw [exp_dollar, hm]
  simp only
  rw [if_neg (by omega)]
  have hd : (123 :: (s ++ [125]) : Bs).drop (2 + s.length) = [] := List.drop_eq_nil_of_le (by simp; omega)
  rw [hd, exp_nil]
  simp

theorem getL_nil2 (x : Bs) : getL [fun _ => none, fun _ => none] x = [] := rfl
theorem getL_up (s a : Bs) : getL [fun _ => none, upd (fun _ => none) s a] s = a := by simp [getL, upd]
theorem getL_low (s a b : Bs) : getL [upd (fun _ => none) s b, upd (fun _ => none) s a] s = b := by simp [getL, upd]
theorem getL_one (s a : Bs) : getL [upd (fun _ => none) s a] s = a := by simp [getL, upd]

theorem getL_le {fs : List (Bs → Option Bs)} {M : Nat} (h : ∀ f ∈ fs, ∀ l t, f l = some t → t.length ≤ M) : ∀ x, (getL fs x).length ≤ M := by
  intro x
  induction fs with
  | nil => simp [getL]
  | cons f r ih =>
    unfold getL
    split
    · rename_i t ht
      exact h f (List.mem_cons_self ..) x t ht
    · exact ih fun g hg => h g (List.mem_cons_of_mem _ hg)

theorem upd_le {f : Bs → Option Bs} {s a : Bs} {M : Nat} (h : ∀ l t, f l = some t → t.length ≤ M) (ha : a.length ≤ M) : ∀ l t, upd f s a l = some t → t.length ≤ M := by
  intro l t ht
  unfold upd at ht
  split at ht
  · cases ht; exact ha
  · exact h l t ht

/-- a new scope -/
theorem new_n (up : Option Nat) (w : World) (h : ∀ q, up = some q → q < w.heap.size) : Calls Try.prog 28 #[ptr up] w fun e w' => ∃ p, e = .returned (.pointer (some ⟨p, 0, none⟩)) ∧ Hid (p = w.heap.size ∧ Node w' 0 p (.map none) up (fun _ => none) ∧ Below w.heap.size w w') := by
  refine (new_c up w).mono ?_
  rintro e w1 ⟨rfl, rfl⟩
  exact ⟨_, rfl, Lib.hid ⟨rfl, node_new up w h, below_alloc _ _⟩⟩

theorem SetQ.other {w w' : World} {n p : Nat} {mv mv' : Value} {up : Option Nat} {f : Bs → Option Bs} {l t : Bs} (h : SetQ w w' n p mv up f l t mv') {n2 p2 : Nat} {mv2 : Value} {up2 : Option Nat} {f2 : Bs → Option Bs} (hn : Node w n p mv up f) (h2 : Node w n2 p2 mv2 up2 f2) (hp : p2 ≠ p) (hm : ∀ m, mapBlk mv2 = some m → mapBlk mv ≠ some m) : Node w' n2 p2 mv2 up2 f2 := by
  refine h2.kept (h.off.block _ (lt_some h2.box) ?_) fun m hmm => ?_
  · rintro (e | e)
    · exact hp e
    · obtain ⟨es, c, hc⟩ := hn.map.blk e
      rw [h2.box] at hc
      cases hc
  · obtain ⟨es, c, hc⟩ := h2.map.blk hmm
    refine h.off.block _ (lt_some hc) ?_
    rintro (e | e)
    · rw [e, hn.box] at hc
      cases hc
    · exact hm m hmm e

theorem SetQ.below {w w' : World} {n p : Nat} {mv mv' : Value} {up : Option Nat} {f : Bs → Option Bs} {l t : Bs} (h : SetQ w w' n p mv up f l t mv') {B : Nat} (hB : B ≤ p) (hm : ∀ m, mapBlk mv = some m → B ≤ m) (hs : B ≤ w.heap.size) : Below B w w' :=
  h.off.below (by rintro k (rfl | e); exact hB; exact hm k e) hs

set_option maxRecDepth 100000 in
set_option maxHeartbeats 4000000 in
theorem scopeHides_w (N0 A0 B0 : ByteArray) (hN : N0.size ≤ 9223372036854775807) (hA : A0.size ≤ 9223372036854775807) (hB : B0.size ≤ 9223372036854775807) (w : World) :
    Calls Try.prog 9 #[.string N0, .string A0, .string B0] w fun e w' => e = .returned (.bool true) ∧ Below w.heap.size w w' := by
  obtain ⟨s, rfl⟩ : ∃ s, N0 = mk s := ⟨N0.data.toList, (mk_of N0).symm⟩
  obtain ⟨a, rfl⟩ : ∃ s, A0 = mk s := ⟨A0.data.toList, (mk_of A0).symm⟩
  obtain ⟨b, rfl⟩ : ∃ s, B0 = mk s := ⟨B0.data.toList, (mk_of B0).symm⟩
  have hz1 := mk_size s
  have hz2 := mk_size a
  have hz3 := mk_size b
  by_cases hl1 : 300 < s.length
  · have hl' : 300 < ((mk s).size : Int) := by omega
    go_enter Try.func9, Try.ntmps9
    go_wp2
    go_ret
    exact ⟨rfl, Below.refl _ _⟩
  have hl1' : ¬ 300 < ((mk s).size : Int) := by omega
  by_cases hl2 : 300 < a.length
  · have hl' : 300 < ((mk a).size : Int) := by omega
    go_enter Try.func9, Try.ntmps9
    go_wp2
    go_ret
    exact ⟨rfl, Below.refl _ _⟩
  have hl2' : ¬ 300 < ((mk a).size : Int) := by omega
  by_cases hl3 : 300 < b.length
  · have hl' : 300 < ((mk b).size : Int) := by omega
    go_enter Try.func9, Try.ntmps9
    go_wp2
    go_ret
    exact ⟨rfl, Below.refl _ _⟩
  have hl3' : ¬ 300 < ((mk b).size : Int) := by omega
  have hn1 := new_n none w (fun q h => by cases h)
  rw [ptr_none] at hn1
  have hname := name_c s (by omega)
  have haw := awake_c
  go_enter Try.func9, Try.ntmps9
  go_wp2_with fail
  refine hn1.mono ?_
  rintro e w1 ⟨p1, rfl, H1⟩
  have hp1 := lt_some H1.out.2.1.box
  have hn2 := new_n (some p1) w1 (fun q h => by cases h; exact hp1)
  rw [ptr_some] at hn2
  clear hn1
  go_wp2_with fail
  refine hn2.mono ?_
  rintro e w2 ⟨p2, rfl, H2⟩
  have hn3 := new_n (some p1) w2 (fun q h => by cases h; exact Nat.lt_of_lt_of_le hp1 H2.out.2.2.size)
  rw [ptr_some] at hn3
  clear hn2
  go_wp2_with fail
  refine hn3.mono ?_
  rintro e w3 ⟨p3, rfl, H3⟩
  clear hn3 hp1
  obtain ⟨e1, N1, b1⟩ := H1.out
  obtain ⟨e2, N2, b2⟩ := H2.out
  obtain ⟨e3, N3, b3⟩ := H3.out
  have hp1 := lt_some N1.box
  have hp2 := lt_some N2.box
  have n12 : p1 < p2 := by omega
  have n23 : p2 < p3 := by have := b2.size; omega
  have M1 := Lib.hid ((N1.below b2).below b3)
  have M2 := Lib.hid (N2.below b3)
  have M3 := Lib.hid N3
  have BB := Lib.hid ((b1.trans (b2.mono b1.size)).trans (b3.mono (Nat.le_trans b1.size b2.size)))
  have PP := Lib.hid (show w.heap.size ≤ p1 ∧ p1 < p2 ∧ p2 < p3 by omega)
  clear e1 N1 b1 e2 N2 b2 e3 N3 b3 hp1 hp2 n12 n23 H1 H2 H3
  cases hnm : nameB s with
  | false =>
    simp only [hnm] at hname
    have hset := set_bad p1 s a (by omega) hnm w3
    have hget := get_c (.cons M1.out .nil) s (by omega)
    rw [show getL [fun _ => none] s = [] from rfl, ptr_some] at hget
    have e0 : (mk []).toList.isEmpty = true := by rw [mk_toList]; rfl
    clear hnm
    go_wp2_with fail
    refine (hname _).mono ?_
    rintro e w4 ⟨rfl, rfl⟩
    go_wp2_with fail
    refine hset.mono ?_
    rintro e w4 ⟨rfl, rfl⟩
    go_wp2_with fail
    refine hget.mono ?_
    rintro e w4 ⟨rfl, hb4⟩
    go_wp2_with fail
    refine (haw _).mono ?_
    rintro e w5 ⟨rfl, hb5⟩
    go_wp2_with fail
    go_ret
    exact ⟨rfl, (BB.out.trans (hb4.mono BB.out.size)).trans (hb5.mono (Nat.le_trans BB.out.size hb4.size))⟩
  | true =>
    simp only [hnm] at hname
    have HNM := Lib.hid hnm
    clear hnm
    have hget1 := get_c (.cons M2.out (.cons M1.out .nil)) s (by omega)
    rw [show getL [fun _ => none, fun _ => none] s = [] from rfl, ptr_some] at hget1
    have e0 : (mk []).toList.isEmpty = true := by rw [mk_toList]; rfl
    go_wp2_with fail
    refine (hname _).mono ?_
    rintro e w4 ⟨rfl, rfl⟩
    go_wp2_with fail
    refine hget1.mono ?_
    rintro e w4 ⟨rfl, hb4⟩
    have hset1 := set_c (M1.out.below hb4) (by omega) s a (by omega) HNM.out
    have M2' := Lib.hid (M2.out.below hb4)
    have M3' := Lib.hid (M3.out.below hb4)
    have M1' := Lib.hid (M1.out.below hb4)
    have BB' := Lib.hid (BB.out.trans (hb4.mono BB.out.size))
    clear hb4 hget1 M1 M2 M3 BB
    go_wp2_with fail
    refine hset1.mono ?_
    rintro e w5 ⟨rfl, mv1, hq1⟩
    have Q2 := hq1.other M1'.out M2'.out (by have := PP.out; omega) (fun m h => by cases h)
    have Q3 := hq1.other M1'.out M3'.out (by have := PP.out; omega) (fun m h => by cases h)
    have hb5 : Below w.heap.size w w5 := BB'.out.trans (hq1.below PP.out.1 (fun m h => by cases h) BB'.out.size)
    have hget2 := get_c (.cons Q2 (.cons hq1.node .nil)) s (by omega)
    rw [getL_up, ptr_some] at hget2
    have K1 := Lib.hid hq1.node
    have K2 := Lib.hid Q2
    have K3 := Lib.hid Q3
    have B5 := Lib.hid hb5
    have eaa : ((mk a).toList == (mk a).toList) = true := by simp
    clear hq1 Q2 Q3 hb5 hset1 M1' M2' M3' BB'
    go_wp2_with fail
    refine hget2.mono ?_
    rintro e w6 ⟨rfl, hb6⟩
    have hset2 := set_c (K2.out.below hb6) (by omega) s b (by omega) HNM.out
    have L1 := Lib.hid (K1.out.below hb6)
    have L2 := Lib.hid (K2.out.below hb6)
    have L3 := Lib.hid (K3.out.below hb6)
    have B6 := Lib.hid (B5.out.trans (hb6.mono B5.out.size))
    clear hb6 hget2 K1 K2 K3 B5
    go_wp2_with fail
    refine hset2.mono ?_
    rintro e w7 ⟨rfl, mv2, hq2⟩
    have R1 := Lib.hid (hq2.other L2.out L1.out (by have := PP.out; omega) (fun m _ h => by cases h))
    have R3 := Lib.hid (hq2.other L2.out L3.out (by have := PP.out; omega) (fun m h => by cases h))
    have R2 := Lib.hid hq2.node
    have B7 := Lib.hid (B6.out.trans (hq2.below (by have := PP.out; omega) (fun m h => by cases h) B6.out.size))
    clear hq2 hset2 L1 L2 L3 B6
    have hle := getL_le (fs := [upd (fun _ => none) s b, upd (fun _ => none) s a]) (M := 900000) (by
      intro f hf
      simp only [List.mem_cons, List.not_mem_nil, or_false] at hf
      rcases hf with rfl | rfl
      · exact upd_le (fun l t h => by cases h) (by omega)
      · exact upd_le (fun l t h => by cases h) (by omega))
    have hexp := expand_c (.cons R2.out (.cons R1.out .nil)) hle (36 :: 123 :: (s ++ [125])) (by simp; omega)
    rw [expand_some (exp_braces _ HNM.out) (by rw [getL_low]; omega), getL_low, ptr_some] at hexp
    have hcat1 : (⟨#[36, 123]⟩ : ByteArray) ++ mk s = mk (36 :: 123 :: s) := mk_append [36, 123] s
    have hcat2 : mk (36 :: 123 :: s) ++ (⟨#[125]⟩ : ByteArray) = mk (36 :: 123 :: (s ++ [125])) := mk_append (36 :: 123 :: s) [125]
    have hzc : (mk (36 :: 123 :: s)).size = s.length + 2 := by rw [mk_size]; rfl
    clear hle
    go_wp2_with fail
    with_reducible refine hexp.mono ?_
    rintro e w8 ⟨rfl, hb8⟩
    have S1 := Lib.hid (R1.out.below hb8)
    have S2 := Lib.hid (R2.out.below hb8)
    have S3 := Lib.hid (R3.out.below hb8)
    have B8 := Lib.hid (B7.out.trans (hb8.mono B7.out.size))
    have hg1 := get_c (.cons S2.out (.cons S1.out .nil)) s (by omega)
    rw [getL_low, ptr_some] at hg1
    have ebb : ((mk b).toList == (mk b).toList) = true := by simp
    clear hb8 hexp R1 R2 R3 B7
    go_wp2_with fail
    refine hg1.mono ?_
    rintro e w9 ⟨rfl, hb9⟩
    have T1 := Lib.hid (S1.out.below hb9)
    have T3 := Lib.hid (S3.out.below hb9)
    have B9 := Lib.hid (B8.out.trans (hb9.mono B8.out.size))
    have hg2 := get_c (.cons T1.out .nil) s (by omega)
    rw [getL_one, ptr_some] at hg2
    clear hb9 hg1 S1 S2 S3 B8
    go_wp2_with fail
    refine hg2.mono ?_
    rintro e w10 ⟨rfl, hb10⟩
    have U1 := Lib.hid (T1.out.below hb10)
    have U3 := Lib.hid (T3.out.below hb10)
    have B10 := Lib.hid (B9.out.trans (hb10.mono B9.out.size))
    have hg3 := get_c (.cons U3.out (.cons U1.out .nil)) s (by omega)
    rw [getL_up, ptr_some] at hg3
    clear hb10 hg2 T1 T3 B9
    go_wp2_with fail
    refine hg3.mono ?_
    rintro e w11 ⟨rfl, hb11⟩
    have B11 := Lib.hid (B10.out.trans (hb11.mono B10.out.size))
    clear hb11 hg3
    go_wp2_with fail
    refine (haw _).mono ?_
    rintro e w12 ⟨rfl, hb12⟩
    go_wp2_with fail
    go_ret
    exact ⟨rfl, B11.out.trans (hb12.mono B11.out.size)⟩
end Go.Proofs.Ytbohnjiachnadaa.Sc
