/-
  ALL NEEDS OF AN EDGE: slices.Grow, slices.Concat, needs.
-/
import Derived.Test.YtbflodefmookiaaGwFew
import Derived.Lib.AppendZeros
namespace Go.Proofs.Ytbflodefmookiaa.Pr
open Go.RowKit Go.Proofs.Ytbflodefmookiaa Go.Proofs.Ytbflodefmookiaa.Df

theorem owns_strsT {w : World} {base : Nat} {v : Value} {n : Nat} {K : List Bs} (h : w.ownsRow base 9 1 v n (strV K)) : StrsT w v K := by
  refine ⟨owns_strs h, ?_⟩
  have hn : n = K.length := owns_n h
  rcases h.2 with ⟨e, h0⟩ | ⟨g, cap, cur, e, hb, hc, _⟩
  · exact .inl (List.eq_nil_of_length_eq_zero (by omega))
  · exact .inr ⟨g, 0, cap, cur, (0, 0), by rw [e, hn], hc⟩

set_option maxRecDepth 100000 in
set_option maxHeartbeats 4000000 in
theorem grow_c (n : Nat) (hn : n ≤ 1000000) (w : World) : Calls Try.prog 75 #[.slice none 0 0, .int .i64 n] w fun e w' => ∃ a c, e = .returned (.slice a 0 c) ∧ w'.ownsRow w.heap.size 9 1 (.slice a 0 c) 0 [] ∧ Below w.heap.size w w' := by
  have i0 : ¬ (n : Int) < 0 := by omega
  by_cases h0 : n = 0
  · subst h0
    go_enter Try.func75, Try.ntmps75
    go_wp2_with fail
    go_ret
    exact ⟨none, 0, rfl, World.ownsRow_nil _ _ _ _, Below.refl _ _⟩
  · obtain ⟨ix, hi, hz0, hz1, hz2⟩ := info_parts info9
    have hr := Lib.run_append_nil_zeros (P := Try.prog) w 23 3 23 9 ix (.string ⟨#[]⟩) .i64 .i64 Try.underlying23 Try.underlying3 hi hz0 n (by omega) (by rw [hz1]; omega) (by omega) (by rw [hz2]; omega)
    have hge := grownCap_ge w n 0 9
    have hcm : grownCap w n 0 9 ≤ maxLen := grownCap_le_maxLen w n 0 9 (by unfold maxLen; omega)
    have hA : Below w.heap.size w (w.drew.alloc (.cells (Builtin.zeroCells (Value.string ⟨#[]⟩).cells n ++ Builtin.zeroCells (Value.string ⟨#[]⟩).cells (grownCap w n 0 9 - n)) 9)) := (Below.drew (Below.refl _ w)).alloc (Nat.le_refl _) _
    have hnew := heap_alloc_new w.drew (.cells (Builtin.zeroCells (Value.string ⟨#[]⟩).cells n ++ Builtin.zeroCells (Value.string ⟨#[]⟩).cells (grownCap w n 0 9 - n)) 9)
    have hown : (w.drew.alloc (.cells (Builtin.zeroCells (Value.string ⟨#[]⟩).cells n ++ Builtin.zeroCells (Value.string ⟨#[]⟩).cells (grownCap w n 0 9 - n)) 9)).ownsRow w.heap.size 9 1 (.slice (some ⟨w.heap.size, 0, none⟩) 0 (grownCap w n 0 9)) 0 [] := by
      refine ⟨rfl, .inr ⟨w.heap.size, _, _, rfl, Nat.le_refl _, hnew, Nat.zero_le _, hcm, ?_, by simp⟩⟩
      simp only [Array.size_append, size_zeroCells]
      have : (Value.string ⟨#[]⟩).cells.size = 1 := rfl
      rw [this]
      omega
    generalize (w.drew.alloc (.cells (Builtin.zeroCells (Value.string ⟨#[]⟩).cells n ++ Builtin.zeroCells (Value.string ⟨#[]⟩).cells (grownCap w n 0 9 - n)) 9)) = W at *
    generalize grownCap w n 0 9 = cp at *
    have HR := Lib.hid hr
    have HO := Lib.hid hown
    have HA := Lib.hid hA
    have i1 : (0 : Int) < (n : Int) := by omega
    have i2 : 0 < n := by omega
    have i3 : (0 : Int) ≤ (cp : Int) := by omega
    clear hr hown hA hnew h0
    go_enter Try.func75, Try.ntmps75
    go_wp2_with (at_builtin; refine Lib.wpList_append_run w rfl (.tmp 20) (.tmp 21) 23 3 rfl _ _ rfl rfl _ _ HR.out ?_)
    go_ret
    exact ⟨_, _, rfl, HO.out, HA.out⟩

theorem flat_take {KK : List (List Bs)} {j : Nat} {K : List Bs} (h : KK[j]? = some K) : (KK.take (j + 1)).flatten = (KK.take j).flatten ++ K := by
  rw [List.take_add_one, h]
  simp

set_option maxRecDepth 100000 in
set_option maxHeartbeats 8000000 in
theorem concat_c {w : World} {k : Nat} {C : Array Value} {KK : List (List Bs)} (hk : w.heap[k]? = some (.cells C 23 (0, 0))) (hl : KK.length ≤ 1000) (hL : ∀ K ∈ KK, K.length ≤ 1000) (hat : ∀ (j : Nat) K, KK[j]? = some K → ∃ v, C[j]? = some v ∧ Strs w v K) :
    Calls Try.prog 57 #[.slice (some ⟨k, 0, none⟩) KK.length KK.length] w fun e w' => ∃ v, e = .returned v ∧ StrsT w' v KK.flatten ∧ Below w.heap.size w w' := by
  have HK := Lib.hid hk
  have HAT := Lib.hid hat
  have HLL := Lib.hid hL
  have HFL : Hid (∀ j, j ≤ KK.length → (KK.take j).flatten.length ≤ 1000 * j) := Lib.hid fun j => by
    induction j with
    | zero => intro _; simp
    | succ j ih =>
      intro hj
      have hx := List.getElem?_eq_getElem (show j < KK.length by omega)
      rw [flat_take hx, List.length_append]
      have h1 := ih (by omega)
      have h2 := hL _ (List.getElem_mem (show j < KK.length by omega))
      omega
  clear hk hat hL
  go_enter Try.func57, Try.ntmps57
  go_wp2_with fail
  go_loopw [3, 5, 11] (fun s _ i wr => ∃ j : Nat, j ≤ KK.length ∧ i = .int .i64 j ∧ s = .int .i64 ((KK.take j).flatten.length : Nat) ∧ w = wr) (fun _ _ i _ => KK.length - (intOf i).toNat)
  case atStart => exact ⟨0, Nat.zero_le _, rfl, rfl, rfl⟩
  case round =>
    obtain ⟨j, hj, rfl, rfl, rfl⟩ := hrel
    have hfl := HFL.out j hj
    by_cases hlt : j < KK.length
    · have hx := List.getElem?_eq_getElem hlt
      have hft := flat_take hx
      obtain ⟨v, hv, hS⟩ := HAT.out j _ hx
      have hkl := HLL.out _ (List.getElem_mem hlt)
      generalize KK[j] = K at *
      have hc0 : w.cell? ⟨k, j, none⟩ = some v := by simp [World.cell?, HK.out, hv]
      obtain ⟨a, c, rfl, -, -⟩ := hS
      have e1 : ((KK.take (j + 1)).flatten.length) = (KK.take j).flatten.length + K.length := by rw [hft, List.length_append]
      have HE := Lib.hid e1
      generalize (KK.take j).flatten.length = s at *
      have hi0 : (0 : Int) ≤ (j : Int) := by omega
      have hi1 : (j : Int) < (KK.length : Int) := by omega
      have hs0 : ¬ (s : Int) + (K.length : Int) < 0 := by omega
      clear hx hft hv e1
      go_wp2_with fail
      go_roundw
      case rel => exact ⟨j + 1, by omega, by go_num, by rw [HE.out]; rfl, trivial⟩
      case measure => simp [intOf] <;> omega
    · obtain rfl : j = KK.length := by omega
      rw [List.take_length] at hfl ⊢
      have hg := grow_c KK.flatten.length (by omega) w
      obtain ⟨s, hs⟩ : ∃ s, KK.flatten.length = s := ⟨_, rfl⟩
      rw [hs] at hg hfl ⊢
      clear hs
      go_wp2_with fail
      refine hg.mono ?_
      rintro e w1 ⟨a1, c1, rfl, hown, hb⟩
      have HO0 : Hid (w1.ownsRow w.heap.size 9 1 (.slice a1 ([] : List Bs).length c1) ([] : List Bs).length (strV [])) := Lib.hid hown
      have HB0 := Lib.hid hb
      clear hg hown hb
      go_wp2_with fail
      go_loopw [6, 8, 27] (fun v _ i W => ∃ (m : Nat) (K : List Bs) (a : Option Addr) (c : Nat), m ≤ KK.length ∧ i = .int .i64 m ∧ v = .slice a K.length c ∧ Hid (K = (KK.take m).flatten) ∧ Hid (W.ownsRow w.heap.size 9 1 (.slice a K.length c) K.length (strV K)) ∧ Hid (Below w.heap.size w W)) (fun _ _ i _ => KK.length - (intOf i).toNat)
      case atStart => exact ⟨0, [], a1, c1, Nat.zero_le _, rfl, rfl, Lib.hid (by simp), HO0, HB0⟩
      case round =>
        clear HO0 HB0
        obtain ⟨m, M, a, c, hm, rfl, rfl, HM, HO, HB⟩ := hrel
        by_cases hlt : m < KK.length
        · have hx := List.getElem?_eq_getElem hlt
          have hft := flat_take hx
          obtain ⟨v, hv, hS⟩ := HAT.out m _ hx
          have hkl := HLL.out _ (List.getElem_mem hlt)
          generalize KK[m] = K at *
          have hkk : k < w.heap.size := lt_some HK.out
          have hc0 : wr.cell? ⟨k, m, none⟩ = some v := by
            rw [cell_of_block (HB.out.block k hkk)]
            simp [World.cell?, HK.out, hv]
          obtain ⟨a2, c2, rfl, -, -⟩ := id hS
          have hml : M.length ≤ 1000 * m := by rw [HM.out]; exact HFL.out m hm
          obtain ⟨a3, c3, W2, hrun, hown2, hg2⟩ := run_appK HO.out HB.out.size (hS.below HB.out) (by omega)
          obtain ⟨N, hN⟩ : ∃ N, M ++ K = N := ⟨_, rfl⟩
          rw [hN] at hrun hown2
          have HN : Hid (N = (KK.take (m + 1)).flatten) := Lib.hid (by rw [← hN, hft, HM.out])
          have HB2 : Hid (Below w.heap.size w W2) := Lib.hid (HB.out.trans ⟨hg2.os, hg2.tape, hg2.output, hg2.size, fun q hq => hg2.block q (by have := HB.out.size; omega) fun e => by
            have := (owns_block HO.out e.symm).1
            omega⟩)
          have HR := Lib.hid hrun
          have HO2 := Lib.hid hown2
          have hi0 : (0 : Int) ≤ (m : Int) := by omega
          have hi1 : (m : Int) < (KK.length : Int) := by omega
          clear hx hft hv hrun hown2 hg2 hN hS
          go_wp2_with (at_builtin; refine wpList_run rfl (.tmp 31) (.tmp 32) rfl rfl rfl HR.out ?_)
          go_roundw
          case rel => exact ⟨m + 1, N, a3, c3, by omega, by go_num, rfl, HN, HO2, HB2⟩
          case measure => simp [intOf] <;> omega
        · obtain rfl : m = KK.length := by omega
          rw [List.take_length] at HM
          go_wp2_with fail
          go_ret
          exact ⟨_, rfl, by rw [← HM.out]; exact owns_strsT HO.out, HB.out⟩

set_option maxRecDepth 100000 in
set_option maxHeartbeats 8000000 in
theorem needs_c {w : World} {e : Ed} {v0 v1 v2 v3 : Value} (h : EdV w e v0 v1 v2 v3) (h1 : e.ins.length ≤ 1000) (h2 : e.imp.length ≤ 1000) (h3 : e.ord.length ≤ 1000) :
    Calls Try.prog 46 #[.agg #[v0, v1, v2, v3, .string (mk e.cmd), .string (mk e.dep)]] w fun x w' => ∃ v, x = .returned v ∧ StrsT w' v (e.ins ++ e.imp ++ e.ord) ∧ Below w.heap.size w w' := by
  have hA := below_alloc w (.cells #[v0, v1, v2, v3, .string (mk e.cmd), .string (mk e.dep)] 52)
  obtain ⟨c0, c1, c2, c3, c4, c5⟩ := box6 (w := w) (v0 := v0) (v1 := v1) (v2 := v2) (v3 := v3) (v4 := .string (mk e.cmd)) (v5 := .string (mk e.dep)) (t := 52)
  obtain ⟨wB, hwB⟩ : ∃ wB, w.alloc (.cells #[v0, v1, v2, v3, .string (mk e.cmd), .string (mk e.dep)] 52) = wB := ⟨_, rfl⟩
  rw [hwB] at hA c0 c1 c2 c3 c4 c5
  have hA2 := below_alloc wB (.cells #[v1, v2, v3] 23)
  have hE2 := (h.below hA).below hA2
  have hc := concat_c (KK := [e.ins, e.imp, e.ord]) (heap_alloc_new wB (.cells #[v1, v2, v3] 23)) (by simp) (fun K hK => by simp at hK; rcases hK with rfl | rfl | rfl <;> assumption) (fun j K hj => by
    match j, hj with
    | 0, hj => cases hj; exact ⟨v1, rfl, hE2.i⟩
    | 1, hj => cases hj; exact ⟨v2, rfl, hE2.m⟩
    | 2, hj => cases hj; exact ⟨v3, rfl, hE2.r⟩)
  have hsz : ([e.ins, e.imp, e.ord] : List (List Bs)).length = 3 := rfl
  have hfl : [e.ins, e.imp, e.ord].flatten = e.ins ++ e.imp ++ e.ord := by simp
  rw [hsz, hfl] at hc
  obtain ⟨a0, k0, a1, k1, a2, k2, a3, k3, rfl, rfl, rfl, rfl⟩ := h.sl
  have HA := Lib.hid hA
  have HA2 := Lib.hid hA2
  have HWB := Lib.hid hwB
  clear h hA hA2 hE2 hwB h1 h2 h3
  generalize e.ins ++ e.imp ++ e.ord = N at *
  go_enter Try.func46, Try.ntmps46
  go_upto_region 1 with fail
  rw [HWB.out]
  go_wp2_with fail
  refine hc.mono ?_
  rintro x w1 ⟨v, rfl, hS, hb⟩
  have HF : Hid (StrsT w1 v N ∧ Below w.heap.size w w1) := Lib.hid ⟨hS, HA.out.trans ((HA2.out.trans (hb.mono HA2.out.size)).mono HA.out.size)⟩
  clear hc hS hb
  go_wp2_with fail
  go_ret
  exact ⟨v, rfl, HF.out⟩
end Go.Proofs.Ytbflodefmookiaa.Pr
