/-
  THE DOCUMENT's Put: a name into a row that rises, once.
-/
import Derived.Test.YtbflodefmookiaaGrOuts
import Derived.Test.YtbflodefmookiaaGrRefN
import Derived.Test.YtbflodefmookiaaGrWrong
namespace Go.Proofs.Ytbflodefmookiaa.Gr
open Go.RowKit Go.Maps Go.Proofs.Ytbflodefmookiaa Go.Proofs.Ytbflodefmookiaa.Pr

theorem lessS (a b : Bs) : Op.bytesLess (mk a).toList (mk b).toList = decide (a < b) := by
  rw [mk_toList, mk_toList, bytesLess_eq]
section
variable {K : List Bs} {p : Bs → Prop} {s : Bs} {k : Nat}
theorem Rising.same (h : Rising K p) (hs : K[k]? = some s) : Rising K (fun x => p x ∨ x = s) :=
  ⟨h.nd, h.le, fun x => (h.mem x).trans ⟨.inl, fun hx => by
    rcases hx with hx | rfl
    · exact hx
    · exact (h.mem _).1 (List.mem_of_getElem? hs)⟩⟩
theorem Rising.put (h : Rising K p) (hlo : ∀ i x, i < k → K[i]? = some x → x < s) (hhi : ∀ x, K[k]? = some x → ¬ x < s ∧ x ≠ s) : Rising (K.take k ++ [s] ++ K.drop k) (fun x => p x ∨ x = s) := by
  have hdr : ∀ x ∈ K.drop k, s ≤ x ∧ x ≠ s := fun x hx => by
    obtain ⟨i, hi⟩ := List.getElem?_of_mem hx
    rw [List.getElem?_drop] at hi
    by_cases e : i = 0
    · subst e
      obtain ⟨h1, h2⟩ := hhi x hi
      exact ⟨List.not_lt.1 h1, h2⟩
    · have hlt : k + i < K.length := (List.getElem?_eq_some_iff.1 hi).1
      have hk := List.getElem?_eq_getElem (show k < K.length by omega)
      obtain ⟨h1, h2⟩ := hhi _ hk
      have h3 : K[k] ≤ x := by
        have := (List.pairwise_iff_getElem.1 h.le) k (k + i) (by omega) hlt (by omega)
        rwa [(List.getElem?_eq_some_iff.1 hi).2] at this
      refine ⟨List.le_trans (List.not_lt.1 h1) h3, fun e2 => h2 ?_⟩
      subst e2
      exact List.le_antisymm h3 (List.not_lt.1 h1)
  have htk : ∀ x ∈ K.take k, x < s := fun x hx => by
    obtain ⟨i, hi⟩ := List.getElem?_of_mem hx
    have hik : i < k := by
      have := (List.getElem?_eq_some_iff.1 hi).1
      rw [List.length_take] at this
      omega
    rw [List.getElem?_take_of_lt hik] at hi
    exact hlo i x hik hi
  have hsK : s ∉ K := fun hs => by
    rw [← List.take_append_drop k K] at hs
    rcases List.mem_append.1 hs with hs | hs
    · exact List.lt_irrefl s (htk s hs)
    · exact (hdr s hs).2 rfl
  have hpm : (K.take k ++ [s] ++ K.drop k).Perm (s :: K) := by
    have h1 : (K.take k ++ [s] ++ K.drop k).Perm ([s] ++ K.take k ++ K.drop k) := List.Perm.append_right _ List.perm_append_comm
    refine h1.trans (List.Perm.of_eq ?_)
    rw [List.append_assoc, List.take_append_drop]
    rfl
  have hle := h.le
  rw [← List.take_append_drop k K] at hle
  obtain ⟨l1, l2, l3⟩ := List.pairwise_append.1 hle
  refine ⟨hpm.nodup_iff.2 (List.nodup_cons.2 ⟨hsK, h.nd⟩), ?_, fun x => ?_⟩
  · refine List.pairwise_append.2 ⟨List.pairwise_append.2 ⟨l1, List.pairwise_singleton _ _, fun a ha b hb => ?_⟩, l2, fun a ha b hb => ?_⟩
    · rw [List.mem_singleton.1 hb]
      exact List.le_of_lt (htk a ha)
    · rcases List.mem_append.1 ha with ha | ha
      · exact l3 a ha b hb
      · rw [List.mem_singleton.1 ha]
        exact (hdr b hb).1
  · rw [hpm.mem_iff, List.mem_cons, h.mem]
    exact ⟨fun h => h.elim .inr .inl, fun h => h.elim .inr .inl⟩
end

theorem strs_drop {w : World} {g off c k : Nat} {K : List Bs} (h : Strs w (.slice (some ⟨g, off, none⟩) K.length c) K) (hk : k ≤ K.length) : Strs w (.slice (some ⟨g, off + k, none⟩) (K.drop k).length (c - k)) (K.drop k) := by
  obtain ⟨_, _, e, hc, h⟩ := h
  cases e
  have hl : (K.drop k).length = K.length - k := List.length_drop
  refine ⟨_, _, rfl, by omega, ?_⟩
  rcases h with h | ⟨_, _, e, hg, hcell⟩
  · exact .inl (by rw [h]; simp)
  · cases e
    refine .inr ⟨g, off + k, rfl, hg, fun j p hp => ?_⟩
    rw [List.getElem?_drop] at hp
    rw [Nat.add_assoc]
    exact hcell (k + j) p hp
theorem strs_take2 {w : World} {a : Option Addr} {c k : Nat} {K : List Bs} (h : Strs w (.slice a K.length c) K) (hk : k ≤ K.length) : Strs w (.slice a (K.take k).length c) (K.take k) := by
  obtain ⟨_, _, e, hc, h⟩ := h
  cases e
  have hl : (K.take k).length = k := by rw [List.length_take]; omega
  refine ⟨a, c, rfl, by omega, ?_⟩
  rcases h with h | ⟨g, off, e, hg, hcell⟩
  · exact .inl (by rw [h]; simp)
  · refine .inr ⟨g, off, e, hg, fun j p hp => hcell j p ?_⟩
    have hj : j < k := by
      have := (List.getElem?_eq_some_iff.1 hp).1
      omega
    rwa [List.getElem?_take_of_lt hj] at hp
/-- the three appends -/
theorem put_runs {w : World} {a : Option Addr} {c k : Nat} {K : List Bs} {s : Bs} {vd : Value} {d : Nat} {ad : Option Addr} (hK : Strs w (.slice a K.length c) K) (hk : k ≤ K.length) (hl : K.length ≤ 100000) (hd : Strs w (.slice ad (K.drop k).length d) (K.drop k)) (hvd : vd = .slice ad (K.drop k).length d) :
    ∃ a1 c1 W1 a2 c2 W2 a3 c3 W3, (Builtin.append_ #[23, 23] 23 #[.slice (some ⟨w.heap.size, 0, none⟩) 0 0, .slice a k c]).run Try.prog (w.alloc (.cells #[] 9)) = .ok (.slice a1 k c1) W1 ∧
      (Builtin.append_ #[23, 23] 23 #[.slice a1 k c1, .slice (some ⟨W1.heap.size, 0, none⟩) 1 1]).run Try.prog (W1.alloc (.cells #[.string (mk s)] 9)) = .ok (.slice a2 (k + 1) c2) W2 ∧
      (Builtin.append_ #[23, 23] 23 #[.slice a2 (k + 1) c2, vd]).run Try.prog W2 = .ok (.slice a3 (K.take k ++ [s] ++ K.drop k).length c3) W3 ∧
      StrsT W3 (.slice a3 (K.take k ++ [s] ++ K.drop k).length c3) (K.take k ++ [s] ++ K.drop k) ∧ Below w.heap.size w W3 := by
  have hlt : (K.take k).length = k := by rw [List.length_take]; omega
  have hA := below_alloc w (.cells #[] 9)
  have hO0 : (w.alloc (.cells #[] 9)).ownsRow w.heap.size 9 1 (.slice (some ⟨w.heap.size, 0, none⟩) ([] : List Bs).length 0) ([] : List Bs).length (strV []) := ⟨rfl, .inr ⟨w.heap.size, 0, #[], rfl, Nat.le_refl _, heap_alloc_new w _, Nat.le_refl _, by unfold maxLen; omega, rfl, rfl⟩⟩
  obtain ⟨a1, c1, W1, hr1, ho1, hg1⟩ := run_appK hO0 hA.size ((strs_take2 hK hk).below hA) (by simp; omega)
  rw [List.nil_append] at hr1 ho1
  have gb : ∀ (W W' : World) (v : Value) (n : Nat) (M : List Bs), W.ownsRow w.heap.size 9 1 v n (strV M) → W.grownBy W' v.ownBlock → Below w.heap.size w W → Below w.heap.size w W' := fun W W' v n M ho hg hb => hb.trans ⟨hg.os, hg.tape, hg.output, hg.size, fun q hq => hg.block q (by have := hb.size; omega) fun e => by
    have := (owns_block ho e.symm).1
    omega⟩
  have b1 := gb _ _ _ _ _ hO0 hg1 hA
  have hA2 := below_alloc W1 (.cells #[.string (mk s)] 9)
  have b1a := b1.trans (hA2.mono b1.size)
  have ho1a := owns_below ho1 hA2
  obtain ⟨a2, c2, W2, hr2, ho2, hg2⟩ := run_appK (M := [s]) ho1a b1a.size (strs_blk (K := [s]) (heap_alloc_new W1 (.cells #[.string (mk s)] 9)) rfl) (by rw [hlt]; simp; omega)
  have b2 := gb _ _ _ _ _ ho1a hg2 b1a
  obtain ⟨a3, c3, W3, hr3, ho3, hg3⟩ := run_appK ho2 b2.size (hd.below b2) (by simp; omega)
  have b3 := gb _ _ _ _ _ ho2 hg3 b2
  have e2 : (K.take k ++ [s]).length = k + 1 := by rw [List.length_append, hlt]; rfl
  rw [hlt] at hr1 hr2
  rw [e2] at hr2 hr3
  exact ⟨a1, c1, W1, a2, c2, W2, a3, c3, W3, hr1, hr2, by rw [hvd]; exact hr3, owns_strsT ho3, b3⟩

set_option maxRecDepth 100000 in
set_option maxHeartbeats 16000000 in
theorem putR_c {w : World} {v : Value} {K : List Bs} {s : Bs} {p : Bs → Prop} (hK : StrsT w v K) (hR : Rising K p) (hl : K.length ≤ 100000) (hnil : K = [] → v = .slice none 0 0) :
    Calls Try.prog 34 #[v, .string (mk s)] w fun e w' => ∃ v' K', e = .returned v' ∧ StrsT w' v' K' ∧ Rising K' (fun x => p x ∨ x = s) ∧ K'.length ≤ K.length + 1 ∧ Below w.heap.size w w' := by
  obtain ⟨aK, cK, rfl, hcK, hrK⟩ := id hK.1
  have HK := Lib.hid hK
  have HRI := Lib.hid hR
  clear hK hR
  go_enter Try.func34, Try.ntmps34
  go_wp2_with fail
  go_loopw [5] (fun i W => ∃ j : Nat, j ≤ K.length ∧ i = .int .i64 j ∧ Hid (∀ i x, i < j → K[i]? = some x → x < s) ∧ Hid (W = w)) (fun i _ => K.length - (intOf i).toNat)
  case atStart => exact ⟨0, Nat.zero_le _, rfl, Lib.hid (fun i x h => by omega), Lib.hid rfl⟩
  case round =>
    obtain ⟨j, hj, rfl, HLO, HWW⟩ := hrel
    by_cases hlt : j < K.length
    · have hx := List.getElem?_eq_getElem hlt
      generalize K[j] = x at *
      rcases hrK with h | ⟨gK, oK, rfl, hgK, hcell⟩
      · rw [h] at hlt; simp at hlt
      have s0 : wr.cell? ⟨gK, oK + j, none⟩ = some (.string (mk x)) := by rw [HWW.out]; exact hcell j x hx
      have hj0 : (0 : Int) ≤ (j : Int) := by omega
      have hj1 : (j : Int) < (K.length : Int) := by omega
      have hless := lessS x s
      have hcmp := cmpS x s
      by_cases h1 : x < s
      · rw [decide_eq_true h1] at hless
        have HLO2 : Hid (∀ i y, i < j + 1 → K[i]? = some y → y < s) := Lib.hid fun i y hi hy => by
          by_cases e : i = j
          · subst e; rw [hx] at hy; cases hy; exact h1
          · exact HLO.out i y (by omega) hy
        clear hx hcell h1
        go_wp2_with fail
        go_roundw
        case rel => exact ⟨j + 1, by omega, by go_num, HLO2, HWW⟩
        case measure => simp [intOf]; omega
      · rw [decide_eq_false h1] at hless
        by_cases h2 : x = s
        · rw [decide_eq_true h2] at hcmp
          subst h2
          have HR2 := Lib.hid (HRI.out.same hx)
          clear hx hcell h1
          go_wp2_with fail
          go_ret
          have e := HWW.out
          rw [e]
          exact ⟨_, K, rfl, HK.out, HR2.out, by omega, Below.refl _ _⟩
        · rw [decide_eq_false h2] at hcmp
          have HR2 : Hid (Rising (K.take j ++ [s] ++ K.drop j) (fun x => p x ∨ x = s)) := Lib.hid (HRI.out.put HLO.out fun y hy => by rw [hx] at hy; cases hy; exact ⟨h1, h2⟩)
          clear hx hcell h1 h2
          have hc0 : (j : Int) ≤ (cK : Int) := by omega
          have hc1 : (j : Int) ≤ (K.length : Int) := by omega
          have hww : w = wr := HWW.out.symm
          subst hww
          obtain ⟨a1, c1, W1, a2, c2, W2, a3, c3, W3, hr1, hr2, hr3, hst, hb⟩ := put_runs (s := s) (vd := .slice (some ⟨gK, oK + j, none⟩) (K.length - j) (cK - j)) HK.out.1 hj hl (strs_drop HK.out.1 hj) (by rw [List.length_drop])
          have HST := Lib.hid hst
          have HB := Lib.hid hb
          have HLE : Hid ((K.take j ++ [s] ++ K.drop j).length ≤ K.length + 1) := Lib.hid (by simp; omega)
          obtain ⟨R, hRR⟩ : ∃ R, K.take j ++ [s] ++ K.drop j = R := ⟨_, rfl⟩
          rw [hRR] at hr3 HST HLE HR2
          clear hst hb HWW hRR
          go_wp2_with (first
            | (at_builtin; refine wpList_run rfl (.tmp 34) (.tmp 37) rfl rfl rfl hr1 ?_)
            | (at_builtin; refine wpList_run rfl (.tmp 38) (.tmp 40) rfl rfl rfl hr2 ?_)
            | (at_builtin; refine wpList_run rfl (.tmp 42) (.tmp 45) rfl rfl rfl hr3 ?_))
          go_ret
          exact ⟨_, R, rfl, HST.out, HR2.out, HLE.out, HB.out⟩
    · obtain rfl : j = K.length := by omega
      have HR2 : Hid (Rising (K.take K.length ++ [s] ++ K.drop K.length) (fun x => p x ∨ x = s)) := Lib.hid (HRI.out.put HLO.out fun y hy => by simp at hy)
      have hww : w = wr := HWW.out.symm
      subst hww
      rcases hrK with h | ⟨gK, oK, rfl, hgK, hcell⟩
      · have hv := hnil h
        injection hv with e1 _ e3
        subst e1 e3
        obtain ⟨a1, c1, W1, a2, c2, W2, a3, c3, W3, hr1, hr2, hr3, hst, hb⟩ := put_runs (s := s) (vd := .slice none 0 0) (d := 0) (ad := none) HK.out.1 hj hl (by rw [List.drop_length]; exact ⟨_, _, rfl, Nat.zero_le _, .inl rfl⟩) (by rw [List.drop_length]; rfl)
        have HST := Lib.hid hst
        have HB := Lib.hid hb
        have HLE : Hid ((K.take K.length ++ [s] ++ K.drop K.length).length ≤ K.length + 1) := Lib.hid (by simp)
        obtain ⟨R, hRR⟩ : ∃ R, K.take K.length ++ [s] ++ K.drop K.length = R := ⟨_, rfl⟩
        rw [hRR] at hr3 HST HLE HR2
        clear hst hb HWW hRR
        have hk0 : K.length = 0 := by rw [h]; rfl
        rw [hk0] at hr1 hr2 hr3 ⊢
        clear h
        go_wp2_with (first
          | (at_builtin; refine wpList_run rfl (.tmp 34) (.tmp 37) rfl rfl rfl hr1 ?_)
          | (at_builtin; refine wpList_run rfl (.tmp 38) (.tmp 40) rfl rfl rfl hr2 ?_)
          | (at_builtin; refine wpList_run rfl (.tmp 42) (.tmp 45) rfl rfl rfl hr3 ?_))
        go_ret
        exact ⟨_, R, rfl, HST.out, HR2.out, by have := HLE.out; omega, HB.out⟩
      · have hc0 : (K.length : Int) ≤ (cK : Int) := by omega
        have hj0 : (0 : Int) ≤ (K.length : Int) := by omega
        obtain ⟨ax, hax⟩ : ∃ ax, (if cK = K.length then some (⟨gK, oK, none⟩ : Addr) else some ⟨gK, oK + K.length, none⟩) = ax := ⟨_, rfl⟩
        obtain ⟨a1, c1, W1, a2, c2, W2, a3, c3, W3, hr1, hr2, hr3, hst, hb⟩ := put_runs (s := s) (vd := .slice ax 0 (cK - K.length)) (d := cK - K.length) (ad := ax) HK.out.1 hj hl (by rw [List.drop_length]; exact ⟨_, _, rfl, Nat.zero_le _, .inl rfl⟩) (by rw [List.drop_length]; rfl)
        have HST := Lib.hid hst
        have HB := Lib.hid hb
        have HLE : Hid ((K.take K.length ++ [s] ++ K.drop K.length).length ≤ K.length + 1) := Lib.hid (by simp)
        obtain ⟨R, hRR⟩ : ∃ R, K.take K.length ++ [s] ++ K.drop K.length = R := ⟨_, rfl⟩
        rw [hRR] at hr3 HST HLE HR2
        clear hst hb HWW hRR
        go_wp2_with (first
          | (at_builtin; refine wpList_run rfl (.tmp 34) (.tmp 37) rfl rfl rfl hr1 ?_)
          | (at_builtin; refine wpList_run rfl (.tmp 38) (.tmp 40) rfl rfl rfl hr2 ?_)
          | (at_builtin; refine wpList_run rfl (.tmp 42) (.tmp 45) rfl rfl rfl hr3 ?_))
        go_ret
        exact ⟨_, R, rfl, HST.out, HR2.out, HLE.out, HB.out⟩
end Go.Proofs.Ytbflodefmookiaa.Gr
