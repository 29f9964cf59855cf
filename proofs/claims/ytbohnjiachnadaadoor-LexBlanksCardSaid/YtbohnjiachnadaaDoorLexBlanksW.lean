/-
  The law LexBlanks, walked.
-/
import Derived.Test.YtbohnjiachnadaaDoorLdBlk
import Derived.Test.YtbohnjiachnadaaDoorLexNumbersW
namespace Go.Proofs.YtbohnjiachnadaaDoor.Lx
open Go.RowKit
set_option linter.unusedVariables false

/-- a slice of uint16, as it is read -/
def HRow (w : World) (v : Value) (l : List Nat) : Prop :=
  ∃ a c, v = .slice a l.length c ∧ (l = [] ∨ ∃ g off, a = some ⟨g, off, none⟩ ∧ g < w.heap.size ∧ ∀ (j : Nat) p, l[j]? = some p → p < 65536 ∧ w.cell? ⟨g, off + j, none⟩ = some (.int .u16 (p : Int)))
def Want (w W : World) (v : Value) (K : List Bs) : Prop := W.ownsRow w.heap.size 9 1 v K.length (strV K) ∧ Below w.heap.size w W
theorem owns_at2 {w : World} {base : Nat} {e : TypeId} {size : Nat} {a : Option Addr} {n c : Nat} {xs : List Value} (h : w.ownsRow base e size (.slice a n c) n xs) (hn : n ≠ 0) :
    ∃ g, a = some ⟨g, 0, none⟩ ∧ base ≤ g ∧ g < w.heap.size ∧ ∀ (j : Nat) u, xs[j]? = some u → w.cell? ⟨g, j, none⟩ = some u := by
  rcases h.2 with ⟨_, h0⟩ | ⟨g, cap, cur, e1, hb, hg, _, _, _, htk⟩
  · exact absurd h0 hn
  · obtain ⟨e2, _, _⟩ := Value.slice.inj e1
    refine ⟨g, e2, hb, (Array.getElem?_eq_some_iff.1 hg).1, fun j u hj => ?_⟩
    rw [← htk, List.getElem?_take] at hj
    split at hj
    · simp only [World.cell?, hg]
      simpa using hj
    · cases hj
theorem owns_own {w : World} {base : Nat} {e : TypeId} {size : Nat} {v : Value} {n : Nat} {xs : List Value} (h : w.ownsRow base e size v n xs) {k : Nat} (hk : w.heap.size ≤ k) : some k ≠ v.ownBlock := by
  rcases h.2 with ⟨rfl, _⟩ | ⟨g, cap, cur, rfl, _, hg, _⟩
  · intro e; cases e
  · intro e
    cases e
    exact absurd (Array.getElem?_eq_some_iff.1 hg).1 (Nat.not_lt.2 hk)
theorem wpList_append_strG {w : World} {ops : Array Oper} {rest : List Oper} {o : Oper} {a : Act} {Q : Exit → Act → World → Prop} (hgd : o.guard = none) (s x : Operand)
    (ho : o.op = .call { callee := .builtin .append, args := #[s, x], argTypes := #[30, 30] })
    (base : Nat) (v : Value) (n : Nat) (K : List Bs) (hs : a.eval s = v) (hown : w.ownsRow base 9 1 v n (strV K))
    (ad : Addr) (c : Nat) (p : Bs) (hx : a.eval x = .slice (some ad) 1 c) (hnews : ∀ j u, [Value.string (mk p)][j]? = some u → w.cell? (ad.add j) = some u)
    (hn : n ≤ 1000000) (hbase : base ≤ w.heap.size)
    (h : ∀ a' c' w', w'.ownsRow base 9 1 (.slice a' (n + 1) c') (n + 1) (strV (K ++ [p])) → Below base w w' → w.grownBy w' v.ownBlock → wpList Tryd.prog ops Q rest (a.put o.dst (.slice a' (n + 1) c')) w') : wpList Tryd.prog ops Q (o :: rest) a w := by
  obtain ⟨i0, hi, hz0, hz1, hz2⟩ := info_parts info9
  refine wpList_append_own w hgd s x 30 ho base 9 i0 (.string ⟨#[]⟩) 1 16 Tryd.underlying30 hi hz0 hz1 hz2 rfl (by decide) v n (strV K) hs hown ad 1 c [.string (mk p)] hx rfl hnews (by simp [Value.oneCell']) (by unfold maxLen; omega) (by omega) hbase ?_
  intro v' w' h1 h2 _
  have h3 : w'.ownsRow base 9 1 v' (n + 1) (strV (K ++ [p])) := by rw [strV_snoc]; exact h1
  obtain ⟨a', c', rfl⟩ := owns_len h3
  exact h a' c' w' h3 ((Below.refl _ _).grown h2 hbase fun k hk => (hown.lt k hk).1) h2
def plB (ks : List Nat) : Bs := ks.flatMap fun k => wd k ++ [32]
theorem plB_snoc (ks : List Nat) (k : Nat) : plB (ks ++ [k]) = plB ks ++ (wd k ++ [32]) := by simp [plB]
theorem wd_le : ∀ k, (wd k).length ≤ 4
  | 0 => by decide
  | 1 => by decide
  | 2 => by decide
  | 3 => by decide
  | 4 => by decide
  | 5 => by decide
  | 6 => by decide
  | 7 => by decide
  | k + 8 => Nat.le_refl _
theorem plB_le : ∀ ks : List Nat, (plB ks).length ≤ 5 * ks.length
  | [] => Nat.le_refl _
  | k :: ks => by
    show ((wd k ++ [32]) ++ plB ks).length ≤ _
    have := wd_le k
    have := plB_le ks
    simp only [List.length_append, List.length_cons, List.length_nil]
    omega
theorem body_le (y : Bool) : ∀ ks : List Nat, (body y ks).length ≤ 12 * ks.length
  | [] => Nat.le_refl _
  | k :: ks => by
    show ((wd k ++ [32, 32, 32, 32] ++ (if y then [36, 10, 32, 32] else [])) ++ body y ks).length ≤ _
    have := wd_le k
    have := body_le y ks
    cases y <;> (simp; omega)

set_option maxRecDepth 100000 in
set_option maxHeartbeats 8000000 in
theorem lexBlanks_false {w : World} {v : Value} {l : List Nat} (h : HRow w v l) (t : Nat) (ht : t < 256) (hy : ¬ t % 3 = 0) :
    Calls Tryd.prog 4 #[v, .int .u8 (t : Int)] w fun e w' => e = .returned (.bool true) ∧ Below w.heap.size w w' := by
  obtain ⟨a, c, rfl, hrow⟩ := h
  by_cases hl : 60 < l.length
  · have hli : (60 : Int) < (l.length : Int) := by omega
    generalize l.length = n at *
    clear hrow
    go_enter Tryd.func4, Tryd.ntmps4
    go_wp2
    go_ret
    exact ⟨rfl, Below.refl _ _⟩
  obtain ⟨n, hn⟩ : ∃ n, l.length = n := ⟨_, rfl⟩
  rw [hn] at hl ⊢
  have hli : ¬ (60 : Int) < (n : Int) := by omega
  have HN := Lib.hid hn
  have HROW := Lib.hid hrow
  clear hn hrow
  obtain ⟨M, hM⟩ : ∃ M, l.map (· % 9) = M := ⟨_, rfl⟩
  have HM := Lib.hid hM
  have HML := Lib.hid (show M.length = n by rw [← hM, List.length_map, HN.out])
  clear hM
  obtain ⟨r, hr⟩ : ∃ r : Nat, t % 3 = r := ⟨_, rfl⟩
  have hti : (t : Int) % 3 = (r : Int) := by omega
  have hr2 : ¬ r = 0 := by omega
  have hr3 : ((r : Int) == 0) = false := by rw [beq_eq_false_iff_ne]; omega
  clear hr hy hr2
  go_enter Tryd.func4, Tryd.ntmps4
  go_wp2_with fail
  go_loopw [5, 6, 7, 8, 9] (fun wn px wx i _ W' => ∃ j : Nat, i = .int .i64 j ∧ j ≤ n ∧ px = .string (mk (plB (M.take j))) ∧ wx = .string (mk ([32, 32, 32] ++ body false (M.take j))) ∧ Hid (Want w W' wn ((M.take j).map wd))) (fun _ _ _ i _ _ => n - (intOf i).toNat)
  case atStart => exact ⟨0, rfl, Nat.zero_le _, rfl, rfl, Lib.hid ⟨World.ownsRow_nil _ _ _ _, Below.refl _ _⟩⟩
  case round =>
    obtain ⟨j, rfl, hj, rfl, rfl, HT⟩ := hrel
    by_cases hlt : j < n
    · obtain ⟨p, hp⟩ : ∃ p, l[j]? = some p := ⟨_, List.getElem?_eq_getElem (by rw [HN.out]; exact hlt)⟩
      have hne : l ≠ [] := by rintro rfl; cases hp
      obtain ⟨g, off, rfl, hgl, hcell⟩ := HROW.out.resolve_left hne
      have c0 : wr.cell? ⟨g, off + j, none⟩ = some (.int .u16 (p : Int)) := (HT.out.2.cell hgl).trans (hcell j p hp).2
      have hp256 := (hcell j p hp).1
      have c1 : (wr.alloc (.cells #[.string ⟨#[97]⟩, .string ⟨#[98, 99]⟩, .string ⟨#[100, 36, 32, 101]⟩, .string ⟨#[102, 36, 36]⟩, .string ⟨#[58]⟩, .string ⟨#[124]⟩, .string ⟨#[124, 124]⟩, .string ⟨#[36, 103]⟩, .string ⟨#[104, 36, 58, 105]⟩] 9)).cell? ⟨g, off + j, none⟩ = some (.int .u16 (p : Int)) := ((below_alloc wr (.cells #[.string ⟨#[97]⟩, .string ⟨#[98, 99]⟩, .string ⟨#[100, 36, 32, 101]⟩, .string ⟨#[102, 36, 36]⟩, .string ⟨#[58]⟩, .string ⟨#[124]⟩, .string ⟨#[124, 124]⟩, .string ⟨#[36, 103]⟩, .string ⟨#[104, 36, 58, 105]⟩] 9)).cell (p := ⟨g, off + j, none⟩) (Nat.lt_of_lt_of_le hgl HT.out.2.size)).trans c0
      obtain ⟨k, hk⟩ : ∃ k, p % 9 = k := ⟨_, rfl⟩
      have hMk : M.take (j + 1) = M.take j ++ [k] := by
        rw [List.take_add_one, ← HM.out, List.getElem?_map, hp]
        simp [hk]
      have HMK := Lib.hid hMk
      have hk9 : k < 9 := by omega
      have hTl := plB_le (M.take j)
      have hBl := body_le false (M.take j)
      have hTj : (M.take j).length ≤ j := by rw [List.length_take]; omega
      obtain ⟨P, hP⟩ : ∃ P, M.take j = P := ⟨_, rfl⟩
      have HP := Lib.hid hP
      rw [hP] at hTl hTj hBl HT ⊢
      obtain ⟨T, hT⟩ : ∃ T, plB P = T := ⟨_, rfl⟩
      obtain ⟨B, hB⟩ : ∃ B, [32, 32, 32] ++ body false P = B := ⟨_, rfl⟩
      have HTT := Lib.hid hT
      have HBB := Lib.hid hB
      have hBl2 : B.length ≤ 3 + 12 * P.length := by rw [← hB, List.length_append]; simp; omega
      rw [hT] at hTl
      try rw [hT]
      try rw [hB]
      have hzT := mk_size T
      have hzB := mk_size B
      have hpn : (P.map wd).length ≤ 1000000 := by rw [List.length_map]; omega
      obtain ⟨K, hKK⟩ : ∃ K, P.map wd = K := ⟨_, rfl⟩
      rw [hKK] at hpn HT
      have HKK := Lib.hid hKK
      clear hne hcell hp hMk hP hT hB hBl hKK
      have hkc : k = 0 ∨ k = 1 ∨ k = 2 ∨ k = 3 ∨ k = 4 ∨ k = 5 ∨ k = 6 ∨ k = 7 ∨ k = 8 := by omega
      rcases hkc with rfl | rfl | rfl | rfl | rfl | rfl | rfl | rfl | rfl
      · have hki2 : (p : Int) % 9 = 0 := by omega
        have hw1 : (⟨#[97]⟩ : ByteArray) ++ (⟨#[32]⟩ : ByteArray) = mk [97, 32] := mk_append [97] [32]
        have hw2 : mk T ++ mk [97, 32] = mk (T ++ [97, 32]) := mk_append _ _
        have hv1 : (⟨#[97]⟩ : ByteArray) ++ (⟨#[32, 32, 32, 32]⟩ : ByteArray) = mk [97, 32, 32, 32, 32] := mk_append [97] [32, 32, 32, 32]
        have hv2 : mk B ++ mk [97, 32, 32, 32, 32] = mk (B ++ [97, 32, 32, 32, 32]) := mk_append _ _
        have hv3 : mk (B ++ [97, 32, 32, 32, 32]) ++ (⟨#[36, 10, 32, 32]⟩ : ByteArray) = mk ((B ++ [97, 32, 32, 32, 32]) ++ [36, 10, 32, 32]) := mk_append _ _
        have hs1 : (mk [97, 32]).size = 2 := mk_size _
        have hs2 : (mk [97, 32, 32, 32, 32]).size = 5 := mk_size _
        have hs3 : (mk (B ++ [97, 32, 32, 32, 32])).size = B.length + 5 := by rw [mk_size, List.length_append]; rfl
        have HTX := Lib.hid (show plB (M.take (j + 1)) = T ++ [97, 32] by rw [HMK.out, HP.out, plB_snoc, HTT.out]; rfl)
        have HBX := Lib.hid (show [32, 32, 32] ++ body false (M.take (j + 1)) = B ++ [97, 32, 32, 32, 32] by rw [HMK.out, HP.out, body_snoc, ← HBB.out]; simp [wd])
        have HWX := Lib.hid (show (M.take (j + 1)).map wd = K ++ [[97]] by rw [HMK.out, HP.out, List.map_append, HKK.out]; rfl)
        have HB5 := Lib.hid ((below_alloc wr (.cells #[.string ⟨#[97]⟩, .string ⟨#[98, 99]⟩, .string ⟨#[100, 36, 32, 101]⟩, .string ⟨#[102, 36, 36]⟩, .string ⟨#[58]⟩, .string ⟨#[124]⟩, .string ⟨#[124, 124]⟩, .string ⟨#[36, 103]⟩, .string ⟨#[104, 36, 58, 105]⟩] 9)).alloc (below_alloc wr (.cells #[.string ⟨#[97]⟩, .string ⟨#[98, 99]⟩, .string ⟨#[100, 36, 32, 101]⟩, .string ⟨#[102, 36, 36]⟩, .string ⟨#[58]⟩, .string ⟨#[124]⟩, .string ⟨#[124, 124]⟩, .string ⟨#[36, 103]⟩, .string ⟨#[104, 36, 58, 105]⟩] 9)).size (.cells #[.string ⟨#[97]⟩] 9))
        have HOWN := Lib.hid (owns_below HT.out.1 HB5.out)
        have HBW := Lib.hid (HT.out.2.trans (HB5.out.mono HT.out.2.size))
        have hc1 := cell_one_new (wr.alloc (.cells #[.string ⟨#[97]⟩, .string ⟨#[98, 99]⟩, .string ⟨#[100, 36, 32, 101]⟩, .string ⟨#[102, 36, 36]⟩, .string ⟨#[58]⟩, .string ⟨#[124]⟩, .string ⟨#[124, 124]⟩, .string ⟨#[36, 103]⟩, .string ⟨#[104, 36, 58, 105]⟩] 9)) (.string ⟨#[97]⟩) 9
        rw [World.size_alloc] at hc1
        have HC1 := Lib.hid hc1
        clear hc1 hk
        go_wp2_with (at_builtin; refine wpList_append_str rfl (.tmp 34) (.tmp 36) rfl w.heap.size u5 K.length K rfl HOWN.out ⟨wr.heap.size + 1, 0, none⟩ 1 [97] rfl HC1.out hpn HBW.out.size ?_; intro a6 c6 w6 hown6 hb6)
        have HT2 := Lib.hid (show Want w w6 (.slice a6 (K.length + 1) c6) (K ++ [[97]]) from ⟨by rw [List.length_append]; exact hown6, HBW.out.trans hb6⟩)
        clear hown6 hb6
        go_roundw
        case rel => exact ⟨j + 1, by go_num, by omega, by rw [HTX.out], by rw [HBX.out], Lib.hid (by rw [HWX.out]; exact HT2.out)⟩
        case measure => simp [intOf]; omega
      · have hki2 : (p : Int) % 9 = 1 := by omega
        have hw1 : (⟨#[98, 99]⟩ : ByteArray) ++ (⟨#[32]⟩ : ByteArray) = mk [98, 99, 32] := mk_append [98, 99] [32]
        have hw2 : mk T ++ mk [98, 99, 32] = mk (T ++ [98, 99, 32]) := mk_append _ _
        have hv1 : (⟨#[98, 99]⟩ : ByteArray) ++ (⟨#[32, 32, 32, 32]⟩ : ByteArray) = mk [98, 99, 32, 32, 32, 32] := mk_append [98, 99] [32, 32, 32, 32]
        have hv2 : mk B ++ mk [98, 99, 32, 32, 32, 32] = mk (B ++ [98, 99, 32, 32, 32, 32]) := mk_append _ _
        have hv3 : mk (B ++ [98, 99, 32, 32, 32, 32]) ++ (⟨#[36, 10, 32, 32]⟩ : ByteArray) = mk ((B ++ [98, 99, 32, 32, 32, 32]) ++ [36, 10, 32, 32]) := mk_append _ _
        have hs1 : (mk [98, 99, 32]).size = 3 := mk_size _
        have hs2 : (mk [98, 99, 32, 32, 32, 32]).size = 6 := mk_size _
        have hs3 : (mk (B ++ [98, 99, 32, 32, 32, 32])).size = B.length + 6 := by rw [mk_size, List.length_append]; rfl
        have HTX := Lib.hid (show plB (M.take (j + 1)) = T ++ [98, 99, 32] by rw [HMK.out, HP.out, plB_snoc, HTT.out]; rfl)
        have HBX := Lib.hid (show [32, 32, 32] ++ body false (M.take (j + 1)) = B ++ [98, 99, 32, 32, 32, 32] by rw [HMK.out, HP.out, body_snoc, ← HBB.out]; simp [wd])
        have HWX := Lib.hid (show (M.take (j + 1)).map wd = K ++ [[98, 99]] by rw [HMK.out, HP.out, List.map_append, HKK.out]; rfl)
        have HB5 := Lib.hid ((below_alloc wr (.cells #[.string ⟨#[97]⟩, .string ⟨#[98, 99]⟩, .string ⟨#[100, 36, 32, 101]⟩, .string ⟨#[102, 36, 36]⟩, .string ⟨#[58]⟩, .string ⟨#[124]⟩, .string ⟨#[124, 124]⟩, .string ⟨#[36, 103]⟩, .string ⟨#[104, 36, 58, 105]⟩] 9)).alloc (below_alloc wr (.cells #[.string ⟨#[97]⟩, .string ⟨#[98, 99]⟩, .string ⟨#[100, 36, 32, 101]⟩, .string ⟨#[102, 36, 36]⟩, .string ⟨#[58]⟩, .string ⟨#[124]⟩, .string ⟨#[124, 124]⟩, .string ⟨#[36, 103]⟩, .string ⟨#[104, 36, 58, 105]⟩] 9)).size (.cells #[.string ⟨#[98, 99]⟩] 9))
        have HOWN := Lib.hid (owns_below HT.out.1 HB5.out)
        have HBW := Lib.hid (HT.out.2.trans (HB5.out.mono HT.out.2.size))
        have hc1 := cell_one_new (wr.alloc (.cells #[.string ⟨#[97]⟩, .string ⟨#[98, 99]⟩, .string ⟨#[100, 36, 32, 101]⟩, .string ⟨#[102, 36, 36]⟩, .string ⟨#[58]⟩, .string ⟨#[124]⟩, .string ⟨#[124, 124]⟩, .string ⟨#[36, 103]⟩, .string ⟨#[104, 36, 58, 105]⟩] 9)) (.string ⟨#[98, 99]⟩) 9
        rw [World.size_alloc] at hc1
        have HC1 := Lib.hid hc1
        clear hc1 hk
        go_wp2_with (at_builtin; refine wpList_append_str rfl (.tmp 34) (.tmp 36) rfl w.heap.size u5 K.length K rfl HOWN.out ⟨wr.heap.size + 1, 0, none⟩ 1 [98, 99] rfl HC1.out hpn HBW.out.size ?_; intro a6 c6 w6 hown6 hb6)
        have HT2 := Lib.hid (show Want w w6 (.slice a6 (K.length + 1) c6) (K ++ [[98, 99]]) from ⟨by rw [List.length_append]; exact hown6, HBW.out.trans hb6⟩)
        clear hown6 hb6
        go_roundw
        case rel => exact ⟨j + 1, by go_num, by omega, by rw [HTX.out], by rw [HBX.out], Lib.hid (by rw [HWX.out]; exact HT2.out)⟩
        case measure => simp [intOf]; omega
      · have hki2 : (p : Int) % 9 = 2 := by omega
        have hw1 : (⟨#[100, 36, 32, 101]⟩ : ByteArray) ++ (⟨#[32]⟩ : ByteArray) = mk [100, 36, 32, 101, 32] := mk_append [100, 36, 32, 101] [32]
        have hw2 : mk T ++ mk [100, 36, 32, 101, 32] = mk (T ++ [100, 36, 32, 101, 32]) := mk_append _ _
        have hv1 : (⟨#[100, 36, 32, 101]⟩ : ByteArray) ++ (⟨#[32, 32, 32, 32]⟩ : ByteArray) = mk [100, 36, 32, 101, 32, 32, 32, 32] := mk_append [100, 36, 32, 101] [32, 32, 32, 32]
        have hv2 : mk B ++ mk [100, 36, 32, 101, 32, 32, 32, 32] = mk (B ++ [100, 36, 32, 101, 32, 32, 32, 32]) := mk_append _ _
        have hv3 : mk (B ++ [100, 36, 32, 101, 32, 32, 32, 32]) ++ (⟨#[36, 10, 32, 32]⟩ : ByteArray) = mk ((B ++ [100, 36, 32, 101, 32, 32, 32, 32]) ++ [36, 10, 32, 32]) := mk_append _ _
        have hs1 : (mk [100, 36, 32, 101, 32]).size = 5 := mk_size _
        have hs2 : (mk [100, 36, 32, 101, 32, 32, 32, 32]).size = 8 := mk_size _
        have hs3 : (mk (B ++ [100, 36, 32, 101, 32, 32, 32, 32])).size = B.length + 8 := by rw [mk_size, List.length_append]; rfl
        have HTX := Lib.hid (show plB (M.take (j + 1)) = T ++ [100, 36, 32, 101, 32] by rw [HMK.out, HP.out, plB_snoc, HTT.out]; rfl)
        have HBX := Lib.hid (show [32, 32, 32] ++ body false (M.take (j + 1)) = B ++ [100, 36, 32, 101, 32, 32, 32, 32] by rw [HMK.out, HP.out, body_snoc, ← HBB.out]; simp [wd])
        have HWX := Lib.hid (show (M.take (j + 1)).map wd = K ++ [[100, 36, 32, 101]] by rw [HMK.out, HP.out, List.map_append, HKK.out]; rfl)
        have HB5 := Lib.hid ((below_alloc wr (.cells #[.string ⟨#[97]⟩, .string ⟨#[98, 99]⟩, .string ⟨#[100, 36, 32, 101]⟩, .string ⟨#[102, 36, 36]⟩, .string ⟨#[58]⟩, .string ⟨#[124]⟩, .string ⟨#[124, 124]⟩, .string ⟨#[36, 103]⟩, .string ⟨#[104, 36, 58, 105]⟩] 9)).alloc (below_alloc wr (.cells #[.string ⟨#[97]⟩, .string ⟨#[98, 99]⟩, .string ⟨#[100, 36, 32, 101]⟩, .string ⟨#[102, 36, 36]⟩, .string ⟨#[58]⟩, .string ⟨#[124]⟩, .string ⟨#[124, 124]⟩, .string ⟨#[36, 103]⟩, .string ⟨#[104, 36, 58, 105]⟩] 9)).size (.cells #[.string ⟨#[100, 36, 32, 101]⟩] 9))
        have HOWN := Lib.hid (owns_below HT.out.1 HB5.out)
        have HBW := Lib.hid (HT.out.2.trans (HB5.out.mono HT.out.2.size))
        have hc1 := cell_one_new (wr.alloc (.cells #[.string ⟨#[97]⟩, .string ⟨#[98, 99]⟩, .string ⟨#[100, 36, 32, 101]⟩, .string ⟨#[102, 36, 36]⟩, .string ⟨#[58]⟩, .string ⟨#[124]⟩, .string ⟨#[124, 124]⟩, .string ⟨#[36, 103]⟩, .string ⟨#[104, 36, 58, 105]⟩] 9)) (.string ⟨#[100, 36, 32, 101]⟩) 9
        rw [World.size_alloc] at hc1
        have HC1 := Lib.hid hc1
        clear hc1 hk
        go_wp2_with (at_builtin; refine wpList_append_str rfl (.tmp 34) (.tmp 36) rfl w.heap.size u5 K.length K rfl HOWN.out ⟨wr.heap.size + 1, 0, none⟩ 1 [100, 36, 32, 101] rfl HC1.out hpn HBW.out.size ?_; intro a6 c6 w6 hown6 hb6)
        have HT2 := Lib.hid (show Want w w6 (.slice a6 (K.length + 1) c6) (K ++ [[100, 36, 32, 101]]) from ⟨by rw [List.length_append]; exact hown6, HBW.out.trans hb6⟩)
        clear hown6 hb6
        go_roundw
        case rel => exact ⟨j + 1, by go_num, by omega, by rw [HTX.out], by rw [HBX.out], Lib.hid (by rw [HWX.out]; exact HT2.out)⟩
        case measure => simp [intOf]; omega
      · have hki2 : (p : Int) % 9 = 3 := by omega
        have hw1 : (⟨#[102, 36, 36]⟩ : ByteArray) ++ (⟨#[32]⟩ : ByteArray) = mk [102, 36, 36, 32] := mk_append [102, 36, 36] [32]
        have hw2 : mk T ++ mk [102, 36, 36, 32] = mk (T ++ [102, 36, 36, 32]) := mk_append _ _
        have hv1 : (⟨#[102, 36, 36]⟩ : ByteArray) ++ (⟨#[32, 32, 32, 32]⟩ : ByteArray) = mk [102, 36, 36, 32, 32, 32, 32] := mk_append [102, 36, 36] [32, 32, 32, 32]
        have hv2 : mk B ++ mk [102, 36, 36, 32, 32, 32, 32] = mk (B ++ [102, 36, 36, 32, 32, 32, 32]) := mk_append _ _
        have hv3 : mk (B ++ [102, 36, 36, 32, 32, 32, 32]) ++ (⟨#[36, 10, 32, 32]⟩ : ByteArray) = mk ((B ++ [102, 36, 36, 32, 32, 32, 32]) ++ [36, 10, 32, 32]) := mk_append _ _
        have hs1 : (mk [102, 36, 36, 32]).size = 4 := mk_size _
        have hs2 : (mk [102, 36, 36, 32, 32, 32, 32]).size = 7 := mk_size _
        have hs3 : (mk (B ++ [102, 36, 36, 32, 32, 32, 32])).size = B.length + 7 := by rw [mk_size, List.length_append]; rfl
        have HTX := Lib.hid (show plB (M.take (j + 1)) = T ++ [102, 36, 36, 32] by rw [HMK.out, HP.out, plB_snoc, HTT.out]; rfl)
        have HBX := Lib.hid (show [32, 32, 32] ++ body false (M.take (j + 1)) = B ++ [102, 36, 36, 32, 32, 32, 32] by rw [HMK.out, HP.out, body_snoc, ← HBB.out]; simp [wd])
        have HWX := Lib.hid (show (M.take (j + 1)).map wd = K ++ [[102, 36, 36]] by rw [HMK.out, HP.out, List.map_append, HKK.out]; rfl)
        have HB5 := Lib.hid ((below_alloc wr (.cells #[.string ⟨#[97]⟩, .string ⟨#[98, 99]⟩, .string ⟨#[100, 36, 32, 101]⟩, .string ⟨#[102, 36, 36]⟩, .string ⟨#[58]⟩, .string ⟨#[124]⟩, .string ⟨#[124, 124]⟩, .string ⟨#[36, 103]⟩, .string ⟨#[104, 36, 58, 105]⟩] 9)).alloc (below_alloc wr (.cells #[.string ⟨#[97]⟩, .string ⟨#[98, 99]⟩, .string ⟨#[100, 36, 32, 101]⟩, .string ⟨#[102, 36, 36]⟩, .string ⟨#[58]⟩, .string ⟨#[124]⟩, .string ⟨#[124, 124]⟩, .string ⟨#[36, 103]⟩, .string ⟨#[104, 36, 58, 105]⟩] 9)).size (.cells #[.string ⟨#[102, 36, 36]⟩] 9))
        have HOWN := Lib.hid (owns_below HT.out.1 HB5.out)
        have HBW := Lib.hid (HT.out.2.trans (HB5.out.mono HT.out.2.size))
        have hc1 := cell_one_new (wr.alloc (.cells #[.string ⟨#[97]⟩, .string ⟨#[98, 99]⟩, .string ⟨#[100, 36, 32, 101]⟩, .string ⟨#[102, 36, 36]⟩, .string ⟨#[58]⟩, .string ⟨#[124]⟩, .string ⟨#[124, 124]⟩, .string ⟨#[36, 103]⟩, .string ⟨#[104, 36, 58, 105]⟩] 9)) (.string ⟨#[102, 36, 36]⟩) 9
        rw [World.size_alloc] at hc1
        have HC1 := Lib.hid hc1
        clear hc1 hk
        go_wp2_with (at_builtin; refine wpList_append_str rfl (.tmp 34) (.tmp 36) rfl w.heap.size u5 K.length K rfl HOWN.out ⟨wr.heap.size + 1, 0, none⟩ 1 [102, 36, 36] rfl HC1.out hpn HBW.out.size ?_; intro a6 c6 w6 hown6 hb6)
        have HT2 := Lib.hid (show Want w w6 (.slice a6 (K.length + 1) c6) (K ++ [[102, 36, 36]]) from ⟨by rw [List.length_append]; exact hown6, HBW.out.trans hb6⟩)
        clear hown6 hb6
        go_roundw
        case rel => exact ⟨j + 1, by go_num, by omega, by rw [HTX.out], by rw [HBX.out], Lib.hid (by rw [HWX.out]; exact HT2.out)⟩
        case measure => simp [intOf]; omega
      · have hki2 : (p : Int) % 9 = 4 := by omega
        have hw1 : (⟨#[58]⟩ : ByteArray) ++ (⟨#[32]⟩ : ByteArray) = mk [58, 32] := mk_append [58] [32]
        have hw2 : mk T ++ mk [58, 32] = mk (T ++ [58, 32]) := mk_append _ _
        have hv1 : (⟨#[58]⟩ : ByteArray) ++ (⟨#[32, 32, 32, 32]⟩ : ByteArray) = mk [58, 32, 32, 32, 32] := mk_append [58] [32, 32, 32, 32]
        have hv2 : mk B ++ mk [58, 32, 32, 32, 32] = mk (B ++ [58, 32, 32, 32, 32]) := mk_append _ _
        have hv3 : mk (B ++ [58, 32, 32, 32, 32]) ++ (⟨#[36, 10, 32, 32]⟩ : ByteArray) = mk ((B ++ [58, 32, 32, 32, 32]) ++ [36, 10, 32, 32]) := mk_append _ _
        have hs1 : (mk [58, 32]).size = 2 := mk_size _
        have hs2 : (mk [58, 32, 32, 32, 32]).size = 5 := mk_size _
        have hs3 : (mk (B ++ [58, 32, 32, 32, 32])).size = B.length + 5 := by rw [mk_size, List.length_append]; rfl
        have HTX := Lib.hid (show plB (M.take (j + 1)) = T ++ [58, 32] by rw [HMK.out, HP.out, plB_snoc, HTT.out]; rfl)
        have HBX := Lib.hid (show [32, 32, 32] ++ body false (M.take (j + 1)) = B ++ [58, 32, 32, 32, 32] by rw [HMK.out, HP.out, body_snoc, ← HBB.out]; simp [wd])
        have HWX := Lib.hid (show (M.take (j + 1)).map wd = K ++ [[58]] by rw [HMK.out, HP.out, List.map_append, HKK.out]; rfl)
        have HB5 := Lib.hid ((below_alloc wr (.cells #[.string ⟨#[97]⟩, .string ⟨#[98, 99]⟩, .string ⟨#[100, 36, 32, 101]⟩, .string ⟨#[102, 36, 36]⟩, .string ⟨#[58]⟩, .string ⟨#[124]⟩, .string ⟨#[124, 124]⟩, .string ⟨#[36, 103]⟩, .string ⟨#[104, 36, 58, 105]⟩] 9)).alloc (below_alloc wr (.cells #[.string ⟨#[97]⟩, .string ⟨#[98, 99]⟩, .string ⟨#[100, 36, 32, 101]⟩, .string ⟨#[102, 36, 36]⟩, .string ⟨#[58]⟩, .string ⟨#[124]⟩, .string ⟨#[124, 124]⟩, .string ⟨#[36, 103]⟩, .string ⟨#[104, 36, 58, 105]⟩] 9)).size (.cells #[.string ⟨#[58]⟩] 9))
        have HOWN := Lib.hid (owns_below HT.out.1 HB5.out)
        have HBW := Lib.hid (HT.out.2.trans (HB5.out.mono HT.out.2.size))
        have hc1 := cell_one_new (wr.alloc (.cells #[.string ⟨#[97]⟩, .string ⟨#[98, 99]⟩, .string ⟨#[100, 36, 32, 101]⟩, .string ⟨#[102, 36, 36]⟩, .string ⟨#[58]⟩, .string ⟨#[124]⟩, .string ⟨#[124, 124]⟩, .string ⟨#[36, 103]⟩, .string ⟨#[104, 36, 58, 105]⟩] 9)) (.string ⟨#[58]⟩) 9
        rw [World.size_alloc] at hc1
        have HC1 := Lib.hid hc1
        clear hc1 hk
        go_wp2_with (at_builtin; refine wpList_append_str rfl (.tmp 34) (.tmp 36) rfl w.heap.size u5 K.length K rfl HOWN.out ⟨wr.heap.size + 1, 0, none⟩ 1 [58] rfl HC1.out hpn HBW.out.size ?_; intro a6 c6 w6 hown6 hb6)
        have HT2 := Lib.hid (show Want w w6 (.slice a6 (K.length + 1) c6) (K ++ [[58]]) from ⟨by rw [List.length_append]; exact hown6, HBW.out.trans hb6⟩)
        clear hown6 hb6
        go_roundw
        case rel => exact ⟨j + 1, by go_num, by omega, by rw [HTX.out], by rw [HBX.out], Lib.hid (by rw [HWX.out]; exact HT2.out)⟩
        case measure => simp [intOf]; omega
      · have hki2 : (p : Int) % 9 = 5 := by omega
        have hw1 : (⟨#[124]⟩ : ByteArray) ++ (⟨#[32]⟩ : ByteArray) = mk [124, 32] := mk_append [124] [32]
        have hw2 : mk T ++ mk [124, 32] = mk (T ++ [124, 32]) := mk_append _ _
        have hv1 : (⟨#[124]⟩ : ByteArray) ++ (⟨#[32, 32, 32, 32]⟩ : ByteArray) = mk [124, 32, 32, 32, 32] := mk_append [124] [32, 32, 32, 32]
        have hv2 : mk B ++ mk [124, 32, 32, 32, 32] = mk (B ++ [124, 32, 32, 32, 32]) := mk_append _ _
        have hv3 : mk (B ++ [124, 32, 32, 32, 32]) ++ (⟨#[36, 10, 32, 32]⟩ : ByteArray) = mk ((B ++ [124, 32, 32, 32, 32]) ++ [36, 10, 32, 32]) := mk_append _ _
        have hs1 : (mk [124, 32]).size = 2 := mk_size _
        have hs2 : (mk [124, 32, 32, 32, 32]).size = 5 := mk_size _
        have hs3 : (mk (B ++ [124, 32, 32, 32, 32])).size = B.length + 5 := by rw [mk_size, List.length_append]; rfl
        have HTX := Lib.hid (show plB (M.take (j + 1)) = T ++ [124, 32] by rw [HMK.out, HP.out, plB_snoc, HTT.out]; rfl)
        have HBX := Lib.hid (show [32, 32, 32] ++ body false (M.take (j + 1)) = B ++ [124, 32, 32, 32, 32] by rw [HMK.out, HP.out, body_snoc, ← HBB.out]; simp [wd])
        have HWX := Lib.hid (show (M.take (j + 1)).map wd = K ++ [[124]] by rw [HMK.out, HP.out, List.map_append, HKK.out]; rfl)
        have HB5 := Lib.hid ((below_alloc wr (.cells #[.string ⟨#[97]⟩, .string ⟨#[98, 99]⟩, .string ⟨#[100, 36, 32, 101]⟩, .string ⟨#[102, 36, 36]⟩, .string ⟨#[58]⟩, .string ⟨#[124]⟩, .string ⟨#[124, 124]⟩, .string ⟨#[36, 103]⟩, .string ⟨#[104, 36, 58, 105]⟩] 9)).alloc (below_alloc wr (.cells #[.string ⟨#[97]⟩, .string ⟨#[98, 99]⟩, .string ⟨#[100, 36, 32, 101]⟩, .string ⟨#[102, 36, 36]⟩, .string ⟨#[58]⟩, .string ⟨#[124]⟩, .string ⟨#[124, 124]⟩, .string ⟨#[36, 103]⟩, .string ⟨#[104, 36, 58, 105]⟩] 9)).size (.cells #[.string ⟨#[124]⟩] 9))
        have HOWN := Lib.hid (owns_below HT.out.1 HB5.out)
        have HBW := Lib.hid (HT.out.2.trans (HB5.out.mono HT.out.2.size))
        have hc1 := cell_one_new (wr.alloc (.cells #[.string ⟨#[97]⟩, .string ⟨#[98, 99]⟩, .string ⟨#[100, 36, 32, 101]⟩, .string ⟨#[102, 36, 36]⟩, .string ⟨#[58]⟩, .string ⟨#[124]⟩, .string ⟨#[124, 124]⟩, .string ⟨#[36, 103]⟩, .string ⟨#[104, 36, 58, 105]⟩] 9)) (.string ⟨#[124]⟩) 9
        rw [World.size_alloc] at hc1
        have HC1 := Lib.hid hc1
        clear hc1 hk
        go_wp2_with (at_builtin; refine wpList_append_str rfl (.tmp 34) (.tmp 36) rfl w.heap.size u5 K.length K rfl HOWN.out ⟨wr.heap.size + 1, 0, none⟩ 1 [124] rfl HC1.out hpn HBW.out.size ?_; intro a6 c6 w6 hown6 hb6)
        have HT2 := Lib.hid (show Want w w6 (.slice a6 (K.length + 1) c6) (K ++ [[124]]) from ⟨by rw [List.length_append]; exact hown6, HBW.out.trans hb6⟩)
        clear hown6 hb6
        go_roundw
        case rel => exact ⟨j + 1, by go_num, by omega, by rw [HTX.out], by rw [HBX.out], Lib.hid (by rw [HWX.out]; exact HT2.out)⟩
        case measure => simp [intOf]; omega
      · have hki2 : (p : Int) % 9 = 6 := by omega
        have hw1 : (⟨#[124, 124]⟩ : ByteArray) ++ (⟨#[32]⟩ : ByteArray) = mk [124, 124, 32] := mk_append [124, 124] [32]
        have hw2 : mk T ++ mk [124, 124, 32] = mk (T ++ [124, 124, 32]) := mk_append _ _
        have hv1 : (⟨#[124, 124]⟩ : ByteArray) ++ (⟨#[32, 32, 32, 32]⟩ : ByteArray) = mk [124, 124, 32, 32, 32, 32] := mk_append [124, 124] [32, 32, 32, 32]
        have hv2 : mk B ++ mk [124, 124, 32, 32, 32, 32] = mk (B ++ [124, 124, 32, 32, 32, 32]) := mk_append _ _
        have hv3 : mk (B ++ [124, 124, 32, 32, 32, 32]) ++ (⟨#[36, 10, 32, 32]⟩ : ByteArray) = mk ((B ++ [124, 124, 32, 32, 32, 32]) ++ [36, 10, 32, 32]) := mk_append _ _
        have hs1 : (mk [124, 124, 32]).size = 3 := mk_size _
        have hs2 : (mk [124, 124, 32, 32, 32, 32]).size = 6 := mk_size _
        have hs3 : (mk (B ++ [124, 124, 32, 32, 32, 32])).size = B.length + 6 := by rw [mk_size, List.length_append]; rfl
        have HTX := Lib.hid (show plB (M.take (j + 1)) = T ++ [124, 124, 32] by rw [HMK.out, HP.out, plB_snoc, HTT.out]; rfl)
        have HBX := Lib.hid (show [32, 32, 32] ++ body false (M.take (j + 1)) = B ++ [124, 124, 32, 32, 32, 32] by rw [HMK.out, HP.out, body_snoc, ← HBB.out]; simp [wd])
        have HWX := Lib.hid (show (M.take (j + 1)).map wd = K ++ [[124, 124]] by rw [HMK.out, HP.out, List.map_append, HKK.out]; rfl)
        have HB5 := Lib.hid ((below_alloc wr (.cells #[.string ⟨#[97]⟩, .string ⟨#[98, 99]⟩, .string ⟨#[100, 36, 32, 101]⟩, .string ⟨#[102, 36, 36]⟩, .string ⟨#[58]⟩, .string ⟨#[124]⟩, .string ⟨#[124, 124]⟩, .string ⟨#[36, 103]⟩, .string ⟨#[104, 36, 58, 105]⟩] 9)).alloc (below_alloc wr (.cells #[.string ⟨#[97]⟩, .string ⟨#[98, 99]⟩, .string ⟨#[100, 36, 32, 101]⟩, .string ⟨#[102, 36, 36]⟩, .string ⟨#[58]⟩, .string ⟨#[124]⟩, .string ⟨#[124, 124]⟩, .string ⟨#[36, 103]⟩, .string ⟨#[104, 36, 58, 105]⟩] 9)).size (.cells #[.string ⟨#[124, 124]⟩] 9))
        have HOWN := Lib.hid (owns_below HT.out.1 HB5.out)
        have HBW := Lib.hid (HT.out.2.trans (HB5.out.mono HT.out.2.size))
        have hc1 := cell_one_new (wr.alloc (.cells #[.string ⟨#[97]⟩, .string ⟨#[98, 99]⟩, .string ⟨#[100, 36, 32, 101]⟩, .string ⟨#[102, 36, 36]⟩, .string ⟨#[58]⟩, .string ⟨#[124]⟩, .string ⟨#[124, 124]⟩, .string ⟨#[36, 103]⟩, .string ⟨#[104, 36, 58, 105]⟩] 9)) (.string ⟨#[124, 124]⟩) 9
        rw [World.size_alloc] at hc1
        have HC1 := Lib.hid hc1
        clear hc1 hk
        go_wp2_with (at_builtin; refine wpList_append_str rfl (.tmp 34) (.tmp 36) rfl w.heap.size u5 K.length K rfl HOWN.out ⟨wr.heap.size + 1, 0, none⟩ 1 [124, 124] rfl HC1.out hpn HBW.out.size ?_; intro a6 c6 w6 hown6 hb6)
        have HT2 := Lib.hid (show Want w w6 (.slice a6 (K.length + 1) c6) (K ++ [[124, 124]]) from ⟨by rw [List.length_append]; exact hown6, HBW.out.trans hb6⟩)
        clear hown6 hb6
        go_roundw
        case rel => exact ⟨j + 1, by go_num, by omega, by rw [HTX.out], by rw [HBX.out], Lib.hid (by rw [HWX.out]; exact HT2.out)⟩
        case measure => simp [intOf]; omega
      · have hki2 : (p : Int) % 9 = 7 := by omega
        have hw1 : (⟨#[36, 103]⟩ : ByteArray) ++ (⟨#[32]⟩ : ByteArray) = mk [36, 103, 32] := mk_append [36, 103] [32]
        have hw2 : mk T ++ mk [36, 103, 32] = mk (T ++ [36, 103, 32]) := mk_append _ _
        have hv1 : (⟨#[36, 103]⟩ : ByteArray) ++ (⟨#[32, 32, 32, 32]⟩ : ByteArray) = mk [36, 103, 32, 32, 32, 32] := mk_append [36, 103] [32, 32, 32, 32]
        have hv2 : mk B ++ mk [36, 103, 32, 32, 32, 32] = mk (B ++ [36, 103, 32, 32, 32, 32]) := mk_append _ _
        have hv3 : mk (B ++ [36, 103, 32, 32, 32, 32]) ++ (⟨#[36, 10, 32, 32]⟩ : ByteArray) = mk ((B ++ [36, 103, 32, 32, 32, 32]) ++ [36, 10, 32, 32]) := mk_append _ _
        have hs1 : (mk [36, 103, 32]).size = 3 := mk_size _
        have hs2 : (mk [36, 103, 32, 32, 32, 32]).size = 6 := mk_size _
        have hs3 : (mk (B ++ [36, 103, 32, 32, 32, 32])).size = B.length + 6 := by rw [mk_size, List.length_append]; rfl
        have HTX := Lib.hid (show plB (M.take (j + 1)) = T ++ [36, 103, 32] by rw [HMK.out, HP.out, plB_snoc, HTT.out]; rfl)
        have HBX := Lib.hid (show [32, 32, 32] ++ body false (M.take (j + 1)) = B ++ [36, 103, 32, 32, 32, 32] by rw [HMK.out, HP.out, body_snoc, ← HBB.out]; simp [wd])
        have HWX := Lib.hid (show (M.take (j + 1)).map wd = K ++ [[36, 103]] by rw [HMK.out, HP.out, List.map_append, HKK.out]; rfl)
        have HB5 := Lib.hid ((below_alloc wr (.cells #[.string ⟨#[97]⟩, .string ⟨#[98, 99]⟩, .string ⟨#[100, 36, 32, 101]⟩, .string ⟨#[102, 36, 36]⟩, .string ⟨#[58]⟩, .string ⟨#[124]⟩, .string ⟨#[124, 124]⟩, .string ⟨#[36, 103]⟩, .string ⟨#[104, 36, 58, 105]⟩] 9)).alloc (below_alloc wr (.cells #[.string ⟨#[97]⟩, .string ⟨#[98, 99]⟩, .string ⟨#[100, 36, 32, 101]⟩, .string ⟨#[102, 36, 36]⟩, .string ⟨#[58]⟩, .string ⟨#[124]⟩, .string ⟨#[124, 124]⟩, .string ⟨#[36, 103]⟩, .string ⟨#[104, 36, 58, 105]⟩] 9)).size (.cells #[.string ⟨#[36, 103]⟩] 9))
        have HOWN := Lib.hid (owns_below HT.out.1 HB5.out)
        have HBW := Lib.hid (HT.out.2.trans (HB5.out.mono HT.out.2.size))
        have hc1 := cell_one_new (wr.alloc (.cells #[.string ⟨#[97]⟩, .string ⟨#[98, 99]⟩, .string ⟨#[100, 36, 32, 101]⟩, .string ⟨#[102, 36, 36]⟩, .string ⟨#[58]⟩, .string ⟨#[124]⟩, .string ⟨#[124, 124]⟩, .string ⟨#[36, 103]⟩, .string ⟨#[104, 36, 58, 105]⟩] 9)) (.string ⟨#[36, 103]⟩) 9
        rw [World.size_alloc] at hc1
        have HC1 := Lib.hid hc1
        clear hc1 hk
        go_wp2_with (at_builtin; refine wpList_append_str rfl (.tmp 34) (.tmp 36) rfl w.heap.size u5 K.length K rfl HOWN.out ⟨wr.heap.size + 1, 0, none⟩ 1 [36, 103] rfl HC1.out hpn HBW.out.size ?_; intro a6 c6 w6 hown6 hb6)
        have HT2 := Lib.hid (show Want w w6 (.slice a6 (K.length + 1) c6) (K ++ [[36, 103]]) from ⟨by rw [List.length_append]; exact hown6, HBW.out.trans hb6⟩)
        clear hown6 hb6
        go_roundw
        case rel => exact ⟨j + 1, by go_num, by omega, by rw [HTX.out], by rw [HBX.out], Lib.hid (by rw [HWX.out]; exact HT2.out)⟩
        case measure => simp [intOf]; omega
      · have hki2 : (p : Int) % 9 = 8 := by omega
        have hw1 : (⟨#[104, 36, 58, 105]⟩ : ByteArray) ++ (⟨#[32]⟩ : ByteArray) = mk [104, 36, 58, 105, 32] := mk_append [104, 36, 58, 105] [32]
        have hw2 : mk T ++ mk [104, 36, 58, 105, 32] = mk (T ++ [104, 36, 58, 105, 32]) := mk_append _ _
        have hv1 : (⟨#[104, 36, 58, 105]⟩ : ByteArray) ++ (⟨#[32, 32, 32, 32]⟩ : ByteArray) = mk [104, 36, 58, 105, 32, 32, 32, 32] := mk_append [104, 36, 58, 105] [32, 32, 32, 32]
        have hv2 : mk B ++ mk [104, 36, 58, 105, 32, 32, 32, 32] = mk (B ++ [104, 36, 58, 105, 32, 32, 32, 32]) := mk_append _ _
        have hv3 : mk (B ++ [104, 36, 58, 105, 32, 32, 32, 32]) ++ (⟨#[36, 10, 32, 32]⟩ : ByteArray) = mk ((B ++ [104, 36, 58, 105, 32, 32, 32, 32]) ++ [36, 10, 32, 32]) := mk_append _ _
        have hs1 : (mk [104, 36, 58, 105, 32]).size = 5 := mk_size _
        have hs2 : (mk [104, 36, 58, 105, 32, 32, 32, 32]).size = 8 := mk_size _
        have hs3 : (mk (B ++ [104, 36, 58, 105, 32, 32, 32, 32])).size = B.length + 8 := by rw [mk_size, List.length_append]; rfl
        have HTX := Lib.hid (show plB (M.take (j + 1)) = T ++ [104, 36, 58, 105, 32] by rw [HMK.out, HP.out, plB_snoc, HTT.out]; rfl)
        have HBX := Lib.hid (show [32, 32, 32] ++ body false (M.take (j + 1)) = B ++ [104, 36, 58, 105, 32, 32, 32, 32] by rw [HMK.out, HP.out, body_snoc, ← HBB.out]; simp [wd])
        have HWX := Lib.hid (show (M.take (j + 1)).map wd = K ++ [[104, 36, 58, 105]] by rw [HMK.out, HP.out, List.map_append, HKK.out]; rfl)
        have HB5 := Lib.hid ((below_alloc wr (.cells #[.string ⟨#[97]⟩, .string ⟨#[98, 99]⟩, .string ⟨#[100, 36, 32, 101]⟩, .string ⟨#[102, 36, 36]⟩, .string ⟨#[58]⟩, .string ⟨#[124]⟩, .string ⟨#[124, 124]⟩, .string ⟨#[36, 103]⟩, .string ⟨#[104, 36, 58, 105]⟩] 9)).alloc (below_alloc wr (.cells #[.string ⟨#[97]⟩, .string ⟨#[98, 99]⟩, .string ⟨#[100, 36, 32, 101]⟩, .string ⟨#[102, 36, 36]⟩, .string ⟨#[58]⟩, .string ⟨#[124]⟩, .string ⟨#[124, 124]⟩, .string ⟨#[36, 103]⟩, .string ⟨#[104, 36, 58, 105]⟩] 9)).size (.cells #[.string ⟨#[104, 36, 58, 105]⟩] 9))
        have HOWN := Lib.hid (owns_below HT.out.1 HB5.out)
        have HBW := Lib.hid (HT.out.2.trans (HB5.out.mono HT.out.2.size))
        have hc1 := cell_one_new (wr.alloc (.cells #[.string ⟨#[97]⟩, .string ⟨#[98, 99]⟩, .string ⟨#[100, 36, 32, 101]⟩, .string ⟨#[102, 36, 36]⟩, .string ⟨#[58]⟩, .string ⟨#[124]⟩, .string ⟨#[124, 124]⟩, .string ⟨#[36, 103]⟩, .string ⟨#[104, 36, 58, 105]⟩] 9)) (.string ⟨#[104, 36, 58, 105]⟩) 9
        rw [World.size_alloc] at hc1
        have HC1 := Lib.hid hc1
        clear hc1 hk
        go_wp2_with (at_builtin; refine wpList_append_str rfl (.tmp 34) (.tmp 36) rfl w.heap.size u5 K.length K rfl HOWN.out ⟨wr.heap.size + 1, 0, none⟩ 1 [104, 36, 58, 105] rfl HC1.out hpn HBW.out.size ?_; intro a6 c6 w6 hown6 hb6)
        have HT2 := Lib.hid (show Want w w6 (.slice a6 (K.length + 1) c6) (K ++ [[104, 36, 58, 105]]) from ⟨by rw [List.length_append]; exact hown6, HBW.out.trans hb6⟩)
        clear hown6 hb6
        go_roundw
        case rel => exact ⟨j + 1, by go_num, by omega, by rw [HTX.out], by rw [HBX.out], Lib.hid (by rw [HWX.out]; exact HT2.out)⟩
        case measure => simp [intOf]; omega
    · obtain rfl : j = n := by omega
      have htk : M.take j = M := List.take_of_length_le (by rw [HML.out]; omega)
      rw [htk] at HT ⊢
      have hTl := plB_le M
      have hBl := body_le false M
      rw [HML.out] at hTl hBl
      have hhl : (M.map wd).length = j := by rw [List.length_map, HML.out]
      obtain ⟨T, hT⟩ : ∃ T, plB M = T := ⟨_, rfl⟩
      obtain ⟨B, hB⟩ : ∃ B, [32, 32, 32] ++ body false M = B := ⟨_, rfl⟩
      have hpl : pl M = T ++ [122] := by rw [← hT]; rfl
      have hwi : wide false M = ([10, 35, 32, 120, 36, 10, 32, 32, 10] ++ B) ++ [122, 32, 32, 10, 10, 35] := by rw [← hB]; rfl
      have hBl2 : B.length ≤ 3 + 12 * j := by rw [← hB, List.length_append]; simp; omega
      rw [hT] at hTl
      rw [hT, hB]
      have q1 := lines_c (pl M) (by rw [hpl]; simp; omega) (fun r hr => by
        rw [rows_last (pl_no M)] at hr
        rw [List.mem_singleton.1 hr]
        exact pl_ok M) wr
      rw [rows_last (pl_no M), show [pl M].length = 1 from rfl, lines_pl, hpl] at q1
      obtain ⟨first, rest, tt, hrw, hrok, hcb, hhd, hea, htr⟩ := rows_wide false M
      have q2 := lines_c (wide false M) (by rw [hwi]; simp; omega) (fun r hr => by
        rw [hrw] at hr
        rcases List.mem_cons.1 hr with rfl | hr
        · rfl
        rcases List.mem_cons.1 hr with rfl | hr
        · rfl
        rcases List.mem_cons.1 hr with rfl | hr
        · rfl
        exact hrok r hr)
      simp only [hrw] at q2
      rw [lines_wide (by simp) hcb hhd hea, htr, hwi] at q2
      have hwp := words_pl M
      have hww := words_wi M
      have hwil : (wi M).length ≤ 100000 := by
        have h1 := body_le false M
        rw [← body_wi M, List.length_append]
        rw [HML.out] at h1
        simp
        omega
      have hwc := fun W => words_c (pl M) (by rw [hpl]; simp; omega) W
      have hwc2 := fun W => words_c (wi M) hwil W
      rw [hwp, hpl] at hwc
      rw [hww] at hwc2
      have haw := awake_c
      have hzT := mk_size T
      have hzB := mk_size B
      have hc1 : mk T ++ (⟨#[122]⟩ : ByteArray) = mk (T ++ [122]) := mk_append _ _
      have hc2 : (⟨#[10, 35, 32, 120, 36, 10, 32, 32, 10]⟩ : ByteArray) ++ mk B = mk ([10, 35, 32, 120, 36, 10, 32, 32, 10] ++ B) := mk_append _ _
      have hc3 : mk ([10, 35, 32, 120, 36, 10, 32, 32, 10] ++ B) ++ (⟨#[122, 32, 32, 10, 10, 35]⟩ : ByteArray) = mk (([10, 35, 32, 120, 36, 10, 32, 32, 10] ++ B) ++ [122, 32, 32, 10, 10, 35]) := mk_append _ _
      have hz2 : (mk ([10, 35, 32, 120, 36, 10, 32, 32, 10] ++ B)).size = B.length + 9 := by rw [mk_size, List.length_append]; simp; omega
      obtain ⟨D, hD⟩ : ∃ D, [10, 35, 32, 120, 36, 10, 32, 32, 10] ++ B = D := ⟨_, rfl⟩
      obtain ⟨E, hE⟩ : ∃ E, D ++ [122, 32, 32, 10, 10, 35] = E := ⟨_, rfl⟩
      obtain ⟨F, hF⟩ : ∃ F, T ++ [122] = F := ⟨_, rfl⟩
      rw [hD] at hc2 hc3 hz2 q2
      rw [hE] at hc3 q2
      rw [hF] at hc1 q1
      simp only [hF] at hwc
      have HHL := Lib.hid hhl
      have HQ2 := Lib.hid q2
      have HWC := Lib.hid hwc
      have HWC2 := Lib.hid hwc2
      clear htk hhl hT hB hpl hwi hrw hrok hcb hhd hea htr hwp hww hwil q2 hwc hwc2 hD hE hF
      obtain ⟨K, hK⟩ : ∃ K, M.map wd = K := ⟨_, rfl⟩
      rw [hK] at HT HHL HWC HWC2
      clear hK
      go_wp2_with fail
      refine q1.mono ?_
      rintro e w2 ⟨xv, rfl, hx⟩
      have HX := Lib.hid hx
      clear q1 hx
      have hq2 := HQ2.out w2
      go_wp2_with fail
      refine hq2.mono ?_
      rintro e w3 ⟨yv, rfl, hyv⟩
      have HY := Lib.hid hyv
      clear hq2 hyv
      obtain ⟨xa, xc, rfl⟩ := owns_len0 HX.out.1
      obtain ⟨ya, yc, rfl⟩ := owns_len0 HY.out.1
      obtain ⟨gx, ex, hbx, hgx, hcx⟩ := owns_at2 HX.out.1 (by simp)
      obtain ⟨gy, ey, hby, hgy, hcy⟩ := owns_at2 HY.out.1 (by simp)
      subst ex
      subst ey
      have hsz := HX.out.2.size
      have hsz2 := HY.out.2.size
      have hpn : K.length ≤ 1000000 := by rw [HHL.out]; omega
      have BZ := Lib.hid ((HX.out.2.trans (HY.out.2.mono HX.out.2.size)).alloc (Nat.le_trans hsz hsz2) (.cells #[.string ⟨#[122]⟩] 9))
      have HOWZ0 := HT.out.1
      have HOWZ := Lib.hid (owns_below HOWZ0 BZ.out)
      have HCZ := Lib.hid (cell_one_new w3 (.string ⟨#[122]⟩) 9)
      have hb0 := Lib.hid (HT.out.2.trans (BZ.out.mono HT.out.2.size))
      have hA := below_alloc w3 (.cells #[.string ⟨#[122]⟩] 9)
      have hox : some gx ≠ u5.ownBlock := owns_own HOWZ0 hbx
      have hoy : some gy ≠ u5.ownBlock := owns_own HOWZ0 (Nat.le_trans hsz hby)
      have HCELLS := Lib.hid (show ∀ W', (w3.alloc (.cells #[.string ⟨#[122]⟩] 9)).grownBy W' u5.ownBlock → W'.cell? ⟨gx, 0, none⟩ = some (.bool false) ∧ W'.cell? ⟨gx, 1, none⟩ = some (.string (mk F)) ∧ W'.cell? ⟨gy, 0, none⟩ = some (.bool true) ∧ W'.cell? ⟨gy, 1, none⟩ = some (.string (mk (wi M))) ∧ W'.cell? ⟨gy, 2, none⟩ = some (.int .i64 4) from fun W' hg => by
        have e1 : ∀ j, W'.cell? ⟨gx, j, none⟩ = w2.cell? ⟨gx, j, none⟩ := fun j => (World.cell?_of_block (hg.block gx (Nat.lt_of_lt_of_le hgx (Nat.le_trans hsz2 hA.size)) hox)).trans ((hA.cell (p := ⟨gx, j, none⟩) (Nat.lt_of_lt_of_le hgx hsz2)).trans (HY.out.2.cell (p := ⟨gx, j, none⟩) hgx))
        have e2 : ∀ j, W'.cell? ⟨gy, j, none⟩ = w3.cell? ⟨gy, j, none⟩ := fun j => (World.cell?_of_block (hg.block gy (Nat.lt_of_lt_of_le hgy hA.size) hoy)).trans (hA.cell (p := ⟨gy, j, none⟩) hgy)
        exact ⟨(e1 0).trans (hcx 0 _ rfl), (e1 1).trans (hcx 1 _ rfl), (e2 0).trans (hcy 0 _ rfl), (e2 1).trans (hcy 1 _ rfl), (e2 2).trans (hcy 2 _ rfl)⟩)
      clear hcx hcy hox hoy hA HOWZ0 hbx hby hgx hgy
      rw [show [(⟨false, F, 1⟩ : Ln)].length = 1 from rfl, show [(⟨true, wi M, 4⟩ : Ln)].length = 1 from rfl]
      go_wp2_with (at_builtin; refine wpList_append_strG rfl (.tmp 83) (.tmp 84) rfl w.heap.size u5 (K.length) K rfl HOWZ.out ⟨w3.heap.size, 0, none⟩ 1 [122] rfl HCZ.out hpn hb0.out.size ?_; intro a6 c6 w6 hown6 hb6 hg6; obtain ⟨x0, x1, y0, y1, y2⟩ := HCELLS.out w6 hg6)
      have HOW6 := Lib.hid (owns_strs hown6)
      have HB6 := Lib.hid (hb0.out.trans hb6)
      clear hown6 hb6 hg6
      refine (HWC.out _).mono ?_
      rintro e w7 ⟨v7, rfl, hv7, hb7⟩
      have lx := World.block_lt_of_cell? _ _ x0
      have ly := World.block_lt_of_cell? _ _ y0
      have Z0 := Lib.hid (show ∀ q, (w7.drewN q).cell? ⟨gx, 0, none⟩ = some (.bool false) from fun q => (World.cell?_drewN ..).trans ((hb7.cell (p := ⟨gx, 0, none⟩) lx).trans x0))
      have Z2 := Lib.hid (show ∀ q, (w7.drewN q).cell? ⟨gy, 0, none⟩ = some (.bool true) from fun q => (World.cell?_drewN ..).trans ((hb7.cell (p := ⟨gy, 0, none⟩) ly).trans y0))
      have Z3 := Lib.hid (show ∀ q, (w7.drewN q).cell? ⟨gy, 1, none⟩ = some (.string (mk (wi M))) from fun q => (World.cell?_drewN ..).trans ((hb7.cell (p := ⟨gy, 1, none⟩) ly).trans y1))
      have Z4 := Lib.hid (show ∀ q, (w7.drewN q).cell? ⟨gy, 2, none⟩ = some (.int .i64 4) from fun q => (World.cell?_drewN ..).trans ((hb7.cell (p := ⟨gy, 2, none⟩) ly).trans y2))
      have hll : (K ++ [[122]]).length ≤ 1000000 := by rw [List.length_append, HHL.out]; simp; omega
      have hs7 := same_c hv7 (HOW6.out.below hb7) hll
      have HOW7 := Lib.hid (HOW6.out.below hb7)
      have HB7 := Lib.hid (HB6.out.trans (hb7.mono HB6.out.size))
      clear hv7 hb7 x0 x1 y0 y1 y2 lx ly
      go_wp2_with fail
      refine hs7.mono ?_
      rintro e w8 ⟨rfl, q1, rfl⟩
      have z3 := Z3.out q1
      have HB8 := Lib.hid (below_drewN HB7.out q1)
      clear hs7
      go_wp2_with fail
      refine (HWC2.out _).mono ?_
      rintro e w9 ⟨v9, rfl, hv9, hb9⟩
      have lx := World.block_lt_of_cell? _ _ (Z0.out q1)
      have ly := World.block_lt_of_cell? _ _ (Z2.out q1)
      have Y0 := Lib.hid (show ∀ q, (w9.drewN q).cell? ⟨gx, 0, none⟩ = some (.bool false) from fun q => (World.cell?_drewN ..).trans ((hb9.cell (p := ⟨gx, 0, none⟩) lx).trans (Z0.out q1)))
      have Y2 := Lib.hid (show ∀ q, (w9.drewN q).cell? ⟨gy, 0, none⟩ = some (.bool true) from fun q => (World.cell?_drewN ..).trans ((hb9.cell (p := ⟨gy, 0, none⟩) ly).trans (Z2.out q1)))
      have Y4 := Lib.hid (show ∀ q, (w9.drewN q).cell? ⟨gy, 2, none⟩ = some (.int .i64 4) from fun q => (World.cell?_drewN ..).trans ((hb9.cell (p := ⟨gy, 2, none⟩) ly).trans (Z4.out q1)))
      have hs9 := same_c hv9 (Strs.below (Strs.drewN HOW7.out q1) hb9) hll
      have HB9 := Lib.hid (HB8.out.trans (hb9.mono HB8.out.size))
      clear hv9 hb9 z3 lx ly
      go_wp2_with fail
      refine hs9.mono ?_
      rintro e w10 ⟨rfl, q2, rfl⟩
      have k0 := Y0.out q2
      have k2 := Y2.out q2
      have k4 := Y4.out q2
      have HB10 := Lib.hid (below_drewN HB9.out q2)
      clear hs9
      go_wp2_with fail
      refine (haw _).mono ?_
      rintro e w11 ⟨rfl, hb11⟩
      go_wp2_with fail
      go_ret
      exact ⟨rfl, HB10.out.trans (hb11.mono HB10.out.size)⟩

set_option maxRecDepth 100000 in
set_option maxHeartbeats 8000000 in
theorem lexBlanks_true {w : World} {v : Value} {l : List Nat} (h : HRow w v l) (t : Nat) (ht : t < 256) (hy : t % 3 = 0) :
    Calls Tryd.prog 4 #[v, .int .u8 (t : Int)] w fun e w' => e = .returned (.bool true) ∧ Below w.heap.size w w' := by
  obtain ⟨a, c, rfl, hrow⟩ := h
  by_cases hl : 60 < l.length
  · have hli : (60 : Int) < (l.length : Int) := by omega
    generalize l.length = n at *
    clear hrow
    go_enter Tryd.func4, Tryd.ntmps4
    go_wp2
    go_ret
    exact ⟨rfl, Below.refl _ _⟩
  obtain ⟨n, hn⟩ : ∃ n, l.length = n := ⟨_, rfl⟩
  rw [hn] at hl ⊢
  have hli : ¬ (60 : Int) < (n : Int) := by omega
  have HN := Lib.hid hn
  have HROW := Lib.hid hrow
  clear hn hrow
  obtain ⟨M, hM⟩ : ∃ M, l.map (· % 9) = M := ⟨_, rfl⟩
  have HM := Lib.hid hM
  have HML := Lib.hid (show M.length = n by rw [← hM, List.length_map, HN.out])
  clear hM
  obtain ⟨r, hr⟩ : ∃ r : Nat, t % 3 = r := ⟨_, rfl⟩
  have hti : (t : Int) % 3 = (r : Int) := by omega
  have hr2 : r = 0 := by omega
  have hr3 : ((r : Int) == 0) = true := by rw [hr2]; rfl
  clear hr hy hr2
  go_enter Tryd.func4, Tryd.ntmps4
  go_wp2_with fail
  go_loopw [5, 6, 7, 8, 9] (fun wn px wx i _ W' => ∃ j : Nat, i = .int .i64 j ∧ j ≤ n ∧ px = .string (mk (plB (M.take j))) ∧ wx = .string (mk ([32, 32, 32] ++ body true (M.take j))) ∧ Hid (Want w W' wn ((M.take j).map wd))) (fun _ _ _ i _ _ => n - (intOf i).toNat)
  case atStart => exact ⟨0, rfl, Nat.zero_le _, rfl, rfl, Lib.hid ⟨World.ownsRow_nil _ _ _ _, Below.refl _ _⟩⟩
  case round =>
    obtain ⟨j, rfl, hj, rfl, rfl, HT⟩ := hrel
    by_cases hlt : j < n
    · obtain ⟨p, hp⟩ : ∃ p, l[j]? = some p := ⟨_, List.getElem?_eq_getElem (by rw [HN.out]; exact hlt)⟩
      have hne : l ≠ [] := by rintro rfl; cases hp
      obtain ⟨g, off, rfl, hgl, hcell⟩ := HROW.out.resolve_left hne
      have c0 : wr.cell? ⟨g, off + j, none⟩ = some (.int .u16 (p : Int)) := (HT.out.2.cell hgl).trans (hcell j p hp).2
      have hp256 := (hcell j p hp).1
      have c1 : (wr.alloc (.cells #[.string ⟨#[97]⟩, .string ⟨#[98, 99]⟩, .string ⟨#[100, 36, 32, 101]⟩, .string ⟨#[102, 36, 36]⟩, .string ⟨#[58]⟩, .string ⟨#[124]⟩, .string ⟨#[124, 124]⟩, .string ⟨#[36, 103]⟩, .string ⟨#[104, 36, 58, 105]⟩] 9)).cell? ⟨g, off + j, none⟩ = some (.int .u16 (p : Int)) := ((below_alloc wr (.cells #[.string ⟨#[97]⟩, .string ⟨#[98, 99]⟩, .string ⟨#[100, 36, 32, 101]⟩, .string ⟨#[102, 36, 36]⟩, .string ⟨#[58]⟩, .string ⟨#[124]⟩, .string ⟨#[124, 124]⟩, .string ⟨#[36, 103]⟩, .string ⟨#[104, 36, 58, 105]⟩] 9)).cell (p := ⟨g, off + j, none⟩) (Nat.lt_of_lt_of_le hgl HT.out.2.size)).trans c0
      obtain ⟨k, hk⟩ : ∃ k, p % 9 = k := ⟨_, rfl⟩
      have hMk : M.take (j + 1) = M.take j ++ [k] := by
        rw [List.take_add_one, ← HM.out, List.getElem?_map, hp]
        simp [hk]
      have HMK := Lib.hid hMk
      have hk9 : k < 9 := by omega
      have hTl := plB_le (M.take j)
      have hBl := body_le true (M.take j)
      have hTj : (M.take j).length ≤ j := by rw [List.length_take]; omega
      obtain ⟨P, hP⟩ : ∃ P, M.take j = P := ⟨_, rfl⟩
      have HP := Lib.hid hP
      rw [hP] at hTl hTj hBl HT ⊢
      obtain ⟨T, hT⟩ : ∃ T, plB P = T := ⟨_, rfl⟩
      obtain ⟨B, hB⟩ : ∃ B, [32, 32, 32] ++ body true P = B := ⟨_, rfl⟩
      have HTT := Lib.hid hT
      have HBB := Lib.hid hB
      have hBl2 : B.length ≤ 3 + 12 * P.length := by rw [← hB, List.length_append]; simp; omega
      rw [hT] at hTl
      try rw [hT]
      try rw [hB]
      have hzT := mk_size T
      have hzB := mk_size B
      have hpn : (P.map wd).length ≤ 1000000 := by rw [List.length_map]; omega
      obtain ⟨K, hKK⟩ : ∃ K, P.map wd = K := ⟨_, rfl⟩
      rw [hKK] at hpn HT
      have HKK := Lib.hid hKK
      clear hne hcell hp hMk hP hT hB hBl hKK
      have hkc : k = 0 ∨ k = 1 ∨ k = 2 ∨ k = 3 ∨ k = 4 ∨ k = 5 ∨ k = 6 ∨ k = 7 ∨ k = 8 := by omega
      rcases hkc with rfl | rfl | rfl | rfl | rfl | rfl | rfl | rfl | rfl
      · have hki2 : (p : Int) % 9 = 0 := by omega
        have hw1 : (⟨#[97]⟩ : ByteArray) ++ (⟨#[32]⟩ : ByteArray) = mk [97, 32] := mk_append [97] [32]
        have hw2 : mk T ++ mk [97, 32] = mk (T ++ [97, 32]) := mk_append _ _
        have hv1 : (⟨#[97]⟩ : ByteArray) ++ (⟨#[32, 32, 32, 32]⟩ : ByteArray) = mk [97, 32, 32, 32, 32] := mk_append [97] [32, 32, 32, 32]
        have hv2 : mk B ++ mk [97, 32, 32, 32, 32] = mk (B ++ [97, 32, 32, 32, 32]) := mk_append _ _
        have hv3 : mk (B ++ [97, 32, 32, 32, 32]) ++ (⟨#[36, 10, 32, 32]⟩ : ByteArray) = mk ((B ++ [97, 32, 32, 32, 32]) ++ [36, 10, 32, 32]) := mk_append _ _
        have hs1 : (mk [97, 32]).size = 2 := mk_size _
        have hs2 : (mk [97, 32, 32, 32, 32]).size = 5 := mk_size _
        have hs3 : (mk (B ++ [97, 32, 32, 32, 32])).size = B.length + 5 := by rw [mk_size, List.length_append]; rfl
        have HTX := Lib.hid (show plB (M.take (j + 1)) = T ++ [97, 32] by rw [HMK.out, HP.out, plB_snoc, HTT.out]; rfl)
        have HBX := Lib.hid (show [32, 32, 32] ++ body true (M.take (j + 1)) = B ++ [97, 32, 32, 32, 32, 36, 10, 32, 32] by rw [HMK.out, HP.out, body_snoc, ← HBB.out]; simp [wd])
        have HWX := Lib.hid (show (M.take (j + 1)).map wd = K ++ [[97]] by rw [HMK.out, HP.out, List.map_append, HKK.out]; rfl)
        have HB5 := Lib.hid ((below_alloc wr (.cells #[.string ⟨#[97]⟩, .string ⟨#[98, 99]⟩, .string ⟨#[100, 36, 32, 101]⟩, .string ⟨#[102, 36, 36]⟩, .string ⟨#[58]⟩, .string ⟨#[124]⟩, .string ⟨#[124, 124]⟩, .string ⟨#[36, 103]⟩, .string ⟨#[104, 36, 58, 105]⟩] 9)).alloc (below_alloc wr (.cells #[.string ⟨#[97]⟩, .string ⟨#[98, 99]⟩, .string ⟨#[100, 36, 32, 101]⟩, .string ⟨#[102, 36, 36]⟩, .string ⟨#[58]⟩, .string ⟨#[124]⟩, .string ⟨#[124, 124]⟩, .string ⟨#[36, 103]⟩, .string ⟨#[104, 36, 58, 105]⟩] 9)).size (.cells #[.string ⟨#[97]⟩] 9))
        have HOWN := Lib.hid (owns_below HT.out.1 HB5.out)
        have HBW := Lib.hid (HT.out.2.trans (HB5.out.mono HT.out.2.size))
        have hc1 := cell_one_new (wr.alloc (.cells #[.string ⟨#[97]⟩, .string ⟨#[98, 99]⟩, .string ⟨#[100, 36, 32, 101]⟩, .string ⟨#[102, 36, 36]⟩, .string ⟨#[58]⟩, .string ⟨#[124]⟩, .string ⟨#[124, 124]⟩, .string ⟨#[36, 103]⟩, .string ⟨#[104, 36, 58, 105]⟩] 9)) (.string ⟨#[97]⟩) 9
        rw [World.size_alloc] at hc1
        have HC1 := Lib.hid hc1
        clear hc1 hk
        go_wp2_with (at_builtin; refine wpList_append_str rfl (.tmp 34) (.tmp 36) rfl w.heap.size u5 K.length K rfl HOWN.out ⟨wr.heap.size + 1, 0, none⟩ 1 [97] rfl HC1.out hpn HBW.out.size ?_; intro a6 c6 w6 hown6 hb6)
        have HT2 := Lib.hid (show Want w w6 (.slice a6 (K.length + 1) c6) (K ++ [[97]]) from ⟨by rw [List.length_append]; exact hown6, HBW.out.trans hb6⟩)
        clear hown6 hb6
        go_roundw
        case rel => exact ⟨j + 1, by go_num, by omega, by rw [HTX.out], by rw [HBX.out], Lib.hid (by rw [HWX.out]; exact HT2.out)⟩
        case measure => simp [intOf]; omega
      · have hki2 : (p : Int) % 9 = 1 := by omega
        have hw1 : (⟨#[98, 99]⟩ : ByteArray) ++ (⟨#[32]⟩ : ByteArray) = mk [98, 99, 32] := mk_append [98, 99] [32]
        have hw2 : mk T ++ mk [98, 99, 32] = mk (T ++ [98, 99, 32]) := mk_append _ _
        have hv1 : (⟨#[98, 99]⟩ : ByteArray) ++ (⟨#[32, 32, 32, 32]⟩ : ByteArray) = mk [98, 99, 32, 32, 32, 32] := mk_append [98, 99] [32, 32, 32, 32]
        have hv2 : mk B ++ mk [98, 99, 32, 32, 32, 32] = mk (B ++ [98, 99, 32, 32, 32, 32]) := mk_append _ _
        have hv3 : mk (B ++ [98, 99, 32, 32, 32, 32]) ++ (⟨#[36, 10, 32, 32]⟩ : ByteArray) = mk ((B ++ [98, 99, 32, 32, 32, 32]) ++ [36, 10, 32, 32]) := mk_append _ _
        have hs1 : (mk [98, 99, 32]).size = 3 := mk_size _
        have hs2 : (mk [98, 99, 32, 32, 32, 32]).size = 6 := mk_size _
        have hs3 : (mk (B ++ [98, 99, 32, 32, 32, 32])).size = B.length + 6 := by rw [mk_size, List.length_append]; rfl
        have HTX := Lib.hid (show plB (M.take (j + 1)) = T ++ [98, 99, 32] by rw [HMK.out, HP.out, plB_snoc, HTT.out]; rfl)
        have HBX := Lib.hid (show [32, 32, 32] ++ body true (M.take (j + 1)) = B ++ [98, 99, 32, 32, 32, 32, 36, 10, 32, 32] by rw [HMK.out, HP.out, body_snoc, ← HBB.out]; simp [wd])
        have HWX := Lib.hid (show (M.take (j + 1)).map wd = K ++ [[98, 99]] by rw [HMK.out, HP.out, List.map_append, HKK.out]; rfl)
        have HB5 := Lib.hid ((below_alloc wr (.cells #[.string ⟨#[97]⟩, .string ⟨#[98, 99]⟩, .string ⟨#[100, 36, 32, 101]⟩, .string ⟨#[102, 36, 36]⟩, .string ⟨#[58]⟩, .string ⟨#[124]⟩, .string ⟨#[124, 124]⟩, .string ⟨#[36, 103]⟩, .string ⟨#[104, 36, 58, 105]⟩] 9)).alloc (below_alloc wr (.cells #[.string ⟨#[97]⟩, .string ⟨#[98, 99]⟩, .string ⟨#[100, 36, 32, 101]⟩, .string ⟨#[102, 36, 36]⟩, .string ⟨#[58]⟩, .string ⟨#[124]⟩, .string ⟨#[124, 124]⟩, .string ⟨#[36, 103]⟩, .string ⟨#[104, 36, 58, 105]⟩] 9)).size (.cells #[.string ⟨#[98, 99]⟩] 9))
        have HOWN := Lib.hid (owns_below HT.out.1 HB5.out)
        have HBW := Lib.hid (HT.out.2.trans (HB5.out.mono HT.out.2.size))
        have hc1 := cell_one_new (wr.alloc (.cells #[.string ⟨#[97]⟩, .string ⟨#[98, 99]⟩, .string ⟨#[100, 36, 32, 101]⟩, .string ⟨#[102, 36, 36]⟩, .string ⟨#[58]⟩, .string ⟨#[124]⟩, .string ⟨#[124, 124]⟩, .string ⟨#[36, 103]⟩, .string ⟨#[104, 36, 58, 105]⟩] 9)) (.string ⟨#[98, 99]⟩) 9
        rw [World.size_alloc] at hc1
        have HC1 := Lib.hid hc1
        clear hc1 hk
        go_wp2_with (at_builtin; refine wpList_append_str rfl (.tmp 34) (.tmp 36) rfl w.heap.size u5 K.length K rfl HOWN.out ⟨wr.heap.size + 1, 0, none⟩ 1 [98, 99] rfl HC1.out hpn HBW.out.size ?_; intro a6 c6 w6 hown6 hb6)
        have HT2 := Lib.hid (show Want w w6 (.slice a6 (K.length + 1) c6) (K ++ [[98, 99]]) from ⟨by rw [List.length_append]; exact hown6, HBW.out.trans hb6⟩)
        clear hown6 hb6
        go_roundw
        case rel => exact ⟨j + 1, by go_num, by omega, by rw [HTX.out], by rw [HBX.out], Lib.hid (by rw [HWX.out]; exact HT2.out)⟩
        case measure => simp [intOf]; omega
      · have hki2 : (p : Int) % 9 = 2 := by omega
        have hw1 : (⟨#[100, 36, 32, 101]⟩ : ByteArray) ++ (⟨#[32]⟩ : ByteArray) = mk [100, 36, 32, 101, 32] := mk_append [100, 36, 32, 101] [32]
        have hw2 : mk T ++ mk [100, 36, 32, 101, 32] = mk (T ++ [100, 36, 32, 101, 32]) := mk_append _ _
        have hv1 : (⟨#[100, 36, 32, 101]⟩ : ByteArray) ++ (⟨#[32, 32, 32, 32]⟩ : ByteArray) = mk [100, 36, 32, 101, 32, 32, 32, 32] := mk_append [100, 36, 32, 101] [32, 32, 32, 32]
        have hv2 : mk B ++ mk [100, 36, 32, 101, 32, 32, 32, 32] = mk (B ++ [100, 36, 32, 101, 32, 32, 32, 32]) := mk_append _ _
        have hv3 : mk (B ++ [100, 36, 32, 101, 32, 32, 32, 32]) ++ (⟨#[36, 10, 32, 32]⟩ : ByteArray) = mk ((B ++ [100, 36, 32, 101, 32, 32, 32, 32]) ++ [36, 10, 32, 32]) := mk_append _ _
        have hs1 : (mk [100, 36, 32, 101, 32]).size = 5 := mk_size _
        have hs2 : (mk [100, 36, 32, 101, 32, 32, 32, 32]).size = 8 := mk_size _
        have hs3 : (mk (B ++ [100, 36, 32, 101, 32, 32, 32, 32])).size = B.length + 8 := by rw [mk_size, List.length_append]; rfl
        have HTX := Lib.hid (show plB (M.take (j + 1)) = T ++ [100, 36, 32, 101, 32] by rw [HMK.out, HP.out, plB_snoc, HTT.out]; rfl)
        have HBX := Lib.hid (show [32, 32, 32] ++ body true (M.take (j + 1)) = B ++ [100, 36, 32, 101, 32, 32, 32, 32, 36, 10, 32, 32] by rw [HMK.out, HP.out, body_snoc, ← HBB.out]; simp [wd])
        have HWX := Lib.hid (show (M.take (j + 1)).map wd = K ++ [[100, 36, 32, 101]] by rw [HMK.out, HP.out, List.map_append, HKK.out]; rfl)
        have HB5 := Lib.hid ((below_alloc wr (.cells #[.string ⟨#[97]⟩, .string ⟨#[98, 99]⟩, .string ⟨#[100, 36, 32, 101]⟩, .string ⟨#[102, 36, 36]⟩, .string ⟨#[58]⟩, .string ⟨#[124]⟩, .string ⟨#[124, 124]⟩, .string ⟨#[36, 103]⟩, .string ⟨#[104, 36, 58, 105]⟩] 9)).alloc (below_alloc wr (.cells #[.string ⟨#[97]⟩, .string ⟨#[98, 99]⟩, .string ⟨#[100, 36, 32, 101]⟩, .string ⟨#[102, 36, 36]⟩, .string ⟨#[58]⟩, .string ⟨#[124]⟩, .string ⟨#[124, 124]⟩, .string ⟨#[36, 103]⟩, .string ⟨#[104, 36, 58, 105]⟩] 9)).size (.cells #[.string ⟨#[100, 36, 32, 101]⟩] 9))
        have HOWN := Lib.hid (owns_below HT.out.1 HB5.out)
        have HBW := Lib.hid (HT.out.2.trans (HB5.out.mono HT.out.2.size))
        have hc1 := cell_one_new (wr.alloc (.cells #[.string ⟨#[97]⟩, .string ⟨#[98, 99]⟩, .string ⟨#[100, 36, 32, 101]⟩, .string ⟨#[102, 36, 36]⟩, .string ⟨#[58]⟩, .string ⟨#[124]⟩, .string ⟨#[124, 124]⟩, .string ⟨#[36, 103]⟩, .string ⟨#[104, 36, 58, 105]⟩] 9)) (.string ⟨#[100, 36, 32, 101]⟩) 9
        rw [World.size_alloc] at hc1
        have HC1 := Lib.hid hc1
        clear hc1 hk
        go_wp2_with (at_builtin; refine wpList_append_str rfl (.tmp 34) (.tmp 36) rfl w.heap.size u5 K.length K rfl HOWN.out ⟨wr.heap.size + 1, 0, none⟩ 1 [100, 36, 32, 101] rfl HC1.out hpn HBW.out.size ?_; intro a6 c6 w6 hown6 hb6)
        have HT2 := Lib.hid (show Want w w6 (.slice a6 (K.length + 1) c6) (K ++ [[100, 36, 32, 101]]) from ⟨by rw [List.length_append]; exact hown6, HBW.out.trans hb6⟩)
        clear hown6 hb6
        go_roundw
        case rel => exact ⟨j + 1, by go_num, by omega, by rw [HTX.out], by rw [HBX.out], Lib.hid (by rw [HWX.out]; exact HT2.out)⟩
        case measure => simp [intOf]; omega
      · have hki2 : (p : Int) % 9 = 3 := by omega
        have hw1 : (⟨#[102, 36, 36]⟩ : ByteArray) ++ (⟨#[32]⟩ : ByteArray) = mk [102, 36, 36, 32] := mk_append [102, 36, 36] [32]
        have hw2 : mk T ++ mk [102, 36, 36, 32] = mk (T ++ [102, 36, 36, 32]) := mk_append _ _
        have hv1 : (⟨#[102, 36, 36]⟩ : ByteArray) ++ (⟨#[32, 32, 32, 32]⟩ : ByteArray) = mk [102, 36, 36, 32, 32, 32, 32] := mk_append [102, 36, 36] [32, 32, 32, 32]
        have hv2 : mk B ++ mk [102, 36, 36, 32, 32, 32, 32] = mk (B ++ [102, 36, 36, 32, 32, 32, 32]) := mk_append _ _
        have hv3 : mk (B ++ [102, 36, 36, 32, 32, 32, 32]) ++ (⟨#[36, 10, 32, 32]⟩ : ByteArray) = mk ((B ++ [102, 36, 36, 32, 32, 32, 32]) ++ [36, 10, 32, 32]) := mk_append _ _
        have hs1 : (mk [102, 36, 36, 32]).size = 4 := mk_size _
        have hs2 : (mk [102, 36, 36, 32, 32, 32, 32]).size = 7 := mk_size _
        have hs3 : (mk (B ++ [102, 36, 36, 32, 32, 32, 32])).size = B.length + 7 := by rw [mk_size, List.length_append]; rfl
        have HTX := Lib.hid (show plB (M.take (j + 1)) = T ++ [102, 36, 36, 32] by rw [HMK.out, HP.out, plB_snoc, HTT.out]; rfl)
        have HBX := Lib.hid (show [32, 32, 32] ++ body true (M.take (j + 1)) = B ++ [102, 36, 36, 32, 32, 32, 32, 36, 10, 32, 32] by rw [HMK.out, HP.out, body_snoc, ← HBB.out]; simp [wd])
        have HWX := Lib.hid (show (M.take (j + 1)).map wd = K ++ [[102, 36, 36]] by rw [HMK.out, HP.out, List.map_append, HKK.out]; rfl)
        have HB5 := Lib.hid ((below_alloc wr (.cells #[.string ⟨#[97]⟩, .string ⟨#[98, 99]⟩, .string ⟨#[100, 36, 32, 101]⟩, .string ⟨#[102, 36, 36]⟩, .string ⟨#[58]⟩, .string ⟨#[124]⟩, .string ⟨#[124, 124]⟩, .string ⟨#[36, 103]⟩, .string ⟨#[104, 36, 58, 105]⟩] 9)).alloc (below_alloc wr (.cells #[.string ⟨#[97]⟩, .string ⟨#[98, 99]⟩, .string ⟨#[100, 36, 32, 101]⟩, .string ⟨#[102, 36, 36]⟩, .string ⟨#[58]⟩, .string ⟨#[124]⟩, .string ⟨#[124, 124]⟩, .string ⟨#[36, 103]⟩, .string ⟨#[104, 36, 58, 105]⟩] 9)).size (.cells #[.string ⟨#[102, 36, 36]⟩] 9))
        have HOWN := Lib.hid (owns_below HT.out.1 HB5.out)
        have HBW := Lib.hid (HT.out.2.trans (HB5.out.mono HT.out.2.size))
        have hc1 := cell_one_new (wr.alloc (.cells #[.string ⟨#[97]⟩, .string ⟨#[98, 99]⟩, .string ⟨#[100, 36, 32, 101]⟩, .string ⟨#[102, 36, 36]⟩, .string ⟨#[58]⟩, .string ⟨#[124]⟩, .string ⟨#[124, 124]⟩, .string ⟨#[36, 103]⟩, .string ⟨#[104, 36, 58, 105]⟩] 9)) (.string ⟨#[102, 36, 36]⟩) 9
        rw [World.size_alloc] at hc1
        have HC1 := Lib.hid hc1
        clear hc1 hk
        go_wp2_with (at_builtin; refine wpList_append_str rfl (.tmp 34) (.tmp 36) rfl w.heap.size u5 K.length K rfl HOWN.out ⟨wr.heap.size + 1, 0, none⟩ 1 [102, 36, 36] rfl HC1.out hpn HBW.out.size ?_; intro a6 c6 w6 hown6 hb6)
        have HT2 := Lib.hid (show Want w w6 (.slice a6 (K.length + 1) c6) (K ++ [[102, 36, 36]]) from ⟨by rw [List.length_append]; exact hown6, HBW.out.trans hb6⟩)
        clear hown6 hb6
        go_roundw
        case rel => exact ⟨j + 1, by go_num, by omega, by rw [HTX.out], by rw [HBX.out], Lib.hid (by rw [HWX.out]; exact HT2.out)⟩
        case measure => simp [intOf]; omega
      · have hki2 : (p : Int) % 9 = 4 := by omega
        have hw1 : (⟨#[58]⟩ : ByteArray) ++ (⟨#[32]⟩ : ByteArray) = mk [58, 32] := mk_append [58] [32]
        have hw2 : mk T ++ mk [58, 32] = mk (T ++ [58, 32]) := mk_append _ _
        have hv1 : (⟨#[58]⟩ : ByteArray) ++ (⟨#[32, 32, 32, 32]⟩ : ByteArray) = mk [58, 32, 32, 32, 32] := mk_append [58] [32, 32, 32, 32]
        have hv2 : mk B ++ mk [58, 32, 32, 32, 32] = mk (B ++ [58, 32, 32, 32, 32]) := mk_append _ _
        have hv3 : mk (B ++ [58, 32, 32, 32, 32]) ++ (⟨#[36, 10, 32, 32]⟩ : ByteArray) = mk ((B ++ [58, 32, 32, 32, 32]) ++ [36, 10, 32, 32]) := mk_append _ _
        have hs1 : (mk [58, 32]).size = 2 := mk_size _
        have hs2 : (mk [58, 32, 32, 32, 32]).size = 5 := mk_size _
        have hs3 : (mk (B ++ [58, 32, 32, 32, 32])).size = B.length + 5 := by rw [mk_size, List.length_append]; rfl
        have HTX := Lib.hid (show plB (M.take (j + 1)) = T ++ [58, 32] by rw [HMK.out, HP.out, plB_snoc, HTT.out]; rfl)
        have HBX := Lib.hid (show [32, 32, 32] ++ body true (M.take (j + 1)) = B ++ [58, 32, 32, 32, 32, 36, 10, 32, 32] by rw [HMK.out, HP.out, body_snoc, ← HBB.out]; simp [wd])
        have HWX := Lib.hid (show (M.take (j + 1)).map wd = K ++ [[58]] by rw [HMK.out, HP.out, List.map_append, HKK.out]; rfl)
        have HB5 := Lib.hid ((below_alloc wr (.cells #[.string ⟨#[97]⟩, .string ⟨#[98, 99]⟩, .string ⟨#[100, 36, 32, 101]⟩, .string ⟨#[102, 36, 36]⟩, .string ⟨#[58]⟩, .string ⟨#[124]⟩, .string ⟨#[124, 124]⟩, .string ⟨#[36, 103]⟩, .string ⟨#[104, 36, 58, 105]⟩] 9)).alloc (below_alloc wr (.cells #[.string ⟨#[97]⟩, .string ⟨#[98, 99]⟩, .string ⟨#[100, 36, 32, 101]⟩, .string ⟨#[102, 36, 36]⟩, .string ⟨#[58]⟩, .string ⟨#[124]⟩, .string ⟨#[124, 124]⟩, .string ⟨#[36, 103]⟩, .string ⟨#[104, 36, 58, 105]⟩] 9)).size (.cells #[.string ⟨#[58]⟩] 9))
        have HOWN := Lib.hid (owns_below HT.out.1 HB5.out)
        have HBW := Lib.hid (HT.out.2.trans (HB5.out.mono HT.out.2.size))
        have hc1 := cell_one_new (wr.alloc (.cells #[.string ⟨#[97]⟩, .string ⟨#[98, 99]⟩, .string ⟨#[100, 36, 32, 101]⟩, .string ⟨#[102, 36, 36]⟩, .string ⟨#[58]⟩, .string ⟨#[124]⟩, .string ⟨#[124, 124]⟩, .string ⟨#[36, 103]⟩, .string ⟨#[104, 36, 58, 105]⟩] 9)) (.string ⟨#[58]⟩) 9
        rw [World.size_alloc] at hc1
        have HC1 := Lib.hid hc1
        clear hc1 hk
        go_wp2_with (at_builtin; refine wpList_append_str rfl (.tmp 34) (.tmp 36) rfl w.heap.size u5 K.length K rfl HOWN.out ⟨wr.heap.size + 1, 0, none⟩ 1 [58] rfl HC1.out hpn HBW.out.size ?_; intro a6 c6 w6 hown6 hb6)
        have HT2 := Lib.hid (show Want w w6 (.slice a6 (K.length + 1) c6) (K ++ [[58]]) from ⟨by rw [List.length_append]; exact hown6, HBW.out.trans hb6⟩)
        clear hown6 hb6
        go_roundw
        case rel => exact ⟨j + 1, by go_num, by omega, by rw [HTX.out], by rw [HBX.out], Lib.hid (by rw [HWX.out]; exact HT2.out)⟩
        case measure => simp [intOf]; omega
      · have hki2 : (p : Int) % 9 = 5 := by omega
        have hw1 : (⟨#[124]⟩ : ByteArray) ++ (⟨#[32]⟩ : ByteArray) = mk [124, 32] := mk_append [124] [32]
        have hw2 : mk T ++ mk [124, 32] = mk (T ++ [124, 32]) := mk_append _ _
        have hv1 : (⟨#[124]⟩ : ByteArray) ++ (⟨#[32, 32, 32, 32]⟩ : ByteArray) = mk [124, 32, 32, 32, 32] := mk_append [124] [32, 32, 32, 32]
        have hv2 : mk B ++ mk [124, 32, 32, 32, 32] = mk (B ++ [124, 32, 32, 32, 32]) := mk_append _ _
        have hv3 : mk (B ++ [124, 32, 32, 32, 32]) ++ (⟨#[36, 10, 32, 32]⟩ : ByteArray) = mk ((B ++ [124, 32, 32, 32, 32]) ++ [36, 10, 32, 32]) := mk_append _ _
        have hs1 : (mk [124, 32]).size = 2 := mk_size _
        have hs2 : (mk [124, 32, 32, 32, 32]).size = 5 := mk_size _
        have hs3 : (mk (B ++ [124, 32, 32, 32, 32])).size = B.length + 5 := by rw [mk_size, List.length_append]; rfl
        have HTX := Lib.hid (show plB (M.take (j + 1)) = T ++ [124, 32] by rw [HMK.out, HP.out, plB_snoc, HTT.out]; rfl)
        have HBX := Lib.hid (show [32, 32, 32] ++ body true (M.take (j + 1)) = B ++ [124, 32, 32, 32, 32, 36, 10, 32, 32] by rw [HMK.out, HP.out, body_snoc, ← HBB.out]; simp [wd])
        have HWX := Lib.hid (show (M.take (j + 1)).map wd = K ++ [[124]] by rw [HMK.out, HP.out, List.map_append, HKK.out]; rfl)
        have HB5 := Lib.hid ((below_alloc wr (.cells #[.string ⟨#[97]⟩, .string ⟨#[98, 99]⟩, .string ⟨#[100, 36, 32, 101]⟩, .string ⟨#[102, 36, 36]⟩, .string ⟨#[58]⟩, .string ⟨#[124]⟩, .string ⟨#[124, 124]⟩, .string ⟨#[36, 103]⟩, .string ⟨#[104, 36, 58, 105]⟩] 9)).alloc (below_alloc wr (.cells #[.string ⟨#[97]⟩, .string ⟨#[98, 99]⟩, .string ⟨#[100, 36, 32, 101]⟩, .string ⟨#[102, 36, 36]⟩, .string ⟨#[58]⟩, .string ⟨#[124]⟩, .string ⟨#[124, 124]⟩, .string ⟨#[36, 103]⟩, .string ⟨#[104, 36, 58, 105]⟩] 9)).size (.cells #[.string ⟨#[124]⟩] 9))
        have HOWN := Lib.hid (owns_below HT.out.1 HB5.out)
        have HBW := Lib.hid (HT.out.2.trans (HB5.out.mono HT.out.2.size))
        have hc1 := cell_one_new (wr.alloc (.cells #[.string ⟨#[97]⟩, .string ⟨#[98, 99]⟩, .string ⟨#[100, 36, 32, 101]⟩, .string ⟨#[102, 36, 36]⟩, .string ⟨#[58]⟩, .string ⟨#[124]⟩, .string ⟨#[124, 124]⟩, .string ⟨#[36, 103]⟩, .string ⟨#[104, 36, 58, 105]⟩] 9)) (.string ⟨#[124]⟩) 9
        rw [World.size_alloc] at hc1
        have HC1 := Lib.hid hc1
        clear hc1 hk
        go_wp2_with (at_builtin; refine wpList_append_str rfl (.tmp 34) (.tmp 36) rfl w.heap.size u5 K.length K rfl HOWN.out ⟨wr.heap.size + 1, 0, none⟩ 1 [124] rfl HC1.out hpn HBW.out.size ?_; intro a6 c6 w6 hown6 hb6)
        have HT2 := Lib.hid (show Want w w6 (.slice a6 (K.length + 1) c6) (K ++ [[124]]) from ⟨by rw [List.length_append]; exact hown6, HBW.out.trans hb6⟩)
        clear hown6 hb6
        go_roundw
        case rel => exact ⟨j + 1, by go_num, by omega, by rw [HTX.out], by rw [HBX.out], Lib.hid (by rw [HWX.out]; exact HT2.out)⟩
        case measure => simp [intOf]; omega
      · have hki2 : (p : Int) % 9 = 6 := by omega
        have hw1 : (⟨#[124, 124]⟩ : ByteArray) ++ (⟨#[32]⟩ : ByteArray) = mk [124, 124, 32] := mk_append [124, 124] [32]
        have hw2 : mk T ++ mk [124, 124, 32] = mk (T ++ [124, 124, 32]) := mk_append _ _
        have hv1 : (⟨#[124, 124]⟩ : ByteArray) ++ (⟨#[32, 32, 32, 32]⟩ : ByteArray) = mk [124, 124, 32, 32, 32, 32] := mk_append [124, 124] [32, 32, 32, 32]
        have hv2 : mk B ++ mk [124, 124, 32, 32, 32, 32] = mk (B ++ [124, 124, 32, 32, 32, 32]) := mk_append _ _
        have hv3 : mk (B ++ [124, 124, 32, 32, 32, 32]) ++ (⟨#[36, 10, 32, 32]⟩ : ByteArray) = mk ((B ++ [124, 124, 32, 32, 32, 32]) ++ [36, 10, 32, 32]) := mk_append _ _
        have hs1 : (mk [124, 124, 32]).size = 3 := mk_size _
        have hs2 : (mk [124, 124, 32, 32, 32, 32]).size = 6 := mk_size _
        have hs3 : (mk (B ++ [124, 124, 32, 32, 32, 32])).size = B.length + 6 := by rw [mk_size, List.length_append]; rfl
        have HTX := Lib.hid (show plB (M.take (j + 1)) = T ++ [124, 124, 32] by rw [HMK.out, HP.out, plB_snoc, HTT.out]; rfl)
        have HBX := Lib.hid (show [32, 32, 32] ++ body true (M.take (j + 1)) = B ++ [124, 124, 32, 32, 32, 32, 36, 10, 32, 32] by rw [HMK.out, HP.out, body_snoc, ← HBB.out]; simp [wd])
        have HWX := Lib.hid (show (M.take (j + 1)).map wd = K ++ [[124, 124]] by rw [HMK.out, HP.out, List.map_append, HKK.out]; rfl)
        have HB5 := Lib.hid ((below_alloc wr (.cells #[.string ⟨#[97]⟩, .string ⟨#[98, 99]⟩, .string ⟨#[100, 36, 32, 101]⟩, .string ⟨#[102, 36, 36]⟩, .string ⟨#[58]⟩, .string ⟨#[124]⟩, .string ⟨#[124, 124]⟩, .string ⟨#[36, 103]⟩, .string ⟨#[104, 36, 58, 105]⟩] 9)).alloc (below_alloc wr (.cells #[.string ⟨#[97]⟩, .string ⟨#[98, 99]⟩, .string ⟨#[100, 36, 32, 101]⟩, .string ⟨#[102, 36, 36]⟩, .string ⟨#[58]⟩, .string ⟨#[124]⟩, .string ⟨#[124, 124]⟩, .string ⟨#[36, 103]⟩, .string ⟨#[104, 36, 58, 105]⟩] 9)).size (.cells #[.string ⟨#[124, 124]⟩] 9))
        have HOWN := Lib.hid (owns_below HT.out.1 HB5.out)
        have HBW := Lib.hid (HT.out.2.trans (HB5.out.mono HT.out.2.size))
        have hc1 := cell_one_new (wr.alloc (.cells #[.string ⟨#[97]⟩, .string ⟨#[98, 99]⟩, .string ⟨#[100, 36, 32, 101]⟩, .string ⟨#[102, 36, 36]⟩, .string ⟨#[58]⟩, .string ⟨#[124]⟩, .string ⟨#[124, 124]⟩, .string ⟨#[36, 103]⟩, .string ⟨#[104, 36, 58, 105]⟩] 9)) (.string ⟨#[124, 124]⟩) 9
        rw [World.size_alloc] at hc1
        have HC1 := Lib.hid hc1
        clear hc1 hk
        go_wp2_with (at_builtin; refine wpList_append_str rfl (.tmp 34) (.tmp 36) rfl w.heap.size u5 K.length K rfl HOWN.out ⟨wr.heap.size + 1, 0, none⟩ 1 [124, 124] rfl HC1.out hpn HBW.out.size ?_; intro a6 c6 w6 hown6 hb6)
        have HT2 := Lib.hid (show Want w w6 (.slice a6 (K.length + 1) c6) (K ++ [[124, 124]]) from ⟨by rw [List.length_append]; exact hown6, HBW.out.trans hb6⟩)
        clear hown6 hb6
        go_roundw
        case rel => exact ⟨j + 1, by go_num, by omega, by rw [HTX.out], by rw [HBX.out], Lib.hid (by rw [HWX.out]; exact HT2.out)⟩
        case measure => simp [intOf]; omega
      · have hki2 : (p : Int) % 9 = 7 := by omega
        have hw1 : (⟨#[36, 103]⟩ : ByteArray) ++ (⟨#[32]⟩ : ByteArray) = mk [36, 103, 32] := mk_append [36, 103] [32]
        have hw2 : mk T ++ mk [36, 103, 32] = mk (T ++ [36, 103, 32]) := mk_append _ _
        have hv1 : (⟨#[36, 103]⟩ : ByteArray) ++ (⟨#[32, 32, 32, 32]⟩ : ByteArray) = mk [36, 103, 32, 32, 32, 32] := mk_append [36, 103] [32, 32, 32, 32]
        have hv2 : mk B ++ mk [36, 103, 32, 32, 32, 32] = mk (B ++ [36, 103, 32, 32, 32, 32]) := mk_append _ _
        have hv3 : mk (B ++ [36, 103, 32, 32, 32, 32]) ++ (⟨#[36, 10, 32, 32]⟩ : ByteArray) = mk ((B ++ [36, 103, 32, 32, 32, 32]) ++ [36, 10, 32, 32]) := mk_append _ _
        have hs1 : (mk [36, 103, 32]).size = 3 := mk_size _
        have hs2 : (mk [36, 103, 32, 32, 32, 32]).size = 6 := mk_size _
        have hs3 : (mk (B ++ [36, 103, 32, 32, 32, 32])).size = B.length + 6 := by rw [mk_size, List.length_append]; rfl
        have HTX := Lib.hid (show plB (M.take (j + 1)) = T ++ [36, 103, 32] by rw [HMK.out, HP.out, plB_snoc, HTT.out]; rfl)
        have HBX := Lib.hid (show [32, 32, 32] ++ body true (M.take (j + 1)) = B ++ [36, 103, 32, 32, 32, 32, 36, 10, 32, 32] by rw [HMK.out, HP.out, body_snoc, ← HBB.out]; simp [wd])
        have HWX := Lib.hid (show (M.take (j + 1)).map wd = K ++ [[36, 103]] by rw [HMK.out, HP.out, List.map_append, HKK.out]; rfl)
        have HB5 := Lib.hid ((below_alloc wr (.cells #[.string ⟨#[97]⟩, .string ⟨#[98, 99]⟩, .string ⟨#[100, 36, 32, 101]⟩, .string ⟨#[102, 36, 36]⟩, .string ⟨#[58]⟩, .string ⟨#[124]⟩, .string ⟨#[124, 124]⟩, .string ⟨#[36, 103]⟩, .string ⟨#[104, 36, 58, 105]⟩] 9)).alloc (below_alloc wr (.cells #[.string ⟨#[97]⟩, .string ⟨#[98, 99]⟩, .string ⟨#[100, 36, 32, 101]⟩, .string ⟨#[102, 36, 36]⟩, .string ⟨#[58]⟩, .string ⟨#[124]⟩, .string ⟨#[124, 124]⟩, .string ⟨#[36, 103]⟩, .string ⟨#[104, 36, 58, 105]⟩] 9)).size (.cells #[.string ⟨#[36, 103]⟩] 9))
        have HOWN := Lib.hid (owns_below HT.out.1 HB5.out)
        have HBW := Lib.hid (HT.out.2.trans (HB5.out.mono HT.out.2.size))
        have hc1 := cell_one_new (wr.alloc (.cells #[.string ⟨#[97]⟩, .string ⟨#[98, 99]⟩, .string ⟨#[100, 36, 32, 101]⟩, .string ⟨#[102, 36, 36]⟩, .string ⟨#[58]⟩, .string ⟨#[124]⟩, .string ⟨#[124, 124]⟩, .string ⟨#[36, 103]⟩, .string ⟨#[104, 36, 58, 105]⟩] 9)) (.string ⟨#[36, 103]⟩) 9
        rw [World.size_alloc] at hc1
        have HC1 := Lib.hid hc1
        clear hc1 hk
        go_wp2_with (at_builtin; refine wpList_append_str rfl (.tmp 34) (.tmp 36) rfl w.heap.size u5 K.length K rfl HOWN.out ⟨wr.heap.size + 1, 0, none⟩ 1 [36, 103] rfl HC1.out hpn HBW.out.size ?_; intro a6 c6 w6 hown6 hb6)
        have HT2 := Lib.hid (show Want w w6 (.slice a6 (K.length + 1) c6) (K ++ [[36, 103]]) from ⟨by rw [List.length_append]; exact hown6, HBW.out.trans hb6⟩)
        clear hown6 hb6
        go_roundw
        case rel => exact ⟨j + 1, by go_num, by omega, by rw [HTX.out], by rw [HBX.out], Lib.hid (by rw [HWX.out]; exact HT2.out)⟩
        case measure => simp [intOf]; omega
      · have hki2 : (p : Int) % 9 = 8 := by omega
        have hw1 : (⟨#[104, 36, 58, 105]⟩ : ByteArray) ++ (⟨#[32]⟩ : ByteArray) = mk [104, 36, 58, 105, 32] := mk_append [104, 36, 58, 105] [32]
        have hw2 : mk T ++ mk [104, 36, 58, 105, 32] = mk (T ++ [104, 36, 58, 105, 32]) := mk_append _ _
        have hv1 : (⟨#[104, 36, 58, 105]⟩ : ByteArray) ++ (⟨#[32, 32, 32, 32]⟩ : ByteArray) = mk [104, 36, 58, 105, 32, 32, 32, 32] := mk_append [104, 36, 58, 105] [32, 32, 32, 32]
        have hv2 : mk B ++ mk [104, 36, 58, 105, 32, 32, 32, 32] = mk (B ++ [104, 36, 58, 105, 32, 32, 32, 32]) := mk_append _ _
        have hv3 : mk (B ++ [104, 36, 58, 105, 32, 32, 32, 32]) ++ (⟨#[36, 10, 32, 32]⟩ : ByteArray) = mk ((B ++ [104, 36, 58, 105, 32, 32, 32, 32]) ++ [36, 10, 32, 32]) := mk_append _ _
        have hs1 : (mk [104, 36, 58, 105, 32]).size = 5 := mk_size _
        have hs2 : (mk [104, 36, 58, 105, 32, 32, 32, 32]).size = 8 := mk_size _
        have hs3 : (mk (B ++ [104, 36, 58, 105, 32, 32, 32, 32])).size = B.length + 8 := by rw [mk_size, List.length_append]; rfl
        have HTX := Lib.hid (show plB (M.take (j + 1)) = T ++ [104, 36, 58, 105, 32] by rw [HMK.out, HP.out, plB_snoc, HTT.out]; rfl)
        have HBX := Lib.hid (show [32, 32, 32] ++ body true (M.take (j + 1)) = B ++ [104, 36, 58, 105, 32, 32, 32, 32, 36, 10, 32, 32] by rw [HMK.out, HP.out, body_snoc, ← HBB.out]; simp [wd])
        have HWX := Lib.hid (show (M.take (j + 1)).map wd = K ++ [[104, 36, 58, 105]] by rw [HMK.out, HP.out, List.map_append, HKK.out]; rfl)
        have HB5 := Lib.hid ((below_alloc wr (.cells #[.string ⟨#[97]⟩, .string ⟨#[98, 99]⟩, .string ⟨#[100, 36, 32, 101]⟩, .string ⟨#[102, 36, 36]⟩, .string ⟨#[58]⟩, .string ⟨#[124]⟩, .string ⟨#[124, 124]⟩, .string ⟨#[36, 103]⟩, .string ⟨#[104, 36, 58, 105]⟩] 9)).alloc (below_alloc wr (.cells #[.string ⟨#[97]⟩, .string ⟨#[98, 99]⟩, .string ⟨#[100, 36, 32, 101]⟩, .string ⟨#[102, 36, 36]⟩, .string ⟨#[58]⟩, .string ⟨#[124]⟩, .string ⟨#[124, 124]⟩, .string ⟨#[36, 103]⟩, .string ⟨#[104, 36, 58, 105]⟩] 9)).size (.cells #[.string ⟨#[104, 36, 58, 105]⟩] 9))
        have HOWN := Lib.hid (owns_below HT.out.1 HB5.out)
        have HBW := Lib.hid (HT.out.2.trans (HB5.out.mono HT.out.2.size))
        have hc1 := cell_one_new (wr.alloc (.cells #[.string ⟨#[97]⟩, .string ⟨#[98, 99]⟩, .string ⟨#[100, 36, 32, 101]⟩, .string ⟨#[102, 36, 36]⟩, .string ⟨#[58]⟩, .string ⟨#[124]⟩, .string ⟨#[124, 124]⟩, .string ⟨#[36, 103]⟩, .string ⟨#[104, 36, 58, 105]⟩] 9)) (.string ⟨#[104, 36, 58, 105]⟩) 9
        rw [World.size_alloc] at hc1
        have HC1 := Lib.hid hc1
        clear hc1 hk
        go_wp2_with (at_builtin; refine wpList_append_str rfl (.tmp 34) (.tmp 36) rfl w.heap.size u5 K.length K rfl HOWN.out ⟨wr.heap.size + 1, 0, none⟩ 1 [104, 36, 58, 105] rfl HC1.out hpn HBW.out.size ?_; intro a6 c6 w6 hown6 hb6)
        have HT2 := Lib.hid (show Want w w6 (.slice a6 (K.length + 1) c6) (K ++ [[104, 36, 58, 105]]) from ⟨by rw [List.length_append]; exact hown6, HBW.out.trans hb6⟩)
        clear hown6 hb6
        go_roundw
        case rel => exact ⟨j + 1, by go_num, by omega, by rw [HTX.out], by rw [HBX.out], Lib.hid (by rw [HWX.out]; exact HT2.out)⟩
        case measure => simp [intOf]; omega
    · obtain rfl : j = n := by omega
      have htk : M.take j = M := List.take_of_length_le (by rw [HML.out]; omega)
      rw [htk] at HT ⊢
      have hTl := plB_le M
      have hBl := body_le true M
      rw [HML.out] at hTl hBl
      have hhl : (M.map wd).length = j := by rw [List.length_map, HML.out]
      obtain ⟨T, hT⟩ : ∃ T, plB M = T := ⟨_, rfl⟩
      obtain ⟨B, hB⟩ : ∃ B, [32, 32, 32] ++ body true M = B := ⟨_, rfl⟩
      have hpl : pl M = T ++ [122] := by rw [← hT]; rfl
      have hwi : wide true M = ([10, 35, 32, 120, 36, 10, 32, 32, 10] ++ B) ++ [122, 32, 32, 10, 10, 35] := by rw [← hB]; rfl
      have hBl2 : B.length ≤ 3 + 12 * j := by rw [← hB, List.length_append]; simp; omega
      rw [hT] at hTl
      rw [hT, hB]
      have q1 := lines_c (pl M) (by rw [hpl]; simp; omega) (fun r hr => by
        rw [rows_last (pl_no M)] at hr
        rw [List.mem_singleton.1 hr]
        exact pl_ok M) wr
      rw [rows_last (pl_no M), show [pl M].length = 1 from rfl, lines_pl, hpl] at q1
      obtain ⟨first, rest, tt, hrw, hrok, hcb, hhd, hea, htr⟩ := rows_wide true M
      have q2 := lines_c (wide true M) (by rw [hwi]; simp; omega) (fun r hr => by
        rw [hrw] at hr
        rcases List.mem_cons.1 hr with rfl | hr
        · rfl
        rcases List.mem_cons.1 hr with rfl | hr
        · rfl
        rcases List.mem_cons.1 hr with rfl | hr
        · rfl
        exact hrok r hr)
      simp only [hrw] at q2
      rw [lines_wide (by simp) hcb hhd hea, htr, hwi] at q2
      have hwp := words_pl M
      have hww := words_wi M
      have hwil : (wi M).length ≤ 100000 := by
        have h1 := body_le false M
        rw [← body_wi M, List.length_append]
        rw [HML.out] at h1
        simp
        omega
      have hwc := fun W => words_c (pl M) (by rw [hpl]; simp; omega) W
      have hwc2 := fun W => words_c (wi M) hwil W
      rw [hwp, hpl] at hwc
      rw [hww] at hwc2
      have haw := awake_c
      have hzT := mk_size T
      have hzB := mk_size B
      have hc1 : mk T ++ (⟨#[122]⟩ : ByteArray) = mk (T ++ [122]) := mk_append _ _
      have hc2 : (⟨#[10, 35, 32, 120, 36, 10, 32, 32, 10]⟩ : ByteArray) ++ mk B = mk ([10, 35, 32, 120, 36, 10, 32, 32, 10] ++ B) := mk_append _ _
      have hc3 : mk ([10, 35, 32, 120, 36, 10, 32, 32, 10] ++ B) ++ (⟨#[122, 32, 32, 10, 10, 35]⟩ : ByteArray) = mk (([10, 35, 32, 120, 36, 10, 32, 32, 10] ++ B) ++ [122, 32, 32, 10, 10, 35]) := mk_append _ _
      have hz2 : (mk ([10, 35, 32, 120, 36, 10, 32, 32, 10] ++ B)).size = B.length + 9 := by rw [mk_size, List.length_append]; simp; omega
      obtain ⟨D, hD⟩ : ∃ D, [10, 35, 32, 120, 36, 10, 32, 32, 10] ++ B = D := ⟨_, rfl⟩
      obtain ⟨E, hE⟩ : ∃ E, D ++ [122, 32, 32, 10, 10, 35] = E := ⟨_, rfl⟩
      obtain ⟨F, hF⟩ : ∃ F, T ++ [122] = F := ⟨_, rfl⟩
      rw [hD] at hc2 hc3 hz2 q2
      rw [hE] at hc3 q2
      rw [hF] at hc1 q1
      simp only [hF] at hwc
      have HHL := Lib.hid hhl
      have HQ2 := Lib.hid q2
      have HWC := Lib.hid hwc
      have HWC2 := Lib.hid hwc2
      clear htk hhl hT hB hpl hwi hrw hrok hcb hhd hea htr hwp hww hwil q2 hwc hwc2 hD hE hF
      obtain ⟨K, hK⟩ : ∃ K, M.map wd = K := ⟨_, rfl⟩
      rw [hK] at HT HHL HWC HWC2
      clear hK
      go_wp2_with fail
      refine q1.mono ?_
      rintro e w2 ⟨xv, rfl, hx⟩
      have HX := Lib.hid hx
      clear q1 hx
      have hq2 := HQ2.out w2
      go_wp2_with fail
      refine hq2.mono ?_
      rintro e w3 ⟨yv, rfl, hyv⟩
      have HY := Lib.hid hyv
      clear hq2 hyv
      obtain ⟨xa, xc, rfl⟩ := owns_len0 HX.out.1
      obtain ⟨ya, yc, rfl⟩ := owns_len0 HY.out.1
      obtain ⟨gx, ex, hbx, hgx, hcx⟩ := owns_at2 HX.out.1 (by simp)
      obtain ⟨gy, ey, hby, hgy, hcy⟩ := owns_at2 HY.out.1 (by simp)
      subst ex
      subst ey
      have hsz := HX.out.2.size
      have hsz2 := HY.out.2.size
      have hpn : K.length ≤ 1000000 := by rw [HHL.out]; omega
      have BZ := Lib.hid ((HX.out.2.trans (HY.out.2.mono HX.out.2.size)).alloc (Nat.le_trans hsz hsz2) (.cells #[.string ⟨#[122]⟩] 9))
      have HOWZ0 := HT.out.1
      have HOWZ := Lib.hid (owns_below HOWZ0 BZ.out)
      have HCZ := Lib.hid (cell_one_new w3 (.string ⟨#[122]⟩) 9)
      have hb0 := Lib.hid (HT.out.2.trans (BZ.out.mono HT.out.2.size))
      have hA := below_alloc w3 (.cells #[.string ⟨#[122]⟩] 9)
      have hox : some gx ≠ u5.ownBlock := owns_own HOWZ0 hbx
      have hoy : some gy ≠ u5.ownBlock := owns_own HOWZ0 (Nat.le_trans hsz hby)
      have HCELLS := Lib.hid (show ∀ W', (w3.alloc (.cells #[.string ⟨#[122]⟩] 9)).grownBy W' u5.ownBlock → W'.cell? ⟨gx, 0, none⟩ = some (.bool false) ∧ W'.cell? ⟨gx, 1, none⟩ = some (.string (mk F)) ∧ W'.cell? ⟨gy, 0, none⟩ = some (.bool true) ∧ W'.cell? ⟨gy, 1, none⟩ = some (.string (mk (wi M))) ∧ W'.cell? ⟨gy, 2, none⟩ = some (.int .i64 4) from fun W' hg => by
        have e1 : ∀ j, W'.cell? ⟨gx, j, none⟩ = w2.cell? ⟨gx, j, none⟩ := fun j => (World.cell?_of_block (hg.block gx (Nat.lt_of_lt_of_le hgx (Nat.le_trans hsz2 hA.size)) hox)).trans ((hA.cell (p := ⟨gx, j, none⟩) (Nat.lt_of_lt_of_le hgx hsz2)).trans (HY.out.2.cell (p := ⟨gx, j, none⟩) hgx))
        have e2 : ∀ j, W'.cell? ⟨gy, j, none⟩ = w3.cell? ⟨gy, j, none⟩ := fun j => (World.cell?_of_block (hg.block gy (Nat.lt_of_lt_of_le hgy hA.size) hoy)).trans (hA.cell (p := ⟨gy, j, none⟩) hgy)
        exact ⟨(e1 0).trans (hcx 0 _ rfl), (e1 1).trans (hcx 1 _ rfl), (e2 0).trans (hcy 0 _ rfl), (e2 1).trans (hcy 1 _ rfl), (e2 2).trans (hcy 2 _ rfl)⟩)
      clear hcx hcy hox hoy hA HOWZ0 hbx hby hgx hgy
      rw [show [(⟨false, F, 1⟩ : Ln)].length = 1 from rfl, show [(⟨true, wi M, 4⟩ : Ln)].length = 1 from rfl]
      go_wp2_with (at_builtin; refine wpList_append_strG rfl (.tmp 83) (.tmp 84) rfl w.heap.size u5 (K.length) K rfl HOWZ.out ⟨w3.heap.size, 0, none⟩ 1 [122] rfl HCZ.out hpn hb0.out.size ?_; intro a6 c6 w6 hown6 hb6 hg6; obtain ⟨x0, x1, y0, y1, y2⟩ := HCELLS.out w6 hg6)
      have HOW6 := Lib.hid (owns_strs hown6)
      have HB6 := Lib.hid (hb0.out.trans hb6)
      clear hown6 hb6 hg6
      refine (HWC.out _).mono ?_
      rintro e w7 ⟨v7, rfl, hv7, hb7⟩
      have lx := World.block_lt_of_cell? _ _ x0
      have ly := World.block_lt_of_cell? _ _ y0
      have Z0 := Lib.hid (show ∀ q, (w7.drewN q).cell? ⟨gx, 0, none⟩ = some (.bool false) from fun q => (World.cell?_drewN ..).trans ((hb7.cell (p := ⟨gx, 0, none⟩) lx).trans x0))
      have Z2 := Lib.hid (show ∀ q, (w7.drewN q).cell? ⟨gy, 0, none⟩ = some (.bool true) from fun q => (World.cell?_drewN ..).trans ((hb7.cell (p := ⟨gy, 0, none⟩) ly).trans y0))
      have Z3 := Lib.hid (show ∀ q, (w7.drewN q).cell? ⟨gy, 1, none⟩ = some (.string (mk (wi M))) from fun q => (World.cell?_drewN ..).trans ((hb7.cell (p := ⟨gy, 1, none⟩) ly).trans y1))
      have Z4 := Lib.hid (show ∀ q, (w7.drewN q).cell? ⟨gy, 2, none⟩ = some (.int .i64 4) from fun q => (World.cell?_drewN ..).trans ((hb7.cell (p := ⟨gy, 2, none⟩) ly).trans y2))
      have hll : (K ++ [[122]]).length ≤ 1000000 := by rw [List.length_append, HHL.out]; simp; omega
      have hs7 := same_c hv7 (HOW6.out.below hb7) hll
      have HOW7 := Lib.hid (HOW6.out.below hb7)
      have HB7 := Lib.hid (HB6.out.trans (hb7.mono HB6.out.size))
      clear hv7 hb7 x0 x1 y0 y1 y2 lx ly
      go_wp2_with fail
      refine hs7.mono ?_
      rintro e w8 ⟨rfl, q1, rfl⟩
      have z3 := Z3.out q1
      have HB8 := Lib.hid (below_drewN HB7.out q1)
      clear hs7
      go_wp2_with fail
      refine (HWC2.out _).mono ?_
      rintro e w9 ⟨v9, rfl, hv9, hb9⟩
      have lx := World.block_lt_of_cell? _ _ (Z0.out q1)
      have ly := World.block_lt_of_cell? _ _ (Z2.out q1)
      have Y0 := Lib.hid (show ∀ q, (w9.drewN q).cell? ⟨gx, 0, none⟩ = some (.bool false) from fun q => (World.cell?_drewN ..).trans ((hb9.cell (p := ⟨gx, 0, none⟩) lx).trans (Z0.out q1)))
      have Y2 := Lib.hid (show ∀ q, (w9.drewN q).cell? ⟨gy, 0, none⟩ = some (.bool true) from fun q => (World.cell?_drewN ..).trans ((hb9.cell (p := ⟨gy, 0, none⟩) ly).trans (Z2.out q1)))
      have Y4 := Lib.hid (show ∀ q, (w9.drewN q).cell? ⟨gy, 2, none⟩ = some (.int .i64 4) from fun q => (World.cell?_drewN ..).trans ((hb9.cell (p := ⟨gy, 2, none⟩) ly).trans (Z4.out q1)))
      have hs9 := same_c hv9 (Strs.below (Strs.drewN HOW7.out q1) hb9) hll
      have HB9 := Lib.hid (HB8.out.trans (hb9.mono HB8.out.size))
      clear hv9 hb9 z3 lx ly
      go_wp2_with fail
      refine hs9.mono ?_
      rintro e w10 ⟨rfl, q2, rfl⟩
      have k0 := Y0.out q2
      have k2 := Y2.out q2
      have k4 := Y4.out q2
      have HB10 := Lib.hid (below_drewN HB9.out q2)
      clear hs9
      go_wp2_with fail
      refine (haw _).mono ?_
      rintro e w11 ⟨rfl, hb11⟩
      go_wp2_with fail
      go_ret
      exact ⟨rfl, HB10.out.trans (hb11.mono HB10.out.size)⟩

end Go.Proofs.YtbohnjiachnadaaDoor.Lx
