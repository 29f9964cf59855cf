/-
  The law LexNumbers, walked.
-/
import Derived.Test.YtbohnjiachnadaaDoorLdNum
namespace Go.Proofs.YtbohnjiachnadaaDoor.Lx
open Go.RowKit

/-- a slice of bytes, as it is read -/
def BRow (w : World) (v : Value) (l : List Nat) : Prop :=
  ∃ a c, v = .slice a l.length c ∧ (l = [] ∨ ∃ g off, a = some ⟨g, off, none⟩ ∧ g < w.heap.size ∧ ∀ (j : Nat) p, l[j]? = some p → p < 256 ∧ w.cell? ⟨g, off + j, none⟩ = some (.int .u8 (p : Int)))

def intV (xs : List Nat) : List Value := xs.map fun (n : Nat) => Value.int .i64 (n : Int)
def Ints (w W : World) (v : Value) (xs : List Nat) : Prop := W.ownsRow w.heap.size 3 1 v xs.length (intV xs) ∧ Below w.heap.size w W

theorem owns_len0 {w : World} {base : Nat} {e : TypeId} {size : Nat} {v : Value} {n : Nat} {xs : List Value} (h : w.ownsRow base e size v n xs) : ∃ a c, v = .slice a n c := by
  rcases h.2 with ⟨rfl, rfl⟩ | ⟨g, cap, cur, rfl, _⟩
  · exact ⟨_, _, rfl⟩
  · exact ⟨_, _, rfl⟩
theorem owns_at {w : World} {base : Nat} {e : TypeId} {size : Nat} {a : Option Addr} {n c : Nat} {xs : List Value} (h : w.ownsRow base e size (.slice a n c) n xs) (hn : n ≠ 0) :
    ∃ g, a = some ⟨g, 0, none⟩ ∧ g < w.heap.size ∧ ∀ (j : Nat) u, xs[j]? = some u → w.cell? ⟨g, j, none⟩ = some u := by
  rcases h.2 with ⟨_, h0⟩ | ⟨g, cap, cur, e1, _, hg, _, _, _, htk⟩
  · exact absurd h0 hn
  · obtain ⟨e2, _, _⟩ := Value.slice.inj e1
    refine ⟨g, e2, (Array.getElem?_eq_some_iff.1 hg).1, fun j u hj => ?_⟩
    rw [← htk, List.getElem?_take] at hj
    split at hj
    · simp only [World.cell?, hg]
      simpa using hj
    · cases hj
theorem nums_le : ∀ (ks : List Nat) (c : Nat), (nums c ks).length ≤ ks.length
  | [], _ => Nat.le_refl _
  | k :: ks, c => by
    have := nums_le ks (c + (pRows k).length)
    show ((if 2 ≤ k then [c + 1] else []) ++ nums (c + (pRows k).length) ks).length ≤ _
    rw [List.length_append, List.length_cons]
    split <;> simp <;> omega

theorem infoI : (Tryd.prog.info? 3).map (fun i => (i.zero, i.size, i.bytes)) = some (some (.int .i64 0), 1, 8) := by kernel_rfl

theorem wpList_append_int {w : World} {ops : Array Oper} {rest : List Oper} {o : Oper} {a : Act} {Q : Exit → Act → World → Prop} (hgd : o.guard = none) (s x : Operand)
    (ho : o.op = .call { callee := .builtin .append, args := #[s, x], argTypes := #[37, 37] })
    (base : Nat) (v : Value) (xs : List Nat) (hs : a.eval s = v) (hown : w.ownsRow base 3 1 v xs.length (intV xs))
    (ad : Addr) (c : Nat) (p : Nat) (hx : a.eval x = .slice (some ad) 1 c) (hnews : w.cell? ad = some (.int .i64 (p : Int))) (hpl : ∃ b o, ad = ⟨b, o, none⟩)
    (hn : xs.length ≤ 1000000) (hbase : base ≤ w.heap.size)
    (h : ∀ v' w', w'.ownsRow base 3 1 v' (xs ++ [p]).length (intV (xs ++ [p])) → Below base w w' → wpList Tryd.prog ops Q rest (a.put o.dst v') w') : wpList Tryd.prog ops Q (o :: rest) a w := by
  obtain ⟨i0, hi, hz0, hz1, hz2⟩ := info_parts infoI
  refine wpList_append_own w hgd s x 37 ho base 3 i0 (.int .i64 0) 1 8 Tryd.underlying37 hi hz0 hz1 hz2 rfl (by decide) v xs.length (intV xs) hs hown ad 1 c [.int .i64 (p : Int)] hx rfl (fun j u hj => ?_) (by simp [Value.oneCell']) (by unfold maxLen; omega) (by omega) hbase ?_
  · cases j with
    | zero =>
      cases hj
      obtain ⟨b, o, rfl⟩ := hpl
      rw [Go.WideShapes.add_plain]
      exact hnews
    | succ j => cases hj
  · intro v' w' h1 h2 _
    have h3 : w'.ownsRow base 3 1 v' (xs ++ [p]).length (intV (xs ++ [p])) := by
      rw [List.length_append]
      unfold intV
      rw [List.map_append]
      exact h1
    exact h v' w' h3 ((Below.refl _ _).grown h2 hbase fun k hk => (hown.lt k hk).1)

set_option maxRecDepth 100000 in
set_option maxHeartbeats 8000000 in
theorem lexNumbers_w {w : World} {v : Value} {l : List Nat} (h : BRow w v l) :
    Calls Tryd.prog 5 #[v] w fun e w' => e = .returned (.bool true) ∧ Below w.heap.size w w' := by
  obtain ⟨a, c, rfl, hrow⟩ := h
  by_cases hl : 50 < l.length
  · have hli : (50 : Int) < (l.length : Int) := by omega
    generalize l.length = n at *
    clear hrow
    go_enter Tryd.func5, Tryd.ntmps5
    go_wp2
    go_ret
    exact ⟨rfl, Below.refl _ _⟩
  obtain ⟨n, hn⟩ : ∃ n, l.length = n := ⟨_, rfl⟩
  rw [hn] at hl ⊢
  have hli : ¬ (50 : Int) < (n : Int) := by omega
  have HN := Lib.hid hn
  have HROW := Lib.hid hrow
  clear hn hrow
  obtain ⟨M, hM⟩ : ∃ M, l.map (· % 5) = M := ⟨_, rfl⟩
  have HM := Lib.hid hM
  have HML := Lib.hid (show M.length = n by rw [← hM, List.length_map, HN.out])
  clear hM
  go_enter Tryd.func5, Tryd.ntmps5
  go_wp2_with fail
  go_loopw [3, 4, 5, 6, 7] (fun tx at' nv i _ W' => ∃ j nn : Nat, i = .int .i64 j ∧ j ≤ n ∧ tx = .string (mk (txt (M.take j))) ∧ nv = .int .i64 nn ∧ nn ≤ 1 + 2 * j ∧ Hid ((rowsT (M.take j)).length + 1 = nn) ∧ Hid (Ints w W' at' (nums 0 (M.take j)))) (fun _ _ _ i _ _ => n - (intOf i).toNat)
  case atStart => exact ⟨0, 1, rfl, Nat.zero_le _, rfl, rfl, by omega, Lib.hid rfl, Lib.hid ⟨World.ownsRow_nil _ _ _ _, Below.refl _ _⟩⟩
  case round =>
    obtain ⟨j, nn, rfl, hj, rfl, rfl, hnn, HNN, HT⟩ := hrel
    by_cases hlt : j < n
    · obtain ⟨p, hp⟩ : ∃ p, l[j]? = some p := ⟨_, List.getElem?_eq_getElem (by rw [HN.out]; exact hlt)⟩
      have hne : l ≠ [] := by rintro rfl; cases hp
      obtain ⟨g, off, rfl, hgl, hcell⟩ := HROW.out.resolve_left hne
      have c0 : wr.cell? ⟨g, off + j, none⟩ = some (.int .u8 (p : Int)) := (HT.out.2.cell hgl).trans (hcell j p hp).2
      have hp256 := (hcell j p hp).1
      obtain ⟨k, hk⟩ : ∃ k, p % 5 = k := ⟨_, rfl⟩
      have hMk : M.take (j + 1) = M.take j ++ [k] := by
        rw [List.take_add_one, ← HM.out, List.getElem?_map, hp]
        simp [hk]
      have HMK := Lib.hid hMk
      have hk5 : k < 5 := by omega
      have hTl := txt_le (M.take j)
      have hTj : (M.take j).length ≤ j := by rw [List.length_take]; omega
      obtain ⟨P, hP⟩ : ∃ P, M.take j = P := ⟨_, rfl⟩
      have HP := Lib.hid hP
      rw [hP] at hTl hTj HNN HT ⊢
      obtain ⟨T, hT⟩ : ∃ T, txt P = T := ⟨_, rfl⟩
      have HTT := Lib.hid hT
      rw [hT] at hTl
      try rw [hT]
      have hzT := mk_size T
      clear hne hcell hp hMk hP hT
      have hkc : k = 0 ∨ k = 1 ∨ k = 2 ∨ k = 3 ∨ k = 4 := by omega
      rcases hkc with rfl | rfl | rfl | rfl | rfl
      · have hki2 : (p : Int) % 5 = 0 := by omega
        have hcat : mk T ++ (⟨#[10]⟩ : ByteArray) = mk (T ++ [10]) := mk_append _ [10]
        have hwn : IntKind.i64.wrap ((nn : Int) + 1) = (nn : Int) + 1 := IntWalk.i64_in _ (by omega)
        have hwn2 : IntKind.i64.wrap ((nn : Int) + 1 + 1) = (nn : Int) + 1 + 1 := IntWalk.i64_in _ (by omega)
        have HTX := Lib.hid (show txt (M.take (j + 1)) = T ++ [10] by rw [HMK.out, HP.out, txt_snoc, HTT.out]; rfl)
        have HNX := Lib.hid (show (rowsT (M.take (j + 1))).length + 1 = nn + 1 by
          have h1 := HNN.out
          rw [HMK.out, HP.out, rowsT_snoc, List.length_append, show (pRows 0).length = 1 from rfl]
          omega)
        clear hk
        go_wp2_with fail
        go_roundw
        case rel => exact ⟨j + 1, nn + 1, by go_num, by omega, by rw [HTX.out], by go_num, by omega, HNX, Lib.hid (by rw [HMK.out, HP.out, nums_snoc, if_neg (by decide), List.append_nil]; exact ⟨owns_below HT.out.1 (below_alloc _ _), HT.out.2.alloc HT.out.2.size _⟩)⟩
        case measure => simp [intOf]; omega
      · have hki2 : (p : Int) % 5 = 1 := by omega
        have hcat : mk T ++ (⟨#[35, 32, 97, 10]⟩ : ByteArray) = mk (T ++ [35, 32, 97, 10]) := mk_append _ [35, 32, 97, 10]
        have hwn : IntKind.i64.wrap ((nn : Int) + 1) = (nn : Int) + 1 := IntWalk.i64_in _ (by omega)
        have hwn2 : IntKind.i64.wrap ((nn : Int) + 1 + 1) = (nn : Int) + 1 + 1 := IntWalk.i64_in _ (by omega)
        have HTX := Lib.hid (show txt (M.take (j + 1)) = T ++ [35, 32, 97, 10] by rw [HMK.out, HP.out, txt_snoc, HTT.out]; rfl)
        have HNX := Lib.hid (show (rowsT (M.take (j + 1))).length + 1 = nn + 1 by
          have h1 := HNN.out
          rw [HMK.out, HP.out, rowsT_snoc, List.length_append, show (pRows 1).length = 1 from rfl]
          omega)
        clear hk
        go_wp2_with fail
        go_roundw
        case rel => exact ⟨j + 1, nn + 1, by go_num, by omega, by rw [HTX.out], by go_num, by omega, HNX, Lib.hid (by rw [HMK.out, HP.out, nums_snoc, if_neg (by decide), List.append_nil]; exact ⟨owns_below HT.out.1 (below_alloc _ _), HT.out.2.alloc HT.out.2.size _⟩)⟩
        case measure => simp [intOf]; omega
      · have hki2 : (p : Int) % 5 = 2 := by omega
        have hcat : mk T ++ (⟨#[98, 10]⟩ : ByteArray) = mk (T ++ [98, 10]) := mk_append _ [98, 10]
        have hwn : IntKind.i64.wrap ((nn : Int) + 1) = (nn : Int) + 1 := IntWalk.i64_in _ (by omega)
        have hwn2 : IntKind.i64.wrap ((nn : Int) + 1 + 1) = (nn : Int) + 1 + 1 := IntWalk.i64_in _ (by omega)
        have HTX := Lib.hid (show txt (M.take (j + 1)) = T ++ [98, 10] by rw [HMK.out, HP.out, txt_snoc, HTT.out]; rfl)
        have HNX := Lib.hid (show (rowsT (M.take (j + 1))).length + 1 = nn + 1 by
          have h1 := HNN.out
          rw [HMK.out, HP.out, rowsT_snoc, List.length_append, show (pRows 2).length = 1 from rfl]
          omega)
        clear hk
        have HB5 := Lib.hid ((below_alloc wr (.cells #[.string ⟨#[10]⟩, .string ⟨#[35, 32, 97, 10]⟩, .string ⟨#[98, 10]⟩, .string ⟨#[32, 99, 32, 100, 10]⟩, .string ⟨#[101, 32, 36, 10, 32, 102, 10]⟩] 9)).alloc (below_alloc wr (.cells #[.string ⟨#[10]⟩, .string ⟨#[35, 32, 97, 10]⟩, .string ⟨#[98, 10]⟩, .string ⟨#[32, 99, 32, 100, 10]⟩, .string ⟨#[101, 32, 36, 10, 32, 102, 10]⟩] 9)).size (.cells #[.int .i64 (nn : Int)] 3))
        have HOWN := Lib.hid (owns_below HT.out.1 HB5.out)
        have HBB := Lib.hid (HT.out.2.trans (HB5.out.mono HT.out.2.size))
        have hc1 : ((wr.alloc (.cells #[.string ⟨#[10]⟩, .string ⟨#[35, 32, 97, 10]⟩, .string ⟨#[98, 10]⟩, .string ⟨#[32, 99, 32, 100, 10]⟩, .string ⟨#[101, 32, 36, 10, 32, 102, 10]⟩] 9)).alloc (.cells #[.int .i64 (nn : Int)] 3)).cell? ⟨wr.heap.size + 1, 0, none⟩ = some (.int .i64 (nn : Int)) := by
          have h1 := cell_one_new (wr.alloc (.cells #[.string ⟨#[10]⟩, .string ⟨#[35, 32, 97, 10]⟩, .string ⟨#[98, 10]⟩, .string ⟨#[32, 99, 32, 100, 10]⟩, .string ⟨#[101, 32, 36, 10, 32, 102, 10]⟩] 9)) (.int .i64 (nn : Int)) 3
          rw [World.size_alloc] at h1
          have h2 := h1 0 _ rfl
          rw [Go.WideShapes.add_plain] at h2
          exact h2
        have HC1 := Lib.hid hc1
        have hxl : (nums 0 P).length ≤ 1000000 := by have := nums_le P 0; omega
        clear hc1
        go_wp2_with (at_builtin; refine wpList_append_int rfl (.tmp 41) (.tmp 43) rfl w.heap.size u4 (nums 0 P) rfl HOWN.out ⟨wr.heap.size + 1, 0, none⟩ 1 nn rfl HC1.out ⟨_, _, rfl⟩ hxl HBB.out.size ?_; intro v6 w6 hown6 hb6)
        have HT2 := Lib.hid (show Ints w w6 v6 (nums 0 P ++ [nn]) from ⟨hown6, HBB.out.trans hb6⟩)
        clear hown6 hb6
        go_roundw
        case rel => exact ⟨j + 1, nn + 1, by go_num, by omega, by rw [HTX.out], by go_num, by omega, HNX, Lib.hid (by rw [HMK.out, HP.out, nums_snoc, if_pos (by decide), Nat.zero_add, HNN.out]; exact HT2.out)⟩
        case measure => simp [intOf]; omega
      · have hki2 : (p : Int) % 5 = 3 := by omega
        have hcat : mk T ++ (⟨#[32, 99, 32, 100, 10]⟩ : ByteArray) = mk (T ++ [32, 99, 32, 100, 10]) := mk_append _ [32, 99, 32, 100, 10]
        have hwn : IntKind.i64.wrap ((nn : Int) + 1) = (nn : Int) + 1 := IntWalk.i64_in _ (by omega)
        have hwn2 : IntKind.i64.wrap ((nn : Int) + 1 + 1) = (nn : Int) + 1 + 1 := IntWalk.i64_in _ (by omega)
        have HTX := Lib.hid (show txt (M.take (j + 1)) = T ++ [32, 99, 32, 100, 10] by rw [HMK.out, HP.out, txt_snoc, HTT.out]; rfl)
        have HNX := Lib.hid (show (rowsT (M.take (j + 1))).length + 1 = nn + 1 by
          have h1 := HNN.out
          rw [HMK.out, HP.out, rowsT_snoc, List.length_append, show (pRows 3).length = 1 from rfl]
          omega)
        clear hk
        have HB5 := Lib.hid ((below_alloc wr (.cells #[.string ⟨#[10]⟩, .string ⟨#[35, 32, 97, 10]⟩, .string ⟨#[98, 10]⟩, .string ⟨#[32, 99, 32, 100, 10]⟩, .string ⟨#[101, 32, 36, 10, 32, 102, 10]⟩] 9)).alloc (below_alloc wr (.cells #[.string ⟨#[10]⟩, .string ⟨#[35, 32, 97, 10]⟩, .string ⟨#[98, 10]⟩, .string ⟨#[32, 99, 32, 100, 10]⟩, .string ⟨#[101, 32, 36, 10, 32, 102, 10]⟩] 9)).size (.cells #[.int .i64 (nn : Int)] 3))
        have HOWN := Lib.hid (owns_below HT.out.1 HB5.out)
        have HBB := Lib.hid (HT.out.2.trans (HB5.out.mono HT.out.2.size))
        have hc1 : ((wr.alloc (.cells #[.string ⟨#[10]⟩, .string ⟨#[35, 32, 97, 10]⟩, .string ⟨#[98, 10]⟩, .string ⟨#[32, 99, 32, 100, 10]⟩, .string ⟨#[101, 32, 36, 10, 32, 102, 10]⟩] 9)).alloc (.cells #[.int .i64 (nn : Int)] 3)).cell? ⟨wr.heap.size + 1, 0, none⟩ = some (.int .i64 (nn : Int)) := by
          have h1 := cell_one_new (wr.alloc (.cells #[.string ⟨#[10]⟩, .string ⟨#[35, 32, 97, 10]⟩, .string ⟨#[98, 10]⟩, .string ⟨#[32, 99, 32, 100, 10]⟩, .string ⟨#[101, 32, 36, 10, 32, 102, 10]⟩] 9)) (.int .i64 (nn : Int)) 3
          rw [World.size_alloc] at h1
          have h2 := h1 0 _ rfl
          rw [Go.WideShapes.add_plain] at h2
          exact h2
        have HC1 := Lib.hid hc1
        have hxl : (nums 0 P).length ≤ 1000000 := by have := nums_le P 0; omega
        clear hc1
        go_wp2_with (at_builtin; refine wpList_append_int rfl (.tmp 41) (.tmp 43) rfl w.heap.size u4 (nums 0 P) rfl HOWN.out ⟨wr.heap.size + 1, 0, none⟩ 1 nn rfl HC1.out ⟨_, _, rfl⟩ hxl HBB.out.size ?_; intro v6 w6 hown6 hb6)
        have HT2 := Lib.hid (show Ints w w6 v6 (nums 0 P ++ [nn]) from ⟨hown6, HBB.out.trans hb6⟩)
        clear hown6 hb6
        go_roundw
        case rel => exact ⟨j + 1, nn + 1, by go_num, by omega, by rw [HTX.out], by go_num, by omega, HNX, Lib.hid (by rw [HMK.out, HP.out, nums_snoc, if_pos (by decide), Nat.zero_add, HNN.out]; exact HT2.out)⟩
        case measure => simp [intOf]; omega
      · have hki2 : (p : Int) % 5 = 4 := by omega
        have hcat : mk T ++ (⟨#[101, 32, 36, 10, 32, 102, 10]⟩ : ByteArray) = mk (T ++ [101, 32, 36, 10, 32, 102, 10]) := mk_append _ [101, 32, 36, 10, 32, 102, 10]
        have hwn : IntKind.i64.wrap ((nn : Int) + 1) = (nn : Int) + 1 := IntWalk.i64_in _ (by omega)
        have hwn2 : IntKind.i64.wrap ((nn : Int) + 1 + 1) = (nn : Int) + 1 + 1 := IntWalk.i64_in _ (by omega)
        have HTX := Lib.hid (show txt (M.take (j + 1)) = T ++ [101, 32, 36, 10, 32, 102, 10] by rw [HMK.out, HP.out, txt_snoc, HTT.out]; rfl)
        have HNX := Lib.hid (show (rowsT (M.take (j + 1))).length + 1 = nn + 2 by
          have h1 := HNN.out
          rw [HMK.out, HP.out, rowsT_snoc, List.length_append, show (pRows 4).length = 2 from rfl]
          omega)
        clear hk
        have HB5 := Lib.hid ((below_alloc wr (.cells #[.string ⟨#[10]⟩, .string ⟨#[35, 32, 97, 10]⟩, .string ⟨#[98, 10]⟩, .string ⟨#[32, 99, 32, 100, 10]⟩, .string ⟨#[101, 32, 36, 10, 32, 102, 10]⟩] 9)).alloc (below_alloc wr (.cells #[.string ⟨#[10]⟩, .string ⟨#[35, 32, 97, 10]⟩, .string ⟨#[98, 10]⟩, .string ⟨#[32, 99, 32, 100, 10]⟩, .string ⟨#[101, 32, 36, 10, 32, 102, 10]⟩] 9)).size (.cells #[.int .i64 (nn : Int)] 3))
        have HOWN := Lib.hid (owns_below HT.out.1 HB5.out)
        have HBB := Lib.hid (HT.out.2.trans (HB5.out.mono HT.out.2.size))
        have hc1 : ((wr.alloc (.cells #[.string ⟨#[10]⟩, .string ⟨#[35, 32, 97, 10]⟩, .string ⟨#[98, 10]⟩, .string ⟨#[32, 99, 32, 100, 10]⟩, .string ⟨#[101, 32, 36, 10, 32, 102, 10]⟩] 9)).alloc (.cells #[.int .i64 (nn : Int)] 3)).cell? ⟨wr.heap.size + 1, 0, none⟩ = some (.int .i64 (nn : Int)) := by
          have h1 := cell_one_new (wr.alloc (.cells #[.string ⟨#[10]⟩, .string ⟨#[35, 32, 97, 10]⟩, .string ⟨#[98, 10]⟩, .string ⟨#[32, 99, 32, 100, 10]⟩, .string ⟨#[101, 32, 36, 10, 32, 102, 10]⟩] 9)) (.int .i64 (nn : Int)) 3
          rw [World.size_alloc] at h1
          have h2 := h1 0 _ rfl
          rw [Go.WideShapes.add_plain] at h2
          exact h2
        have HC1 := Lib.hid hc1
        have hxl : (nums 0 P).length ≤ 1000000 := by have := nums_le P 0; omega
        clear hc1
        go_wp2_with (at_builtin; refine wpList_append_int rfl (.tmp 41) (.tmp 43) rfl w.heap.size u4 (nums 0 P) rfl HOWN.out ⟨wr.heap.size + 1, 0, none⟩ 1 nn rfl HC1.out ⟨_, _, rfl⟩ hxl HBB.out.size ?_; intro v6 w6 hown6 hb6)
        have HT2 := Lib.hid (show Ints w w6 v6 (nums 0 P ++ [nn]) from ⟨hown6, HBB.out.trans hb6⟩)
        clear hown6 hb6
        go_roundw
        case rel => exact ⟨j + 1, nn + 2, by go_num, by omega, by rw [HTX.out], by go_num, by omega, HNX, Lib.hid (by rw [HMK.out, HP.out, nums_snoc, if_pos (by decide), Nat.zero_add, HNN.out]; exact HT2.out)⟩
        case measure => simp [intOf]; omega
    · obtain rfl : j = n := by omega
      have htk : M.take j = M := List.take_of_length_le (by rw [HML.out]; omega)
      rw [htk] at HNN HT ⊢
      have hTl := txt_le M
      rw [HML.out] at hTl
      obtain ⟨Ls, hL1, hL2⟩ := lines_whole M
      have ho := lines_open M
      obtain ⟨T, hT⟩ : ∃ T, txt M = T := ⟨_, rfl⟩
      have r1 : rowsOf T = rowsT M ++ [[]] := by
        have := rows_txt M []
        rw [List.append_nil, hT] at this
        exact this
      have r2 : rowsOf (T ++ [103, 32, 36]) = rowsT M ++ [[103, 32, 36]] := by rw [← hT, rows_txt, rows_last (by decide)]
      have r3 : rowsOf (T ++ [9]) = rowsT M ++ [[9]] := by rw [← hT, rows_txt, rows_last (by decide)]
      rw [hT] at hTl
      rw [hT]
      have q1 := lines_c T (by omega) (fun r hr => by
        rw [r1] at hr
        rcases List.mem_append.1 hr with h | h
        · exact ok_rows M r h
        · rw [List.mem_singleton.1 h]; rfl) wr
      have q2 := lines_c (T ++ [103, 32, 36]) (by simp; omega) (fun r hr => by
        rw [r2] at hr
        rcases List.mem_append.1 hr with h | h
        · exact ok_rows M r h
        · rw [List.mem_singleton.1 h]; rfl)
      have q3 := lines_tab (T ++ [9]) (by simp; omega) r3 (ok_rows M)
      have l1 : (rowsOf T).length = nn := by rw [r1, List.length_append]; exact HNN.out
      have l2 : (rowsOf (T ++ [103, 32, 36])).length = nn := by rw [r2, List.length_append]; exact HNN.out
      have l3 : ((rowsT M).length : Int) + 1 = (nn : Int) := by have := HNN.out; omega
      rw [l1, r1] at q1
      rw [HNN.out] at hL2 ho
      rw [hL2] at q1
      simp only [l2] at q2
      rw [r2, ho] at q2
      rw [l3] at q3
      have HQ2 := Lib.hid q2
      have HQ3 := Lib.hid q3
      have HL1 := Lib.hid hL1
      have hc2 : mk T ++ (⟨#[103, 32, 36]⟩ : ByteArray) = mk (T ++ [103, 32, 36]) := mk_append _ _
      have hc3 : mk T ++ (⟨#[9]⟩ : ByteArray) = mk (T ++ [9]) := mk_append _ _
      have haw := awake_c
      have hzT := mk_size T
      have hzc1 : ¬ 9223372036854775807 < (mk T).size + 3 := by omega
      have hzc2 : ¬ 9223372036854775807 < (mk T).size + 1 := by omega
      obtain ⟨ata, atc, rfl⟩ := owns_len0 HT.out.1
      have hlen : (nums 0 M).length = Ls.length := by rw [← hL1, List.length_map]
      obtain ⟨m, hm⟩ : ∃ m, Ls.length = m := ⟨_, rfl⟩
      have hml : m ≤ 1000000 := by have := nums_le M 0; rw [hlen, hm, HML.out] at this; omega
      have HHM := Lib.hid hm
      have HHL := Lib.hid hlen
      have HAT := Lib.hid HT.out
      clear HT
      rw [hlen, hm]
      clear htk hL1 hL2 ho hT r1 r2 r3 l1 l2 l3 q2 q3 hlen hm
      go_wp2_with fail
      refine q1.mono ?_
      rintro e w2 ⟨xv, rfl, hx⟩
      have HX := Lib.hid hx
      clear q1 hx
      obtain ⟨xa, xc, rfl⟩ := owns_len0 HX.out.1
      rw [HHM.out]
      go_wp2_with fail
      go_loopw [11] (fun i W' => ∃ i1 k : Nat, i = .int .i64 i1 ∧ i1 ≤ m ∧ w2.drewN k = W') (fun i _ => m - (intOf i).toNat)
      case atStart => exact ⟨0, 0, rfl, Nat.zero_le _, rfl⟩
      case round =>
        obtain ⟨i1, k, rfl, hi1, rfl⟩ := hrel
        by_cases hlt1 : i1 < m
        · obtain ⟨x, hx⟩ : ∃ x, Ls[i1]? = some x := ⟨_, List.getElem?_eq_getElem (by rw [HHM.out]; exact hlt1)⟩
          have hm0 : m ≠ 0 := by omega
          have h3 : (nums 0 M)[i1]? = some x.num := by rw [← HL1.out, List.getElem?_map, hx]; rfl
          have hxo := HX.out.1
          rw [HHM.out] at hxo
          have hao := HAT.out.1
          rw [HHL.out, HHM.out] at hao
          obtain ⟨gx, ex, hgx, hcx⟩ := owns_at hxo hm0
          obtain ⟨ga, ea, hga, hca⟩ := owns_at hao hm0
          have d1 := hcx (i1 * 3 + 2) _ (lnsV_at Ls i1 x hx)
          have d2 := (HX.out.2.cell (p := ⟨ga, i1, none⟩) hga).trans (hca i1 (.int .i64 (x.num : Int)) (by unfold intV; rw [List.getElem?_map, h3]; rfl))
          have d1' : ∀ q, (w2.drewN q).cell? ⟨gx, i1 * 3 + 2, none⟩ = some (.int .i64 (x.num : Int)) := fun q => by rw [← d1]; exact World.cell?_drewN ..
          have d2' : ∀ q, (w2.drewN q).cell? ⟨ga, i1, none⟩ = some (.int .i64 (x.num : Int)) := fun q => by rw [← d2]; exact World.cell?_drewN ..
          have hi1i : (i1 : Int) < (m : Int) := by omega
          subst ex
          subst ea
          generalize x.num = z at *
          clear hxo hao hcx hca hx h3 d1 d2 hm0
          go_wp2_with fail
          go_quiet (fail)
          go_wp2
          go_roundw
          case rel => exact ⟨i1 + 1, _, by go_num, by omega, rfl⟩
          case measure => simp [intOf]; omega
        · obtain rfl : i1 = m := by omega
          have B2 := Lib.hid (HAT.out.2.trans (HX.out.2.mono HAT.out.2.size))
          have hq2 := HQ2.out (w2.drewN k)
          go_wp2_with fail
          refine hq2.mono ?_
          rintro e w3 ⟨rfl, hb3⟩
          have B3 := Lib.hid ((below_drewN B2.out k).trans (hb3.mono (below_drewN B2.out k).size))
          have hq3 := HQ3.out w3
          clear hq2 hb3
          go_wp2_with fail
          refine hq3.mono ?_
          rintro e w4 ⟨rfl, hb4⟩
          have B4 := Lib.hid (B3.out.trans (hb4.mono B3.out.size))
          clear hq3 hb4
          go_wp2_with fail
          refine (haw _).mono ?_
          rintro e w5 ⟨rfl, hb5⟩
          go_wp2_with fail
          go_ret
          exact ⟨rfl, B4.out.trans (hb5.mono B4.out.size)⟩
end Go.Proofs.YtbohnjiachnadaaDoor.Lx
