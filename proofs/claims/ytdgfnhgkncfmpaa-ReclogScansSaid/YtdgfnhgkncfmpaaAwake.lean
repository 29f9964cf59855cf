/-
  WHAT THE CHAPTER's EXAMPLES SAY.
-/
import Derived.Test.YtdgfnhgkncfmpaaOks
namespace Go.Proofs.Ytdgfnhgkncfmpaa
open Go.RowKit Go.Maps

def dA (i : Nat) : Ds := written (spent (newD 100)) [102] [97] i
def dB (i : Nat) : Ds := appended (spent (dA i)) i [98]
def dC (i : Nat) : Ds := synced (spent (dB i)) i

theorem dA_now (i : Nat) (x : List UInt8) : (dA i).now x = if x = [102] then some i else none := by
  show turn1 (fun _ => none) ⟨[], [102], some i⟩ x = _
  rw [turn1_file rfl]
  by_cases h : x = [102]
  · rw [h, upd_same, if_pos rfl]
  · rw [upd_other _ _ h, if_neg h]
    by_cases h2 : x = []
    · rw [h2]; exact upd_same _ _ _
    · exact upd_other _ _ h2
theorem dA_file (i : Nat) : (dA i).files i = ⟨[97], 0, 1⟩ := upd_same _ _ _
theorem dB_file (i : Nat) : (dB i).files i = ⟨[97, 98], 0, 2⟩ := by
  show upd (spent (dA i)).files i ⟨((dA i).files i).bytes ++ [98], ((dA i).files i).sure, (dA i).clock⟩ i = _
  rw [upd_same, dA_file]
  rfl
theorem dC_file (i : Nat) : (dC i).files i = ⟨[97, 98], 2, 2⟩ := by
  show upd (spent (dB i)).files i ⟨((dB i).files i).bytes, ((dB i).files i).bytes.length, ((dB i).files i).time⟩ i = _
  rw [upd_same, dB_file]
  rfl
theorem all_one {d : Ds} {i M : Nat} {l : List UInt8} (h : ∀ x, d.now x = if x = l then some i else none) (hl : (d.files i).bytes.length ≤ M) : ∀ x j, d.now x = some j → (d.files j).bytes.length ≤ M := by
  intro x j hj
  rw [h] at hj
  split at hj
  · cases hj; exact hl
  · cases hj

theorem dC_back0 (i : Nat) (x : List UInt8) : (back (dC i) 0).now x = none := rfl
theorem dC_back1 (i : Nat) (x : List UInt8) : (back (dC i) 1).now x = if x = [102] then some i else none := dA_now i x

theorem lostAll_nil (ts : List Int) (k : Nat) (d : Ds) : lostAll ts k [] d = d := rfl
theorem dC_lost (i : Nat) : (lostAll [] 0 [[102]] (back (dC i) 1)).now [102] = some i ∧ ((lostAll [] 0 [[102]] (back (dC i) 1)).files i).bytes = [97, 98] ∧ (lostAll [] 0 [[102]] (back (dC i) 1)).up = true := by
  have h1 : (back (dC i) 1).now [102] = some i := by rw [dC_back1, if_pos rfl]
  have hf : (back (dC i) 1).files i = ⟨[97, 98], 2, 2⟩ := dC_file i
  rw [lostAll_cons h1, lostAll_nil, lost_ge (by rw [hf]; decide), hf]
  refine ⟨h1, ?_, rfl⟩
  show (upd (back (dC i) 1).files i ⟨[97, 98], 2, 2⟩ i).bytes = _
  rw [upd_same]

theorem byte_row (w : World) (b : UInt8) (fz : Nat × Nat) : BRow (w.alloc (.cells #[.int .u8 b.toNat] 5 fz)) (.slice (some ⟨w.heap.size, 0, none⟩) 1 1) [b] := by
  refine .inr ⟨_, _, rfl, by simp, fun j u hj => ?_⟩
  have : bytesV [b] = [.int .u8 b.toNat] := rfl
  rw [this] at hj
  have hb : (w.alloc (.cells #[.int .u8 b.toNat] 5 fz)).heap[w.heap.size]? = some (.cells #[.int .u8 b.toNat] 5 fz) := heap_alloc_new w _
  exact World.news_of_block (cs := #[.int .u8 b.toNat]) hb j u hj

theorem Dk.up_frame {X : Nat → Prop} {K : Nat} {w : World} {p : Nat} {d : Ds} (h : Dk X K w p d) (o : Obj) : Dk (Since X w (w.alloc o)) K (w.alloc o) p d := h.since (below_alloc w o)

set_option maxRecDepth 100000 in
set_option maxHeartbeats 8000000 in
theorem awake_c (w : World) : Calls Try.prog 20 #[] w fun e w' => e = .returned (.bool true) ∧ Below w.heap.size w w' := by
  go_enter Try.func20, Try.ntmps20
  go_wp2
  go_loopw [1] (fun v wr => ∃ k : Nat, k ≤ 2 ∧ v = .int .i64 k ∧ Below w.heap.size w wr) (fun v _ => 2 - (intOf v).toNat)
  case atStart => exact ⟨0, by omega, rfl, Below.refl _ _⟩
  case round =>
    obtain ⟨k, hk, rfl, hbr⟩ := hrel
    by_cases hlt : k < 2
    · have kc := fun (w : World) (C : Array Value) (n c : Nat) => Lib.run_convert_bytes_const (P := Try.prog) w 23 5 C n c Try.underlying23 Try.underlying5
      have hnew := new_c 100 (by omega) wr
      go_wp2_with fail
      refine hnew.mono ?_
      rintro e w1 ⟨p, rfl, hp, hb1, hd1⟩
      clear hnew
      have hwr := write_ok (M := 1) (l := [102]) (bs := [97]) (hd1.up_frame (.cells #[.int .u8 97] 5 (1, 2))) (by omega) (by omega) (fun l i h => by cases h) (by simp) (byte_row w1 97 (1, 2)) (fun k hk => by simp [Value.rowBlock] at hk; subst hk; exact .inr ⟨Nat.le_refl _, by simp⟩) (by simp) (by simp [newD]) rfl (by simp [newD]) right_f
      obtain ⟨X1, hX1⟩ : ∃ Y, Since (fun k => k < wr.heap.size) w1 (w1.alloc (.cells #[.int .u8 97] 5 (1, 2))) = Y := ⟨_, rfl⟩
      have hsub1 : ∀ k, k < wr.heap.size → X1 k := fun k hk => by rw [← hX1]; exact .inl hk
      rw [hX1] at hwr
      have H1 := Lib.hid hsub1
      clear hd1 hX1 hsub1
      go_wp2_with fail
      refine hwr.mono ?_
      rintro e w2 ⟨rfl, hs2, d2, hd2, i, hi, rfl⟩
      clear hwr
      have hap := append_ok (M := 1) (l := [102]) (bs := [98]) (i := i) (d := dA i) (hd2.up_frame (.cells #[.int .u8 98] 5 (1, 2))) (by omega) (by omega) (all_one (dA_now i) (by rw [dA_file]; simp)) (by simp) (byte_row w2 98 (1, 2)) (fun k hk => by simp [Value.rowBlock] at hk; subst hk; exact .inr ⟨Nat.le_refl _, by simp⟩) (by rw [dA_now, if_pos rfl]) (by rw [dA_file]; simp) (by rw [dA_file]; show _ ≤ 100; simp) rfl (by show (-1 : Int) ≠ 0; decide) right_f
      obtain ⟨X2, hX2⟩ : ∃ Y, Since X1 w2 (w2.alloc (.cells #[.int .u8 98] 5 (1, 2))) = Y := ⟨_, rfl⟩
      have hsub2 : ∀ k, X1 k → X2 k := fun k hk => by rw [← hX2]; exact .inl hk
      rw [hX2] at hap
      have H2 := Lib.hid hsub2
      have HS2 := Lib.hid hs2
      clear hd2 hX2 hsub2 hs2
      go_wp2_with fail
      refine hap.mono ?_
      rintro e w3 ⟨rfl, hs3, d3, hd3, rfl⟩
      clear hap
      have hsy := sync_ok (l := [102]) (i := i) (d := dB i) hd3 (by omega) (by simp) (by show (dA i).now [102] = _; rw [dA_now, if_pos rfl]) rfl (by show (-1 : Int) ≠ 0; decide) right_f
      have HS3 := Lib.hid hs3
      clear hd3 hs3
      go_wp2_with fail
      refine hsy.mono ?_
      rintro e w4 ⟨rfl, hs4, d4, hd4, rfl⟩
      clear hsy
      have hre := restart_ok (d := dC i) hd4 (by omega) (k : Int) (tnil w4) (by simp [Value.rowBlock]) (by simp)
      rw [Int.toNat_natCast] at hre
      have HS4 := Lib.hid hs4
      clear hd4 hs4
      go_wp2_with fail
      refine hre.mono ?_
      rintro e w5 ⟨⟨x5, rfl⟩, hs5, ns, ⟨hnd, hmem, _⟩, hd5⟩
      clear hre
      have hbel : Below wr.heap.size wr w5 := (hb1.trans (((Same.of_below (X := X1) (below_alloc w1 (.cells #[.int .u8 97] 5 (1, 2)))).trans HS2.out).below (by have := hb1.size; omega) (fun k hk => H1.out k hk))).trans
        ((((Same.of_below (X := X2) (below_alloc w2 (.cells #[.int .u8 98] 5 (1, 2)))).trans HS3.out).trans (HS4.out.trans hs5)).below (by have a1 := hb1.size; have a2 := HS2.out.size; simp at a2; omega) (fun k hk => H2.out k (H1.out k hk)))
      by_cases hk0 : k = 0
      · subst hk0
        have hns : ns = [] := no_name fun x hx => by have := (hmem x).1 hx; rw [dC_back0] at this; cases this
        subst hns
        have hrd := read_none (l := [102]) hd5 (by unfold maxLen; simp) rfl rfl
        have HB := Lib.hid hbel
        clear hmem hnd hd5 hs5 hbel kc
        go_wp2_with fail
        refine hrd.mono ?_
        rintro e w6 ⟨u, rfl, hrow, hb6⟩
        obtain ⟨ua, uc, rfl⟩ := row_len hrow
        clear hrow hrd
        go_wp2
        go_roundw
        case rel => exact ⟨1, by omega, by go_num, hbr.trans ((HB.out.trans (hb6.mono HB.out.size)).mono hbr.size)⟩
        case measure => simp [intOf]
      · obtain rfl : k = 1 := by omega
        have hns : ns = [[102]] := one_name hnd fun x => by
          rw [hmem x, dC_back1]
          split
          · simp_all
          · simp_all
        subst hns
        obtain ⟨l1, l2, l3⟩ := dC_lost i
        have hrd := read_some (l := [102]) hd5 (by unfold maxLen; simp) l3 l1
        rw [l2] at hrd
        have HB := Lib.hid hbel
        clear hmem hnd hd5 hs5 hbel kc l1 l2 l3 hk0
        go_wp2_with fail
        refine hrd.mono ?_
        rintro e w6 ⟨u, rfl, hrow, hb6⟩
        have hcv := conv_b (row_bytes hrow)
        have hz : ((mk [97, 98]).toList == [97, 98]) = true := by rw [mk_toList]; rfl
        clear hrow hrd
        go_wp2
        go_roundw
        case rel => exact ⟨2, by omega, by go_num, hbr.trans ((HB.out.trans (hb6.mono HB.out.size)).mono hbr.size)⟩
        case measure => simp [intOf]
    · obtain rfl : k = 2 := by omega
      go_wp2
      go_ret
      exact ⟨rfl, hbr⟩
end Go.Proofs.Ytdgfnhgkncfmpaa
