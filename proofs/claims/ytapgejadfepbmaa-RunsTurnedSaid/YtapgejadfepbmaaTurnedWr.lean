/-
  THE LAW RunsTurned, WALKED.
-/
import Derived.Test.YtapgejadfepbmaaRnTurn
import Derived.Test.YtapgejadfepbmaaRnAwake
import Derived.Test.YtapgejadfepbmaaRnRead6
namespace Go.Proofs.Ytapgejadfepbmaa.Rn
open Go.RowKit
open Go.Proofs.Ytapgejadfepbmaa.Cr

def rt (out cmd : ByteArray) : Run := ⟨out, cmd, 7, 0, [⟨⟨#[97]⟩, 1⟩], []⟩

theorem rt_size (out cmd : ByteArray) : size (parts (rt out cmd)) = (2 + out.size) + ((2 + cmd.size) + (8 + (8 + (4 + (3 + (8 + (4 + 0))))))) := rfl

theorem rt_e {out cmd : ByteArray} (h1 : out.size ≤ 300) (h2 : cmd.size ≤ 300) : wrE (rt out cmd) = 0 := by
  have hn : negR (rt out cmd) = false := rfl
  have hs := rt_size out cmd
  unfold wrE
  rw [hn, if_neg (by decide), if_neg (by unfold sizeR; omega)]

theorem rt_fit {out cmd : ByteArray} (h1 : out.size ≤ 300) (h2 : cmd.size ≤ 300) : Fit (rt out cmd) := by
  refine ⟨by show out.size ≤ _; omega, by show cmd.size ≤ _; omega, by show (7 : Int) < _; omega, by show (0 : Int) < _; omega, ?_, ?_, by show 1 < _; omega, by show 0 < _; omega⟩
  · intro i hi
    have : i = ⟨⟨#[97]⟩, 1⟩ := by simpa [rt] using hi
    subst this
    exact ⟨by decide, by decide⟩
  · intro t ht
    simp [rt] at ht

theorem rt_len {out cmd : ByteArray} (h1 : out.size ≤ 300) (h2 : cmd.size ≤ 300) : 30 ≤ (recB (rt out cmd)).length ∧ (recB (rt out cmd)).length ≤ 1000 := by
  have hs := rt_size out cmd
  rw [recB_length]
  unfold sizeR
  omega

theorem rdQ_no {w w' : World} {b : List Nat} {e : Ending} (hf : fits b = false) (h : RdQ w b e w') : ∃ a c a' c', e = .returned (.tuple #[.agg #[.string ⟨#[]⟩, .string ⟨#[]⟩, .int .i64 0, .int .i64 0, .slice a 0 c, .slice a' 0 c'], .int .i64 4]) ∧ Below w.heap.size w w' := by
  obtain ⟨vi, vf, he, hi, hfd, hb⟩ := h
  have e1 : rdE b = 4 := by unfold rdE; rw [hf]; rfl
  have e2 : rdO b = none := by unfold rdO; rw [hf]; rfl
  rw [e2] at hi hfd
  obtain ⟨a, c, rfl, _⟩ := hi
  obtain ⟨a', c', rfl, _⟩ := hfd
  rw [e1, e2] at he
  exact ⟨a, c, a', c', he, hb⟩

/-- a byte of a row of the call's own is set -/
theorem own_set {W : World} {base g n c k : Nat} {xs : List Nat} {z : Nat} (h : W.ownsRow base 5 1 (.slice (some ⟨g, 0, Option.none⟩) n c) n (Pk.bytesV xs)) (_hk : k < xs.length) :
    (W.setCell ⟨g, k, Option.none⟩ (.int .u8 (z : Int))).ownsRow base 5 1 (.slice (some ⟨g, 0, Option.none⟩) n c) n (Pk.bytesV (xs.set k z)) := by
  have hn : n = xs.length := by have := h.1; rw [Pk.bytesV_length] at this; omega
  refine ⟨by rw [Pk.bytesV_length, List.length_set]; omega, .inr ?_⟩
  rcases h.2 with ⟨e, _⟩ | ⟨g', cap, cur, e, hb, hg, hle, hm, hsz, htake⟩
  · cases e
  · cases e
    refine ⟨g, c, cur.setIfInBounds k (.int .u8 (z : Int)), rfl, hb, Pk.set_block hg, hle, hm, by simpa using hsz, ?_⟩
    rw [Array.toList_setIfInBounds, List.take_set, htake]
    simp [Pk.bytesV, List.map_set]

set_option maxRecDepth 100000 in
set_option maxHeartbeats 8000000 in
theorem turned_main (out cmd : ByteArray) (k y : Nat) (w : World) (h1 : out.size ≤ 300) (h2 : cmd.size ≤ 300) (hk : k < 256) (hy : y < 256) (hy0 : y ≠ 0) :
    Calls Try.prog 8 #[.agg #[.string out, .string cmd, .int .u8 (k : Int), .int .u8 (y : Int)]] w fun e w' => e = .returned (.bool true) ∧ Below w.heap.size w w' := by
  have hyz : ((y : Int) == 0) = false := by simpa using hy0
  go_enter Try.func8, Try.ntmps8
  go_wp2_with fail
  go_quiet (fail)
  go_wp2_with fail
  obtain ⟨W0, hW0⟩ : ∃ W, (w.alloc (.cells #[.string out, .string cmd, .int .u8 (k : Int), .int .u8 (y : Int)] 58)).drewN nq = W := ⟨_, rfl⟩
  have z0 : W0.heap.size = w.heap.size + 1 := by rw [← hW0]; exact Array.size_push _
  have hB0 : Below w.heap.size w W0 := by
    have hb := Pk.below_alloc w (.cells #[.string out, .string cmd, .int .u8 (k : Int), .int .u8 (y : Int)] 58)
    rw [← hW0]
    exact ⟨hb.os, hb.tape, hb.output, hb.size, hb.block⟩
  rw [hW0]
  obtain ⟨W1, hW1⟩ : ∃ W, W0.alloc (.cells #[.string ⟨#[97]⟩, .int .i64 1] 59) = W := ⟨_, rfl⟩
  have hB1 : Below w.heap.size w W1 := by rw [← hW1]; exact hB0.alloc hB0.size _
  have hin : W1.heap[w.heap.size + 1]? = some (.cells #[.string ⟨#[97]⟩, .int .i64 1] 59 (0, 0)) := by rw [← hW1, ← z0]; exact heap_alloc_new _ _
  have hI : InRow W1 (.slice (some ⟨w.heap.size + 1, 0, Option.none⟩) 1 1) (rt out cmd).ins := by
    refine ⟨some ⟨w.heap.size + 1, 0, Option.none⟩, 1, rfl, (fun e => nomatch e), Nat.le_refl _, .inr ⟨_, _, rfl, lt_some hin, fun i x hx => ?_⟩⟩
    have hi : i = 0 := by
      have := (List.getElem?_eq_some_iff.1 hx).1
      have hl : (rt out cmd).ins.length = 1 := rfl
      omega
    subst hi
    have : x = ⟨⟨#[97]⟩, 1⟩ := by simpa [rt] using hx.symm
    subst this
    simp [World.cell?, hin]
  have hF : FdRow W1 (.slice Option.none 0 0) (rt out cmd).found := ⟨Option.none, 0, rfl, fun _ => rfl, Nat.le_refl _, .inl rfl⟩
  have hw : Calls Try.prog 11 #[.agg #[.string out, .string cmd, .int .i64 7, .int .i64 0, .slice (some ⟨w.heap.size + 1, 0, Option.none⟩) 1 1, .slice Option.none 0 0]] W1 (WrQ W1 (rt out cmd)) :=
    write_c (r := rt out cmd) hI hF (by show 1 ≤ _; omega) (by show 0 ≤ _; omega) (by have := (rt_len h1 h2).2; rw [recB_length] at this; unfold sizeR at this; omega) (by
      intro t ht
      have : t = 7 ∨ t = 0 ∨ t = 1 := by simpa [parts, rt] using ht
      omega)
  rw [hW1]
  clear hI hF hin hW0 hW1 hB0 z0
  refine hw.mono ?_
  rintro e w2 ⟨a, n, c, rfl, hown, hb⟩
  have hE := rt_e h1 h2
  have hbB : wrB (rt out cmd) = recB (rt out cmd) := if_pos hE
  rw [hbB] at hown
  rw [hE]
  obtain ⟨hl1, hl2⟩ := rt_len h1 h2
  have hlt := recB_lt (rt out cmd)
  have hB2 := Lib.hid (hB1.trans (hb.mono hB1.size))
  have hs1 := hB1.size
  obtain ⟨g, rfl, hgb, hg, hn, hnc, ⟨C, hgC, _⟩, hcell⟩ := own_cells hown (by intro h; rw [h] at hl1; simp at hl1)
  have hk8 : k % 8 < 8 := Nat.mod_lt _ (by omega)
  have hc8 := hcell (k % 8) (by omega)
  have hf8 : w2.frozen? ⟨g, k % 8, Option.none⟩ = false := by simp [World.frozen?, hgC]
  rw [Nat.zero_add] at hc8
  have hx := Pk.getD_lt hlt (k % 8)
  clear hcell hw hE hbB hgC hB1 hb
  generalize hxx : (recB (rt out cmd)).getD (k % 8) 0 = x at *
  have hn8 : ¬ (n : Int) < 8 := by omega
  have hxor : bits BinOp.xor IntKind.u8 (x : Int) (y : Int) = ((x ^^^ y : Nat) : Int) := u8_xor_nat x y hx hy
  have HX := Lib.hid hxx
  have hnu : n ≤ 1000 := by omega
  have hnl : 30 ≤ n := by omega
  have HN := Lib.hid hn
  clear hxx hn
  go_wp2_with fail
  have hz : x ^^^ y < 256 := Crc.xor_lt (n := 8) hx hy
  have hne : x ^^^ y ≠ x := fun e => hy0 (by
    have : x ^^^ (x ^^^ y) = x ^^^ x := by rw [e]
    rwa [← Nat.xor_assoc, Nat.xor_self, Nat.zero_xor] at this)
  have hown3 := own_set (k := k % 8) (z := x ^^^ y) hown (by omega)
  obtain ⟨h', hh1, hh2, hh3⟩ := turn_hash (r := rt out cmd) hk8 hz (by rw [HX.out]; exact hne)
  have hfit := rt_fit h1 h2
  have hlt3 : ∀ n ∈ (recB (rt out cmd)).set (k % 8) (x ^^^ y), n < 256 := fun n hn => by
    rcases List.mem_or_eq_of_mem_set hn with h | rfl
    · exact hlt n h
    · exact hz
  have hlen3 : ((recB (rt out cmd)).set (k % 8) (x ^^^ y)).length = n := by rw [List.length_set]; exact HN.out.symm
  have f1 : fits ((recB (rt out cmd)).set (k % 8) (x ^^^ y)) = false := no_fit hh1 hfit hh2 (e := []) (by rw [hh3]; simp) hlt3
  have f2 : fits (((recB (rt out cmd)).set (k % 8) (x ^^^ y)).take (n - 1)) = false := by
    have hd : (recB (rt out cmd)).set (k % 8) (x ^^^ y) = ((recB (rt out cmd)).set (k % 8) (x ^^^ y)).take (n - 1) ++ [((recB (rt out cmd)).set (k % 8) (x ^^^ y)).getD (n - 1) 0] := by
      rw [← Pk.take_snoc (by omega), List.take_of_length_le (by omega)]
    exact no_fit_cut hh1 hfit hh2 hh3 hd hlt3
  have f3 : fits ((recB (rt out cmd)).set (k % 8) (x ^^^ y) ++ [0]) = false := no_fit hh1 hfit hh2 (e := [0]) (by rw [hh3]) (Pk.app_lt hlt3 (by simp))
  have hb3 : Below w.heap.size w (w2.setCell ⟨g, k % 8, Option.none⟩ (.int .u8 ((x ^^^ y : Nat) : Int))) := hB2.out.trans ((off_set (C := fun j => j = g) rfl).below (by rintro j rfl; omega) hB2.out.size)
  have hrow3 := (Pk.owned_row hown3).2.1
  have hsz3 : (w2.setCell ⟨g, k % 8, Option.none⟩ (.int .u8 ((x ^^^ y : Nat) : Int))).heap.size = w2.heap.size := by simp [World.setCell]
  have hs3 : W1.heap.size ≤ (w2.setCell ⟨g, k % 8, Option.none⟩ (.int .u8 ((x ^^^ y : Nat) : Int))).heap.size := by rw [hsz3]; omega
  generalize w2.setCell ⟨g, k % 8, Option.none⟩ (.int .u8 ((x ^^^ y : Nat) : Int)) = W3 at *
  generalize (recB (rt out cmd)).set (k % 8) (x ^^^ y) = B at *
  have HL3 := Lib.hid hlen3
  have q1 := read_c (n := n) (c := c) (Lib.hid hlen3.symm) hrow3 hlt3 (by omega)
  have HOWN := Lib.hid hown3
  have HB3 := Lib.hid hb3
  clear hown hc8 hf8 hne hh1 hh2 hh3 hfit hown3 hb3 hz hx hxor hlen3 hgb hsz3
  refine q1.mono ?_
  intro e w4 hq1
  obtain ⟨va, vc, va', vc', rfl, hb4⟩ := rdQ_no f1 hq1
  have HB4 := Lib.hid (HB3.out.trans (hb4.mono HB3.out.size))
  have hrow4 := hrow3.below hb4
  have hs24 : W1.heap.size ≤ w4.heap.size := Nat.le_trans hs3 hb4.size
  have HO4 := Lib.hid (owns_below HOWN.out hb4)
  clear q1 hq1 hb4 f1 hrow3
  have ht : (B.take (n - 1)).length = n - 1 := by rw [List.length_take, HL3.out]; omega
  obtain ⟨W5, hW5⟩ : ∃ W, w4.alloc (.cells #[.string ⟨#[]⟩, .string ⟨#[]⟩, .int .i64 0, .int .i64 0, .slice va 0 vc, .slice va' 0 vc'] 33) = W := ⟨_, rfl⟩
  have hb45 : Below w4.heap.size w4 W5 := by rw [← hW5]; exact Pk.below_alloc _ _
  have q2 := read_c (w := W5) (n := n - 1) (c := c) (Lib.hid ht.symm) (Pk.Row.take (hrow4.below hb45) (n - 1)) (Pk.take_lt hlt3 _) (by omega)
  have HB5 := Lib.hid (HB4.out.trans (hb45.mono HB4.out.size))
  have HO5 := Lib.hid (owns_below HO4.out hb45)
  have hs5 : w4.heap.size ≤ W5.heap.size := hb45.size
  have hs2 : W1.heap.size ≤ w4.heap.size := hs24
  have hn1 : ((n : Int) - 1) = ((n - 1 : Nat) : Int) := by omega
  have hn2 : n - 1 ≤ c := by omega
  clear ht hb45 hrow4
  go_wp2_with fail
  refine q2.mono ?_
  intro e w6 hq2
  obtain ⟨ua, uc, ua', uc', rfl, hb6⟩ := rdQ_no f2 hq2
  obtain ⟨W7, hW7⟩ : ∃ W, w6.alloc (.cells #[.string ⟨#[]⟩, .string ⟨#[]⟩, .int .i64 0, .int .i64 0, .slice ua 0 uc, .slice ua' 0 uc'] 33) = W := ⟨_, rfl⟩
  have hb67 : Below w6.heap.size w6 W7 := by rw [← hW7]; exact Pk.below_alloc _ _
  have HB7 := Lib.hid ((HB5.out.trans (hb6.mono HB5.out.size)).trans (hb67.mono (Nat.le_trans HB5.out.size hb6.size)))
  have HO7 := Lib.hid (owns_below (owns_below HO5.out hb6) hb67)
  have hs7 : W1.heap.size ≤ W7.heap.size := Nat.le_trans (Nat.le_of_lt_succ (Nat.lt_succ_of_le (Nat.le_trans hs2 (Nat.le_trans hs5 hb6.size)))) hb67.size
  have hs7w : w.heap.size ≤ W7.heap.size := HB7.out.size
  clear q2 hq2 hb6 f2 hb67 HO4 HO5
  have r0 := Pk.row_list W7 [0] #[.int .u8 0] 5 (0, 0) rfl
  go_wp2_with (at_builtin; refine Pk.wpList_append_bytes rfl (.tmp 75) (.tmp 76) rfl W1.heap.size (.slice (some ⟨g, 0, Option.none⟩) n c) n B rfl (HO7.out.alloc _) (some ⟨W7.heap.size, 0, Option.none⟩) 1 1 [0] rfl rfl (by simp) r0 (B ++ [0]) rfl (by omega) (by simp; omega) ?_; intro a8 n8 c8 w8 hown8 Hn8 hle8 hr8 _ hb8)
  have q3 := read_c (n := n8) (c := c8) Hn8 hr8 (Pk.app_lt hlt3 (by simp)) (by omega)
  have HB8 := Lib.hid (((HB7.out.alloc HB7.out.size (.cells #[.int .u8 0] 5))).trans (hb8.mono hs1))
  clear hown8 Hn8 hle8 hr8 hb8 HO7 HOWN
  refine q3.mono ?_
  intro e w9 hq3
  obtain ⟨ta, tc, ta', tc', rfl, hb9⟩ := rdQ_no f3 hq3
  obtain ⟨W10, hW10⟩ : ∃ W, w9.alloc (.cells #[.string ⟨#[]⟩, .string ⟨#[]⟩, .int .i64 0, .int .i64 0, .slice ta 0 tc, .slice ta' 0 tc'] 33) = W := ⟨_, rfl⟩
  have hb10 : Below w9.heap.size w9 W10 := by rw [← hW10]; exact Pk.below_alloc _ _
  have HB10 := Lib.hid ((HB8.out.trans (hb9.mono HB8.out.size)).trans (hb10.mono (Nat.le_trans HB8.out.size hb9.size)))
  have ha := awake_c W10
  clear q3 hq3 hb9 f3 hb10
  go_wp2_with fail
  refine ha.mono ?_
  rintro e w11 ⟨rfl, hb11⟩
  have HB11 := Lib.hid (HB10.out.trans (hb11.mono HB10.out.size))
  clear ha hb11
  go_wp2_with fail
  go_ret
  exact ⟨rfl, HB11.out⟩

set_option maxRecDepth 100000 in
set_option maxHeartbeats 4000000 in
theorem turned_any (out cmd : ByteArray) (k y : Nat) (w : World) (hk : k < 256) (hy : y < 256) :
    Calls Try.prog 8 #[.agg #[.string out, .string cmd, .int .u8 (k : Int), .int .u8 (y : Int)]] w fun e w' => e = .returned (.bool true) ∧ Below w.heap.size w w' := by
  by_cases h1 : out.size ≤ 300
  · by_cases h2 : cmd.size ≤ 300
    · by_cases hy0 : y = 0
      · subst hy0
        have hbw := Pk.below_alloc w (.cells #[.string out, .string cmd, .int .u8 (k : Int), .int .u8 ((0 : Nat) : Int)] 58)
        go_enter Try.func8, Try.ntmps8
        go_wp2_with fail
        go_quiet (fail)
        go_wp2_with fail
        go_ret
        exact ⟨rfl, ⟨hbw.os, hbw.tape, hbw.output, hbw.size, hbw.block⟩⟩
      · exact turned_main out cmd k y w h1 h2 hk hy hy0
    · have hbw := Pk.below_alloc w (.cells #[.string out, .string cmd, .int .u8 (k : Int), .int .u8 (y : Int)] 58)
      go_enter Try.func8, Try.ntmps8
      go_wp2_with fail
      go_quiet (fail)
      go_wp2_with fail
      go_ret
      exact ⟨rfl, ⟨hbw.os, hbw.tape, hbw.output, hbw.size, hbw.block⟩⟩
  · have hbw := Pk.below_alloc w (.cells #[.string out, .string cmd, .int .u8 (k : Int), .int .u8 (y : Int)] 58)
    go_enter Try.func8, Try.ntmps8
    go_wp2_with fail
    go_quiet (fail)
    go_wp2_with fail
    go_ret
    exact ⟨rfl, ⟨hbw.os, hbw.tape, hbw.output, hbw.size, hbw.block⟩⟩
end Go.Proofs.Ytapgejadfepbmaa.Rn
