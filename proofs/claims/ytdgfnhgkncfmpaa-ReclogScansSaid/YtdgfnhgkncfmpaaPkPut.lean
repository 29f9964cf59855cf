/-
  pack's PUTTING, WALKED.
-/
import Derived.Test.YtdgfnhgkncfmpaaPkBase
import Derived.Laws.CopyOwn
namespace Go.Proofs.Ytdgfnhgkncfmpaa.Pk
open Go.RowKit

set_option maxRecDepth 100000 in
theorem len64_32 (w : World) : Calls Try.prog 102 #[.int .u64 4294967295] w fun e w' => e = .returned (.int .i64 32) ∧ w = w' := by
  go_enter Try.func102, Try.ntmps102
  go_wp2
  go_ret
  exact ⟨ret_eq (by decide +kernel), rfl⟩

theorem width32 (w : World) : Calls Try.prog 92 #[] w fun e w' => e = .returned (.int .i64 4) ∧ w = w' := by
  have hsg : IntKind.u32.signed = false := rfl
  have hx : bits BinOp.xor IntKind.u32 IntKind.u32.max 0 = 4294967295 := by decide +kernel
  go_enter Try.func92, Try.ntmps92
  go_wp2_with fail
  refine (len64_32 _).mono ?_
  rintro e w1 ⟨rfl, rfl⟩
  go_wp2_with fail
  go_ret
  exact ⟨rfl, rfl⟩

theorem row_cells' {w : World} {a : Option Addr} {l : List Nat} (h : Row w a l) : 0 < (bytesV l).length → ∃ ad, a = some ad ∧ ∀ j v, (bytesV l)[j]? = some v → w.cell? (ad.add j) = some v := by
  intro hp
  rcases h with rfl | ⟨b, off, h1, h2, h3⟩
  · simp [bytesV] at hp
  · exact ⟨_, h1, row_cells (h1 ▸ (.inr ⟨b, off, h1, h2, h3⟩))⟩

theorem made_list (n : Nat) : ∃ Z : List Value, madeCells #[.int .u8 0] n = Z.toArray ∧ Z.length = n :=
  ⟨(madeCells #[.int .u8 0] n).toList, by simp, by simp [size_madeCells]⟩

theorem one_bytes (l : List Nat) : ∀ v ∈ bytesV l, v.oneCell' = true := by
  intro u hu
  unfold bytesV at hu
  obtain ⟨k, _, rfl⟩ := List.mem_map.1 hu
  rfl

/-- what copy(own, b) leaves where own was just made: b's bytes -/
theorem copy_made {w : World} {a : Option Addr} {n cap k : Nat} {C Z : List Value} (hC : C.length = n) (hZ : Z.length = n + k)
    (hcs : 0 < C.length → ∃ ad, a = some ad ∧ ∀ j v, C[j]? = some v → w.cell? (ad.add j) = some v) (hone : ∀ v ∈ C, v.oneCell' = true) :
    ∃ w2, (Builtin.copy_ #[23, 23] 3 #[.slice (some ⟨w.heap.size, 0, none⟩) n (n + k), .slice a n cap]).run Try.prog (w.alloc (.cells Z.toArray 5)) = .ok (goInt n) w2 ∧
      w2.heap[w.heap.size]? = some (.cells (splice Z 0 C).toArray 5 (0, 0)) ∧ Below w.heap.size w w2 := by
  obtain ⟨i0, hi, hz0, hz1, hz2⟩ := info_parts info5
  have hsz : (Try.prog.info? 5).map (·.size) = some 1 := by rw [hi]; simp [hz1]
  by_cases h0 : n = 0
  · subst h0
    obtain rfl : C = [] := List.eq_nil_of_length_eq_zero hC
    exact ⟨_, run_copy_none (P := Try.prog) _ 23 23 3 5 _ _ _ _ _ _ Try.underlying23 hsz rfl, by simpa [splice] using heap_alloc_new w (.cells Z.toArray 5), below_alloc _ _⟩
  · obtain ⟨ad, rfl, hc⟩ := hcs (by omega)
    refine ⟨_, ?_, setRow_heap (w.alloc (.cells Z.toArray 5)) w.heap.size Z.toArray _ 5 _ (heap_alloc_new w _), below_setRow (below_alloc _ _) (Nat.le_refl _) _⟩
    have h := run_copy_row (P := Try.prog) (w.alloc (.cells Z.toArray 5)) 23 23 3 5 w.heap.size 0 n (n + k) ad n cap Z.toArray 5 C Try.underlying23 hsz (heap_alloc_new w _) (by rw [hC]; exact (Nat.min_self n).symm) (fun j v hj => cell_keep (hc j v hj) _) (by simp; omega) hone
    rw [h, hC]
    simp [splice, hC]

theorem withRoom_any (a : Option Addr) (n cap : Nat) (l : List Nat) (r : Nat) (w : World)
    (hn : Hid (n = l.length)) (hrow : Row w a l) (hlen : n ≤ 1000000) (hr : r ≤ 1000000) :
    Calls Try.prog 91 #[.slice a n cap, .int .i64 (r : Int)] w fun e w' => e = .returned (.slice (some ⟨w.heap.size, 0, none⟩) n (n + r)) ∧ w'.ownsRow w.heap.size 5 1 (.slice (some ⟨w.heap.size, 0, none⟩) n (n + r)) n (bytesV l) ∧ Below w.heap.size w w' := by
  obtain ⟨i0, hi, hz0, hz1, hz2⟩ := info_parts info5
  have hmk := run_make (P := Try.prog) w 23 5 i0 (.int .u8 0) Try.underlying23 hi hz0 .i64 .i64 (n : Int) ((n : Int) + (r : Int)) (by omega) (by omega) (by rw [hz2]; omega) (by omega)
  rw [show ((n : Int) + (r : Int)).toNat = n + r from by omega, Int.toNat_natCast, hz1, Nat.mul_one, show (Value.int .u8 0).cells = #[.int .u8 0] from rfl] at hmk
  obtain ⟨Z, hZ, hZl⟩ := made_list (n + r)
  rw [hZ] at hmk
  have hbl : (bytesV l).length = n := by rw [bytesV_length]; exact hn.out.symm
  have hcs := row_cells' hrow
  have hone := one_bytes l
  obtain ⟨w2, hcp, hg2, hb2⟩ := copy_made (cap := cap) hbl hZl hcs hone
  generalize bytesV l = C at *
  have HZ := Lib.hid hZl
  have HC := Lib.hid hbl
  have HG := Lib.hid hg2
  clear hbl hZl hZ hcs hone hg2 hi hz0 hz1 hz2
  go_enter Try.func91, Try.ntmps91
  go_wp2_with fail
  go_ret
  refine ⟨rfl, ?_, hb2⟩
  have e1 := HC.out
  have e2 := HZ.out
  refine ⟨by omega, .inr ⟨_, _, _, rfl, Nat.le_refl _, HG.out, by omega, by unfold maxLen; omega, ?_, ?_⟩⟩
  · rw [List.size_toArray, length_splice _ _ _ (by omega)]
    omega
  · simp [splice, ← e1]

theorem withRoom_int (a : Option Addr) (n cap : Nat) (l : List Nat) (R : Int) (r : Nat) (w : World) (hR : R = (r : Int))
    (hn : Hid (n = l.length)) (hrow : Row w a l) (hlen : n ≤ 1000000) (hr : r ≤ 1000000) :
    Calls Try.prog 91 #[.slice a n cap, .int .i64 R] w fun e w' => e = .returned (.slice (some ⟨w.heap.size, 0, none⟩) n (n + r)) ∧ w'.ownsRow w.heap.size 5 1 (.slice (some ⟨w.heap.size, 0, none⟩) n (n + r)) n (bytesV l) ∧ Below w.heap.size w w' := by
  subst hR
  exact withRoom_any a n cap l r w hn hrow hlen hr

/-- a number's lowest k bytes, the lowest first -/
def le (n k : Nat) : List Nat := (List.range k).map fun i => n / 2 ^ (8 * i) % 256

theorem le_succ (n k : Nat) : le n (k + 1) = le n k ++ [n / 2 ^ (8 * k) % 256] := by simp [le, List.range_succ]
theorem le_length (n k : Nat) : (le n k).length = k := by simp [le]
theorem le_lt (n k : Nat) : ∀ x ∈ le n k, x < 256 := by
  intro x hx
  obtain ⟨i, _, rfl⟩ := List.mem_map.1 hx
  exact Nat.mod_lt _ (by omega)

theorem byte_form (v k : Nat) : #[Value.int IntKind.u8 ((v : Int) / 2 ^ (8 * k) % 256)] = (([v / 2 ^ (8 * k) % 256] : List Nat).map fun (n : Nat) => Value.int .u8 (n : Int)).toArray := by
  simp

/-- the end of a call that hands back a row of its own -/
def Owned (base : Nat) (xs : List Nat) (w : World) (e : Ending) (w' : World) : Prop :=
  ∃ a' n' c', e = .returned (.slice a' n' c') ∧ w'.ownsRow base 5 1 (.slice a' n' c') n' (bytesV xs) ∧ Below base w w'

theorem put32_any (base : Nat) (a : Option Addr) (n c : Nat) (xs : List Nat) (v : Nat) (w : World) (_hv : v < 4294967296) (hown : w.ownsRow base 5 1 (.slice a n c) n (bytesV xs)) (hn : n ≤ 100000000) (hbase : base ≤ w.heap.size) :
    Calls Try.prog 90 #[.slice a n c, .int .u32 (v : Int)] w fun e w' => Owned base (xs ++ le v 4) w e w' := by
  have hm : xs.length = n := by have := hown.1; rw [bytesV_length] at this; omega
  have Hm := Lib.hid hm
  clear hm
  go_enter Try.func90, Try.ntmps90
  go_wp2_with fail
  refine (width32 _).mono ?_
  rintro e w1 ⟨rfl, rfl⟩
  go_wp2_with fail
  go_loopw [0, 7] (fun s i wr => ∃ k : Nat, k ≤ 4 ∧ i = .int .i64 k ∧ ∃ a' n' c', s = .slice a' n' c' ∧ wr.ownsRow base 5 1 (.slice a' n' c') n' (bytesV (xs ++ le v k)) ∧ n' ≤ n + k ∧ Below base w wr) (fun _ i _ => 4 - (intOf i).toNat)
  case atStart => exact ⟨0, by omega, rfl, a, n, c, rfl, by simpa [le] using hown, by omega, Below.refl _ _⟩
  case round =>
    obtain ⟨k, hk, rfl, a', n', c', rfl, hown', hle, hnx⟩ := hrel
    have hsz := hnx.size
    by_cases hlt : k < 4
    · have hsc := le_succ v k
      have HS := Lib.hid hsc
      clear hsc
      go_wp2_with (at_builtin; refine wpList_append_bytes rfl (.tmp 10) (.tmp 16) rfl base (.slice a' n' c') n' (xs ++ le v k) rfl (hown'.alloc _) (some ⟨wr.heap.size, 0, none⟩) 1 1 [v / 2 ^ (8 * k) % 256] rfl rfl (by simp) (row_list _ _ _ _ _ (byte_form v k)) (xs ++ le v k ++ [v / 2 ^ (8 * k) % 256]) rfl (by omega) (by simp; omega) ?_; intro a2 n2 c2 w2 hown2 Hn2 hle2 _ _ hb2)
      go_roundw
      case rel => exact ⟨k + 1, by omega, by go_num, a2, n2, c2, rfl, by rw [HS.out, ← List.append_assoc]; exact hown2, by omega, (hnx.alloc (by omega) _).trans hb2⟩
      case measure => simp [intOf]; omega
    · obtain rfl : k = 4 := by omega
      go_wp2_with fail
      go_ret
      exact ⟨a', n', c', rfl, hown', hnx⟩

theorem owns_mono {w : World} {b b' : Nat} {v : Value} {n : Nat} {xs : List Value} (h : w.ownsRow b 5 1 v n xs) (hb : b' ≤ b) : w.ownsRow b' 5 1 v n xs := by
  refine ⟨h.1, ?_⟩
  rcases h.2 with h | ⟨g, cap, cur, h1, h2, h3⟩
  · exact .inl h
  · exact .inr ⟨g, cap, cur, h1, by omega, h3⟩

theorem u32_any (a : Option Addr) (n c : Nat) (l : List Nat) (v : Nat) (w : World) (hv : v < 4294967296)
    (hn : Hid (n = l.length)) (hrow : Row w a l) (hlen : n ≤ 1000000) :
    Calls Try.prog 56 #[.slice a n c, .int .u32 (v : Int)] w fun e w' => Owned w.heap.size (l ++ le v 4) w e w' := by
  go_enter Try.func56, Try.ntmps56
  go_wp2_with fail
  refine (width32 _).mono ?_
  rintro e w1 ⟨rfl, rfl⟩
  go_wp2_with fail
  refine (withRoom_any a n c l 4 w hn hrow hlen (by omega)).mono ?_
  rintro e w1 ⟨rfl, hown, hb1⟩
  go_wp2_with fail
  refine (put32_any w.heap.size _ _ _ l v w1 hv hown (by omega) hb1.size).mono ?_
  rintro e w2 ⟨a', n', c', rfl, hown2, hb2⟩
  go_wp2_with fail
  go_ret
  exact ⟨a', n', c', rfl, hown2, hb1.trans hb2⟩

end Go.Proofs.Ytdgfnhgkncfmpaa.Pk
