/-
  pack's PUTTING, WALKED.
-/
import Derived.Test.YtppboldeocjbhabBase
import Derived.Laws.CopyOwn
namespace Go.Proofs.Ytppboldeocjbhab
open Go.RowKit

set_option maxRecDepth 100000 in
theorem len64_16 (w : World) : Calls Try.prog 36 #[.int .u64 65535] w fun e w' => e = .returned (.int .i64 16) ∧ w = w' := by
  go_enter Try.func36, Try.ntmps36
  go_wp2
  go_ret
  exact ⟨ret_eq (by decide +kernel), rfl⟩

set_option maxRecDepth 100000 in
theorem len64_32 (w : World) : Calls Try.prog 36 #[.int .u64 4294967295] w fun e w' => e = .returned (.int .i64 32) ∧ w = w' := by
  go_enter Try.func36, Try.ntmps36
  go_wp2
  go_ret
  exact ⟨ret_eq (by decide +kernel), rfl⟩

set_option maxRecDepth 100000 in
theorem len64_64 (w : World) : Calls Try.prog 36 #[.int .u64 18446744073709551615] w fun e w' => e = .returned (.int .i64 64) ∧ w = w' := by
  go_enter Try.func36, Try.ntmps36
  go_wp2
  go_ret
  exact ⟨ret_eq (by decide +kernel), rfl⟩

theorem width32 (w : World) : Calls Try.prog 25 #[] w fun e w' => e = .returned (.int .i64 4) ∧ w = w' := by
  have hsg : IntKind.u32.signed = false := rfl
  have hx : bits BinOp.xor IntKind.u32 IntKind.u32.max 0 = 4294967295 := by decide +kernel
  go_enter Try.func25, Try.ntmps25
  go_wp2_with fail
  refine (len64_32 _).mono ?_
  rintro e w1 ⟨rfl, rfl⟩
  go_wp2_with fail
  go_ret
  exact ⟨rfl, rfl⟩

theorem width64 (w : World) : Calls Try.prog 27 #[] w fun e w' => e = .returned (.int .i64 8) ∧ w = w' := by
  have hsg : IntKind.u64.signed = false := rfl
  have hx : bits BinOp.xor IntKind.u64 IntKind.u64.max 0 = 18446744073709551615 := by decide +kernel
  go_enter Try.func27, Try.ntmps27
  go_wp2_with fail
  refine (len64_64 _).mono ?_
  rintro e w1 ⟨rfl, rfl⟩
  go_wp2_with fail
  go_ret
  exact ⟨rfl, rfl⟩

theorem width16 (w : World) : Calls Try.prog 29 #[] w fun e w' => e = .returned (.int .i64 2) ∧ w = w' := by
  have hsg : IntKind.u16.signed = false := rfl
  have hx : bits BinOp.xor IntKind.u16 IntKind.u16.max 0 = 65535 := by decide +kernel
  go_enter Try.func29, Try.ntmps29
  go_wp2_with fail
  refine (len64_16 _).mono ?_
  rintro e w1 ⟨rfl, rfl⟩
  go_wp2_with fail
  go_ret
  exact ⟨rfl, rfl⟩

theorem row_cells' {w : World} {a : Option Addr} {l : List Nat} (h : Row w a l) : 0 < (bytesV l).length → ∃ ad, a = some ad ∧ ∀ j v, (bytesV l)[j]? = some v → w.cell? (ad.add j) = some v := by
  intro hp
  rcases h with rfl | ⟨b, off, h1, h2, h3⟩
  · simp [bytesV] at hp
  · exact ⟨_, h1, row_cells (h1 ▸ (.inr ⟨b, off, h1, h2, h3⟩))⟩

theorem made_list (n : Nat) : ∃ Z : List Value, madeCells #[.int .u8 0] n = Z.toArray ∧ Z.length = n :=
  ⟨(madeCells #[.int .u8 0] n).toList, by simp, by simp [size_madeCells]⟩

theorem one_bytes (l : List Nat) : ∀ v ∈ bytesV l, v.oneCell' = true := by
  intro u hu
  unfold bytesV at hu
  obtain ⟨k, _, rfl⟩ := List.mem_map.1 hu
  rfl

/-- what copy(own, b) leaves where own was just made: b's bytes -/
theorem copy_made {w : World} {a : Option Addr} {n cap k : Nat} {C Z : List Value} (hC : C.length = n) (hZ : Z.length = n + k)
    (hcs : 0 < C.length → ∃ ad, a = some ad ∧ ∀ j v, C[j]? = some v → w.cell? (ad.add j) = some v) (hone : ∀ v ∈ C, v.oneCell' = true) :
    ∃ w2, (Builtin.copy_ #[22, 22] 3 #[.slice (some ⟨w.heap.size, 0, none⟩) n (n + k), .slice a n cap]).run Try.prog (w.alloc (.cells Z.toArray 5)) = .ok (goInt n) w2 ∧
      w2.heap[w.heap.size]? = some (.cells (splice Z 0 C).toArray 5 (0, 0)) ∧ Below w.heap.size w w2 := by
  obtain ⟨i0, hi, hz0, hz1, hz2⟩ := info_parts info5
  have hsz : (Try.prog.info? 5).map (·.size) = some 1 := by rw [hi]; simp [hz1]
  by_cases h0 : n = 0
  · subst h0
    obtain rfl : C = [] := List.eq_nil_of_length_eq_zero hC
    exact ⟨_, run_copy_none (P := Try.prog) _ 22 22 3 5 _ _ _ _ _ _ Try.underlying22 hsz rfl, by simpa [splice] using heap_alloc_new w (.cells Z.toArray 5), below_alloc _ _⟩
  · obtain ⟨ad, rfl, hc⟩ := hcs (by omega)
    refine ⟨_, ?_, setRow_heap (w.alloc (.cells Z.toArray 5)) w.heap.size Z.toArray _ 5 _ (heap_alloc_new w _), below_setRow (below_alloc _ _) (Nat.le_refl _) _⟩
    have h := run_copy_row (P := Try.prog) (w.alloc (.cells Z.toArray 5)) 22 22 3 5 w.heap.size 0 n (n + k) ad n cap Z.toArray 5 C Try.underlying22 hsz (heap_alloc_new w _) (by rw [hC]; exact (Nat.min_self n).symm) (fun j v hj => cell_keep (hc j v hj) _) (by simp; omega) hone
    rw [h, hC]
    simp [splice, hC]

theorem withRoom_any (a : Option Addr) (n cap : Nat) (l : List Nat) (r : Nat) (w : World)
    (hn : Hid (n = l.length)) (hrow : Row w a l) (hlen : n ≤ 1000000) (hr : r ≤ 1000000) :
    Calls Try.prog 24 #[.slice a n cap, .int .i64 (r : Int)] w fun e w' => e = .returned (.slice (some ⟨w.heap.size, 0, none⟩) n (n + r)) ∧ w'.ownsRow w.heap.size 5 1 (.slice (some ⟨w.heap.size, 0, none⟩) n (n + r)) n (bytesV l) ∧ Below w.heap.size w w' := by
  obtain ⟨i0, hi, hz0, hz1, hz2⟩ := info_parts info5
  have hmk := run_make (P := Try.prog) w 22 5 i0 (.int .u8 0) Try.underlying22 hi hz0 .i64 .i64 (n : Int) ((n : Int) + (r : Int)) (by omega) (by omega) (by rw [hz2]; omega) (by omega)
  rw [show ((n : Int) + (r : Int)).toNat = n + r from by omega, Int.toNat_natCast, hz1, Nat.mul_one, show (Value.int .u8 0).cells = #[.int .u8 0] from rfl] at hmk
  obtain ⟨Z, hZ, hZl⟩ := made_list (n + r)
  rw [hZ] at hmk
  have hbl : (bytesV l).length = n := by rw [bytesV_length]; exact hn.out.symm
  have hcs := row_cells' hrow
  have hone := one_bytes l
  obtain ⟨w2, hcp, hg2, hb2⟩ := copy_made (cap := cap) hbl hZl hcs hone
  generalize bytesV l = C at *
  have HZ := Lib.hid hZl
  have HC := Lib.hid hbl
  have HG := Lib.hid hg2
  clear hbl hZl hZ hcs hone hg2 hi hz0 hz1 hz2
  go_enter Try.func24, Try.ntmps24
  go_wp2_with fail
  go_ret
  refine ⟨rfl, ?_, hb2⟩
  have e1 := HC.out
  have e2 := HZ.out
  refine ⟨by omega, .inr ⟨_, _, _, rfl, Nat.le_refl _, HG.out, by omega, by unfold maxLen; omega, ?_, ?_⟩⟩
  · rw [List.size_toArray, length_splice _ _ _ (by omega)]
    omega
  · simp [splice, ← e1]

theorem withRoom_int (a : Option Addr) (n cap : Nat) (l : List Nat) (R : Int) (r : Nat) (w : World) (hR : R = (r : Int))
    (hn : Hid (n = l.length)) (hrow : Row w a l) (hlen : n ≤ 1000000) (hr : r ≤ 1000000) :
    Calls Try.prog 24 #[.slice a n cap, .int .i64 R] w fun e w' => e = .returned (.slice (some ⟨w.heap.size, 0, none⟩) n (n + r)) ∧ w'.ownsRow w.heap.size 5 1 (.slice (some ⟨w.heap.size, 0, none⟩) n (n + r)) n (bytesV l) ∧ Below w.heap.size w w' := by
  subst hR
  exact withRoom_any a n cap l r w hn hrow hlen hr

/-- a number's lowest k bytes, the lowest first -/
def le (n k : Nat) : List Nat := (List.range k).map fun i => n / 2 ^ (8 * i) % 256

theorem le_succ (n k : Nat) : le n (k + 1) = le n k ++ [n / 2 ^ (8 * k) % 256] := by simp [le, List.range_succ]
theorem le_length (n k : Nat) : (le n k).length = k := by simp [le]
theorem le_lt (n k : Nat) : ∀ x ∈ le n k, x < 256 := by
  intro x hx
  obtain ⟨i, _, rfl⟩ := List.mem_map.1 hx
  exact Nat.mod_lt _ (by omega)

theorem byte_form (v k : Nat) : #[Value.int IntKind.u8 ((v : Int) / 2 ^ (8 * k) % 256)] = (([v / 2 ^ (8 * k) % 256] : List Nat).map fun (n : Nat) => Value.int .u8 (n : Int)).toArray := by
  simp

/-- the end of a call that hands back a row of its own -/
def Owned (base : Nat) (xs : List Nat) (w : World) (e : Ending) (w' : World) : Prop :=
  ∃ a' n' c', e = .returned (.slice a' n' c') ∧ w'.ownsRow base 5 1 (.slice a' n' c') n' (bytesV xs) ∧ Below base w w'

theorem put32_any (base : Nat) (a : Option Addr) (n c : Nat) (xs : List Nat) (v : Nat) (w : World) (_hv : v < 4294967296) (hown : w.ownsRow base 5 1 (.slice a n c) n (bytesV xs)) (hn : n ≤ 100000000) (hbase : base ≤ w.heap.size) :
    Calls Try.prog 23 #[.slice a n c, .int .u32 (v : Int)] w fun e w' => Owned base (xs ++ le v 4) w e w' := by
  have hm : xs.length = n := by have := hown.1; rw [bytesV_length] at this; omega
  have Hm := Lib.hid hm
  clear hm
  go_enter Try.func23, Try.ntmps23
  go_wp2_with fail
  refine (width32 _).mono ?_
  rintro e w1 ⟨rfl, rfl⟩
  go_wp2_with fail
  go_loopw [0, 7] (fun s i wr => ∃ k : Nat, k ≤ 4 ∧ i = .int .i64 k ∧ ∃ a' n' c', s = .slice a' n' c' ∧ wr.ownsRow base 5 1 (.slice a' n' c') n' (bytesV (xs ++ le v k)) ∧ n' ≤ n + k ∧ Below base w wr) (fun _ i _ => 4 - (intOf i).toNat)
  case atStart => exact ⟨0, by omega, rfl, a, n, c, rfl, by simpa [le] using hown, by omega, Below.refl _ _⟩
  case round =>
    obtain ⟨k, hk, rfl, a', n', c', rfl, hown', hle, hnx⟩ := hrel
    have hsz := hnx.size
    by_cases hlt : k < 4
    · have hsc := le_succ v k
      have HS := Lib.hid hsc
      clear hsc
      go_wp2_with (at_builtin; refine wpList_append_bytes rfl (.tmp 10) (.tmp 16) rfl base (.slice a' n' c') n' (xs ++ le v k) rfl (hown'.alloc _) (some ⟨wr.heap.size, 0, none⟩) 1 1 [v / 2 ^ (8 * k) % 256] rfl rfl (by simp) (row_list _ _ _ _ _ (byte_form v k)) (xs ++ le v k ++ [v / 2 ^ (8 * k) % 256]) rfl (by omega) (by simp; omega) ?_; intro a2 n2 c2 w2 hown2 Hn2 hle2 _ _ hb2)
      go_roundw
      case rel => exact ⟨k + 1, by omega, by go_num, a2, n2, c2, rfl, by rw [HS.out, ← List.append_assoc]; exact hown2, by omega, (hnx.alloc (by omega) _).trans hb2⟩
      case measure => simp [intOf]; omega
    · obtain rfl : k = 4 := by omega
      go_wp2_with fail
      go_ret
      exact ⟨a', n', c', rfl, hown', hnx⟩

theorem put64_any (base : Nat) (a : Option Addr) (n c : Nat) (xs : List Nat) (v : Nat) (w : World) (_hv : v < 18446744073709551616) (hown : w.ownsRow base 5 1 (.slice a n c) n (bytesV xs)) (hn : n ≤ 100000000) (hbase : base ≤ w.heap.size) :
    Calls Try.prog 26 #[.slice a n c, .int .u64 (v : Int)] w fun e w' => Owned base (xs ++ le v 8) w e w' := by
  have hm : xs.length = n := by have := hown.1; rw [bytesV_length] at this; omega
  have Hm := Lib.hid hm
  clear hm
  go_enter Try.func26, Try.ntmps26
  go_wp2_with fail
  refine (width64 _).mono ?_
  rintro e w1 ⟨rfl, rfl⟩
  go_wp2_with fail
  go_loopw [0, 7] (fun s i wr => ∃ k : Nat, k ≤ 8 ∧ i = .int .i64 k ∧ ∃ a' n' c', s = .slice a' n' c' ∧ wr.ownsRow base 5 1 (.slice a' n' c') n' (bytesV (xs ++ le v k)) ∧ n' ≤ n + k ∧ Below base w wr) (fun _ i _ => 8 - (intOf i).toNat)
  case atStart => exact ⟨0, by omega, rfl, a, n, c, rfl, by simpa [le] using hown, by omega, Below.refl _ _⟩
  case round =>
    obtain ⟨k, hk, rfl, a', n', c', rfl, hown', hle, hnx⟩ := hrel
    have hsz := hnx.size
    by_cases hlt : k < 8
    · have hsc := le_succ v k
      have HS := Lib.hid hsc
      clear hsc
      go_wp2_with (at_builtin; refine wpList_append_bytes rfl (.tmp 10) (.tmp 16) rfl base (.slice a' n' c') n' (xs ++ le v k) rfl (hown'.alloc _) (some ⟨wr.heap.size, 0, none⟩) 1 1 [v / 2 ^ (8 * k) % 256] rfl rfl (by simp) (row_list _ _ _ _ _ (byte_form v k)) (xs ++ le v k ++ [v / 2 ^ (8 * k) % 256]) rfl (by omega) (by simp; omega) ?_; intro a2 n2 c2 w2 hown2 Hn2 hle2 _ _ hb2)
      go_roundw
      case rel => exact ⟨k + 1, by omega, by go_num, a2, n2, c2, rfl, by rw [HS.out, ← List.append_assoc]; exact hown2, by omega, (hnx.alloc (by omega) _).trans hb2⟩
      case measure => simp [intOf]; omega
    · obtain rfl : k = 8 := by omega
      go_wp2_with fail
      go_ret
      exact ⟨a', n', c', rfl, hown', hnx⟩

theorem put16_any (base : Nat) (a : Option Addr) (n c : Nat) (xs : List Nat) (v : Nat) (w : World) (_hv : v < 65536) (hown : w.ownsRow base 5 1 (.slice a n c) n (bytesV xs)) (hn : n ≤ 100000000) (hbase : base ≤ w.heap.size) :
    Calls Try.prog 28 #[.slice a n c, .int .u16 (v : Int)] w fun e w' => Owned base (xs ++ le v 2) w e w' := by
  have hm : xs.length = n := by have := hown.1; rw [bytesV_length] at this; omega
  have Hm := Lib.hid hm
  clear hm
  go_enter Try.func28, Try.ntmps28
  go_wp2_with fail
  refine (width16 _).mono ?_
  rintro e w1 ⟨rfl, rfl⟩
  go_wp2_with fail
  go_loopw [0, 7] (fun s i wr => ∃ k : Nat, k ≤ 2 ∧ i = .int .i64 k ∧ ∃ a' n' c', s = .slice a' n' c' ∧ wr.ownsRow base 5 1 (.slice a' n' c') n' (bytesV (xs ++ le v k)) ∧ n' ≤ n + k ∧ Below base w wr) (fun _ i _ => 2 - (intOf i).toNat)
  case atStart => exact ⟨0, by omega, rfl, a, n, c, rfl, by simpa [le] using hown, by omega, Below.refl _ _⟩
  case round =>
    obtain ⟨k, hk, rfl, a', n', c', rfl, hown', hle, hnx⟩ := hrel
    have hsz := hnx.size
    by_cases hlt : k < 2
    · have hsc := le_succ v k
      have HS := Lib.hid hsc
      clear hsc
      go_wp2_with (at_builtin; refine wpList_append_bytes rfl (.tmp 10) (.tmp 16) rfl base (.slice a' n' c') n' (xs ++ le v k) rfl (hown'.alloc _) (some ⟨wr.heap.size, 0, none⟩) 1 1 [v / 2 ^ (8 * k) % 256] rfl rfl (by simp) (row_list _ _ _ _ _ (byte_form v k)) (xs ++ le v k ++ [v / 2 ^ (8 * k) % 256]) rfl (by omega) (by simp; omega) ?_; intro a2 n2 c2 w2 hown2 Hn2 hle2 _ _ hb2)
      go_roundw
      case rel => exact ⟨k + 1, by omega, by go_num, a2, n2, c2, rfl, by rw [HS.out, ← List.append_assoc]; exact hown2, by omega, (hnx.alloc (by omega) _).trans hb2⟩
      case measure => simp [intOf]; omega
    · obtain rfl : k = 2 := by omega
      go_wp2_with fail
      go_ret
      exact ⟨a', n', c', rfl, hown', hnx⟩


theorem owns_mono {w : World} {b b' : Nat} {v : Value} {n : Nat} {xs : List Value} (h : w.ownsRow b 5 1 v n xs) (hb : b' ≤ b) : w.ownsRow b' 5 1 v n xs := by
  refine ⟨h.1, ?_⟩
  rcases h.2 with h | ⟨g, cap, cur, h1, h2, h3⟩
  · exact .inl h
  · exact .inr ⟨g, cap, cur, h1, by omega, h3⟩

theorem u32_any (a : Option Addr) (n c : Nat) (l : List Nat) (v : Nat) (w : World) (hv : v < 4294967296)
    (hn : Hid (n = l.length)) (hrow : Row w a l) (hlen : n ≤ 1000000) :
    Calls Try.prog 8 #[.slice a n c, .int .u32 (v : Int)] w fun e w' => Owned w.heap.size (l ++ le v 4) w e w' := by
  go_enter Try.func8, Try.ntmps8
  go_wp2_with fail
  refine (width32 _).mono ?_
  rintro e w1 ⟨rfl, rfl⟩
  go_wp2_with fail
  refine (withRoom_any a n c l 4 w hn hrow hlen (by omega)).mono ?_
  rintro e w1 ⟨rfl, hown, hb1⟩
  go_wp2_with fail
  refine (put32_any w.heap.size _ _ _ l v w1 hv hown (by omega) hb1.size).mono ?_
  rintro e w2 ⟨a', n', c', rfl, hown2, hb2⟩
  go_wp2_with fail
  go_ret
  exact ⟨a', n', c', rfl, hown2, hb1.trans hb2⟩

theorem u64_any (a : Option Addr) (n c : Nat) (l : List Nat) (v : Nat) (w : World) (hv : v < 18446744073709551616)
    (hn : Hid (n = l.length)) (hrow : Row w a l) (hlen : n ≤ 1000000) :
    Calls Try.prog 9 #[.slice a n c, .int .u64 (v : Int)] w fun e w' => Owned w.heap.size (l ++ le v 8) w e w' := by
  go_enter Try.func9, Try.ntmps9
  go_wp2_with fail
  refine (width64 _).mono ?_
  rintro e w1 ⟨rfl, rfl⟩
  go_wp2_with fail
  refine (withRoom_any a n c l 8 w hn hrow hlen (by omega)).mono ?_
  rintro e w1 ⟨rfl, hown, hb1⟩
  go_wp2_with fail
  refine (put64_any w.heap.size _ _ _ l v w1 hv hown (by omega) hb1.size).mono ?_
  rintro e w2 ⟨a', n', c', rfl, hown2, hb2⟩
  go_wp2_with fail
  go_ret
  exact ⟨a', n', c', rfl, hown2, hb1.trans hb2⟩

/-- a string's bytes as numbers -/
def sb (s : ByteArray) : List Nat := s.data.toList.map UInt8.toNat

theorem strCells_sb (s : ByteArray) : Lib.strCells s = bytesV (sb s) := by
  simp [Lib.strCells, bytesV, sb]

theorem sb_length (s : ByteArray) : (sb s).length = s.size := by
  simp [sb]

theorem sb_lt (s : ByteArray) : ∀ n ∈ sb s, n < 256 := by
  intro n hn
  obtain ⟨b, _, rfl⟩ := List.mem_map.1 hn
  exact b.toNat_lt

theorem wpList_append_str {w : World} {ops : Array Oper} {rest : List Oper} {o : Oper} {a : Act} {Q : Exit → Act → World → Prop} (hgd : o.guard = none) (sl x : Operand)
    (ho : o.op = .call { callee := .builtin .append, args := #[sl, x], argTypes := #[22, 9] })
    (base : Nat) (v : Value) (n : Nat) (xs : List Nat) (hs : a.eval sl = v) (hown : w.ownsRow base 5 1 v n (bytesV xs)) (s : ByteArray) (hx : a.eval x = .string s)
    (hbytes : n + s.size ≤ 140737488351232) (hbase : base ≤ w.heap.size)
    (h : ∀ a' n' c' w', w'.ownsRow base 5 1 (.slice a' n' c') n' (bytesV (xs ++ sb s)) → n' ≤ n + s.size → Below base w w' → wpList Try.prog ops Q rest (a.put o.dst (.slice a' n' c')) w') : wpList Try.prog ops Q (o :: rest) a w := by
  obtain ⟨i0, hi, hz0, hz1, hz2⟩ := info_parts info5
  refine Lib.wpList_append_own_string w hgd sl x 22 9 ho base 5 i0 Try.underlying22 Try.underlying9 hi hz0 hz1 hz2 v n (bytesV xs) hs hown s hx (by unfold maxLen; omega) (by omega) hbase fun v' w' h1 h2 _ => ?_
  rw [strCells_sb, ← bytesV_append] at h1
  obtain ⟨a', c', rfl, hn, hr, hc⟩ := row_owned h1
  exact h a' (n + s.size) c' w' h1 (Nat.le_refl _) (below_grown hown h2 hbase)

theorem text_any (a : Option Addr) (n c : Nat) (l : List Nat) (s : ByteArray) (w : World)
    (hn : Hid (n = l.length)) (hrow : Row w a l) (hlen : n ≤ 100000) (hs : s.size ≤ 65535) :
    Calls Try.prog 10 #[.slice a n c, .string s] w fun e w' => ∃ a' n' c', e = .returned (.tuple #[.slice a' n' c', .int .i64 0]) ∧ w'.ownsRow w.heap.size 5 1 (.slice a' n' c') n' (bytesV (l ++ le s.size 2 ++ sb s)) ∧ Below w.heap.size w w' := by
  go_enter Try.func10, Try.ntmps10
  go_wp2_with fail
  refine (width16 _).mono ?_
  rintro e w1 ⟨rfl, rfl⟩
  go_wp2_with fail
  refine (withRoom_int a n c l _ (2 + s.size) w (by omega) hn hrow (by omega) (by omega)).mono ?_
  rintro e w1 ⟨rfl, hown, hb1⟩
  go_wp2_with fail
  refine (put16_any w.heap.size _ _ _ l s.size w1 (by omega) hown (by omega) hb1.size).mono ?_
  rintro e w2 ⟨a2, n2, c2, rfl, hown2, hb2⟩
  have hb2 := hb1.trans hb2
  have hn2 : n2 ≤ 100002 := by have := hown2.1; rw [bytesV_length, List.length_append, le_length] at this; have := hn.out; omega
  go_wp2_with (at_builtin; refine wpList_append_str rfl (.tmp 20) (.tmp 21) rfl w.heap.size (.slice a2 n2 c2) n2 (l ++ le s.size 2) rfl hown2 s rfl (by omega) hb2.size ?_; intro a3 n3 c3 w3 hown3 hle3 hb3)
  go_ret2
  exact ⟨a3, n3, c3, rfl, hown3, hb2.trans hb3⟩

theorem text_long (v : Value) (s : ByteArray) (w : World) (hs : 65535 < s.size) :
    Calls Try.prog 10 #[v, .string s] w fun e w' => e = .returned (.tuple #[.slice none 0 0, .int .i64 3]) ∧ w = w' := by
  go_enter Try.func10, Try.ntmps10
  go_wp2_with fail
  go_ret2
  exact ⟨rfl, rfl⟩

/-- the text of bytes -/
def str (l : List Nat) : ByteArray := ⟨(l.map UInt8.ofNat).toArray⟩

theorem str_size (l : List Nat) : (str l).size = l.length := by simp [str, ByteArray.size]

theorem sb_str {l : List Nat} (h : ∀ n ∈ l, n < 256) : sb (str l) = l := by
  unfold sb str
  rw [List.toList_toArray, List.map_map]
  conv => rhs; rw [← List.map_id l]
  refine List.map_congr_left fun n hn => ?_
  have := h n hn
  simp only [Function.comp_apply, UInt8.toNat_ofNat', id_eq]
  omega

theorem str_sb (s : ByteArray) : str (sb s) = s := by
  cases s with
  | mk d =>
    unfold sb str
    rw [List.map_map]
    have : (UInt8.ofNat ∘ UInt8.toNat) = id := by funext x; simp
    rw [this]
    simp

theorem str_inj {l k : List Nat} (hl : ∀ n ∈ l, n < 256) (hk : ∀ n ∈ k, n < 256) : str l = str k ↔ l = k := by
  constructor
  · intro h
    rw [← sb_str hl, ← sb_str hk, h]
  · intro h; rw [h]

theorem str_append (l k : List Nat) : str (l ++ k) = str l ++ str k := by
  simp [str]
  rfl

/-- string(b) -/
theorem conv_row {w : World} {a : Option Addr} {n : Nat} {l : List Nat} (hn : n = l.length) (hrow : Row w a l) (hl : ∀ x ∈ l, x < 256) (c : Nat) :
    (convert 22 9 (.slice a n c)).run Try.prog w = .ok (.string (str l)) w := by
  subst hn
  have hlen : l.length = (l.map UInt8.ofNat).length := by simp
  cases a with
  | none =>
    rcases hrow with rfl | ⟨b, off, e, _⟩
    · exact run_convert_bytes_nil w 22 5 Try.underlying22 Try.underlying5 0 c 9 Try.underlying9
    · cases e
  | some ad =>
    have h := run_convert_bytes_back (P := Try.prog) w 22 9 5 ad c (l.map UInt8.ofNat) Try.underlying22 Try.underlying5 Try.underlying9 (fun j hj => by
      have hj2 : j < l.length := by simpa using hj
      have hc := row_cells hrow j (.int .u8 ((l[j] : Nat) : Int)) (by simp [bytesV, hj2])
      rw [hc]
      have hb := hl l[j] (by simp)
      simp only [List.getElem_map, UInt8.toNat_ofNat']
      congr 2
      omega)
    rw [← hlen] at h
    exact h

theorem owned_row {w : World} {base : Nat} {a : Option Addr} {n c : Nat} {xs : List Nat} (h : w.ownsRow base 5 1 (.slice a n c) n (bytesV xs)) :
    Hid (n = xs.length) ∧ Row w a xs ∧ Hid (a = none → c = 0) := by
  obtain ⟨a', c', e, hn, hr, hc⟩ := row_owned h
  simp only [Value.slice.injEq, true_and] at e
  obtain ⟨rfl, rfl⟩ := e
  exact ⟨hn, hr, hc⟩

theorem awake_any (w : World) : Calls Try.prog 13 #[] w fun e w' => e = .returned (.bool true) ∧ Below w.heap.size w w' := by
  go_enter Try.func13, Try.ntmps13
  go_wp2_with fail
  refine (u32_any none 0 0 [] 1 _ (by omega) rfl (.inl rfl) (by omega)).mono ?_
  rintro e w1 ⟨a1, n1, c1, rfl, hown1, hb1⟩
  obtain ⟨hn1, hr1, _⟩ := owned_row hown1
  have hle : n1 ≤ 4 := by rw [hn1.out]; simp [le_length]
  clear hown1
  go_wp2_with fail
  refine (text_any a1 n1 c1 _ _ w1 hn1 hr1 (by omega) (by decide)).mono ?_
  rintro e w2 ⟨a2, n2, c2, rfl, hown2, hb2⟩
  obtain ⟨hn2, hr2, _⟩ := owned_row hown2
  clear hown2
  have hcv := conv_row hn2.out hr2 (app_lt (app_lt (app_lt (by simp) (le_lt _ _)) (le_lt _ _)) (sb_lt _)) c2
  generalize hZ : [] ++ le 1 4 ++ le (ByteArray.size _) 2 ++ sb _ = Z at *
  have hz : ((str Z).toList == [1, 0, 0, 0, 2, 0, 97, 98]) = true := by rw [← hZ]; decide +kernel
  clear hZ
  go_wp2_with fail
  go_ret
  exact ⟨rfl, hb1.trans (hb2.mono hb1.size)⟩

/-- numbers of k bytes are told by them -/
theorem le_inj (k : Nat) : ∀ a b : Nat, le a k = le b k → a % 2 ^ (8 * k) = b % 2 ^ (8 * k) := by
  induction k with
  | zero => intro a b _; simp [Nat.mod_one]
  | succ k ih =>
    intro a b h
    rw [le_succ, le_succ] at h
    have h2 := List.append_inj' h rfl
    have h3 := ih a b h2.1
    have h4 : a / 2 ^ (8 * k) % 256 = b / 2 ^ (8 * k) % 256 := by simpa using h2.2
    rw [show 8 * (k + 1) = 8 * k + 8 from by omega, Nat.pow_add, Nat.mod_mul, Nat.mod_mul, h3, show (2 : Nat) ^ 8 = 256 from rfl, h4]

theorem toList_inj {a b : ByteArray} (h : a.toList = b.toList) : a = b := by
  rw [ByteArray.toList_eq, ByteArray.toList_eq] at h
  exact ByteArray.ext (Array.toList_inj.1 h)

theorem toList_ne {a b : ByteArray} (h : a ≠ b) : (a.toList == b.toList) = false := by
  rw [beq_eq_false_iff_ne]
  exact fun e => h (toList_inj e)

theorem sizes_any (x y : Nat) (s : ByteArray) (w : World) (hx : x < 18446744073709551616) (hy : y < 18446744073709551616) :
    Calls Try.prog 7 #[.int .u64 (x : Int), .int .u64 (y : Int), .string s] w fun e w' => e = .returned (.bool true) ∧ Below w.heap.size w w' := by
  by_cases h1 : 300 < s.size
  · go_enter Try.func7, Try.ntmps7
    go_wp2_with fail
    go_ret
    exact ⟨rfl, Below.refl _ _⟩
  · go_enter Try.func7, Try.ntmps7
    go_wp2_with fail
    refine (u64_any none 0 0 [] x _ hx rfl (.inl rfl) (by omega)).mono ?_
    rintro e w1 ⟨a1, n1, c1, rfl, hown1, hb1⟩
    obtain ⟨hn1, hr1, _⟩ := owned_row hown1
    clear hown1
    go_wp2_with fail
    refine (u64_any none 0 0 [] y _ hy rfl (.inl rfl) (by omega)).mono ?_
    rintro e w2 ⟨a2, n2, c2, rfl, hown2, hb2⟩
    obtain ⟨hn2, hr2, _⟩ := owned_row hown2
    clear hown2
    have hr1 := hr1.below hb2
    have hb2 := hb1.trans (hb2.mono hb1.size)
    clear hb1
    go_wp2_with fail
    refine (text_any none 0 0 [] s _ rfl (.inl rfl) (by omega) (by omega)).mono ?_
    rintro e w3 ⟨a3, n3, c3, rfl, hown3, hb3⟩
    obtain ⟨hn3, hr3, _⟩ := owned_row hown3
    clear hown3
    have hr1 := hr1.below hb3
    have hr2 := hr2.below hb3
    have hb3 := hb2.trans (hb3.mono hb2.size)
    clear hb2
    have k1 : n1 = 8 := by rw [hn1.out]; simp [le_length]
    have k2 : n2 = 8 := by rw [hn2.out]; simp [le_length]
    have k3 : n3 = s.size + 2 := by rw [hn3.out]; simp [le_length, sb_length]; omega
    subst k1 k2 k3
    go_wp2_with fail
    rw [show ((x : Int) % 4294967296) = ((x % 4294967296 : Nat) : Int) from by omega]
    refine (u32_any none 0 0 [] _ _ (by omega) rfl (.inl rfl) (by omega)).mono ?_
    rintro e w4 ⟨a4, n4, c4, rfl, hown4, hb4⟩
    obtain ⟨hn4, _, _⟩ := owned_row hown4
    clear hown4
    have k4 : n4 = 4 := by rw [hn4.out]; simp [le_length]
    subst k4
    have v1 := conv_row hn1.out (hr1.below hb4) (app_lt (by simp) (le_lt _ _)) c1
    have v2 := conv_row hn2.out (hr2.below hb4) (app_lt (by simp) (le_lt _ _)) c2
    have hb4 := hb3.trans (hb4.mono hb3.size)
    clear hb3
    have hsi : str ([] ++ le x 8) = str ([] ++ le y 8) ↔ x = y := by
      rw [str_inj (app_lt (by simp) (le_lt _ _)) (app_lt (by simp) (le_lt _ _)), List.nil_append, List.nil_append]
      constructor
      · intro h
        have := le_inj 8 x y h
        omega
      · intro h; rw [h]
    by_cases hxy : x = y
    · subst hxy
      clear hsi
      go_wp2_with fail
      refine (awake_any _).mono ?_
      rintro e w5 ⟨rfl, hb5⟩
      have hb5 := hb4.trans (hb5.mono hb4.size)
      go_wp2_with fail
      go_ret
      exact ⟨rfl, hb5⟩
    · have hne : str ([] ++ le x 8) ≠ str ([] ++ le y 8) := fun e => hxy (hsi.1 e)
      clear hsi
      have t2 : ((x : Int) == (y : Int)) = false := by rw [beq_eq_false_iff_ne]; omega
      have t1 := toList_ne hne
      generalize str ([] ++ le x 8) = S1 at *
      generalize str ([] ++ le y 8) = S2 at *
      clear hne
      go_wp2_with fail
      refine (awake_any _).mono ?_
      rintro e w5 ⟨rfl, hb5⟩
      have hb5 := hb4.trans (hb5.mono hb4.size)
      go_wp2_with fail
      go_ret
      exact ⟨rfl, hb5⟩

end Go.Proofs.Ytppboldeocjbhab
