/-
  sum: the hash of files' bytes, one behind the other (its figures, the hash, slices.Concat).
-/
import Derived.Test.YtgledabcfonbeaaGreatDoorCkDone
import Derived.Laws.BitsAllLaws
import Derived.Test.YtgledabcfonbeaaGreatDoorCkRepShelf
namespace Go.Proofs.YtgledabcfonbeaaGreatDoor.Df
open Go.RowKit Go.Maps Go.Proofs.YtgledabcfonbeaaGreatDoor

/-- the table of the bits package, where it is read -/
def Tz (w : World) : Prop := w.cell? ⟨3, 15, none⟩ = some (.int .u8 4) ∧ 3 < w.heap.size
theorem Tz.below {w w' : World} (h : Tz w) (hb : Below w.heap.size w w') : Tz w' := ⟨(cell_of_block (hb.block 3 h.2)).trans h.1, Nat.lt_of_lt_of_le h.2 hb.size⟩

theorem isPow_c (w : World) : Calls Tryz.prog 106 #[.int .i64 16] w fun e w' => e = .returned (.bool true) ∧ w' = w := by
  go_enter Tryz.func106, Tryz.ntmps106
  go_wp2_with fail
  go_ret
  exact ⟨rfl, rfl⟩
theorem tz64_c {w : World} (h : Tz w) : Calls Tryz.prog 117 #[.int .u64 16] w fun e w' => e = .returned (.int .i64 4) ∧ w' = w := by
  have h0 := h.1
  have h1 : bits BinOp.and IntKind.u64 16 (IntKind.u64.wrap (-16)) = 16 := by kernel_rfl
  have h2 : IntKind.u64.wrap (16 * 285870213051353865) = 4573923408821661840 := by kernel_rfl
  go_enter Tryz.func117, Tryz.ntmps117
  go_wp2_with fail
  go_ret
  exact ⟨rfl, rfl⟩
theorem tz_c {w : World} (h : Tz w) : Calls Tryz.prog 107 #[.int .u64 16] w fun e w' => e = .returned (.int .i64 4) ∧ w' = w := by
  have h0 := tz64_c h
  go_enter Tryz.func107, Tryz.ntmps107
  go_wp2_with fail
  refine h0.mono ?_
  rintro e w1 ⟨rfl, rfl⟩
  go_wp2_with fail
  go_ret
  exact ⟨rfl, rfl⟩

/-- a figure; the figures of a number -/
def dg (d : Nat) : UInt8 := if d < 10 then UInt8.ofNat (48 + d) else UInt8.ofNat (87 + d)
def hexG : Nat → Nat → Bs → Bs
  | 0, _, acc => acc
  | f + 1, u, acc => if 16 ≤ u then hexG f (u / 16) (dg (u % 16) :: acc) else dg u :: acc
def hexB (u : Nat) : Bs := hexG 16 u []
theorem hexG_len : ∀ (f u : Nat) (acc : Bs), (hexG f u acc).length ≤ f + acc.length
  | 0, _, acc => by show acc.length ≤ _; omega
  | f + 1, u, acc => by
    show (if 16 ≤ u then hexG f (u / 16) (dg (u % 16) :: acc) else dg u :: acc).length ≤ _
    split
    · have := hexG_len f (u / 16) (dg (u % 16) :: acc)
      simp only [List.length_cons] at this
      omega
    · simp only [List.length_cons]
      omega
theorem hexB_len (u : Nat) : (hexB u).length ≤ 16 := hexG_len 16 u []
theorem drop_set (L : List Value) (n : Nat) (v : Value) (hL : L.length = 65) (hn : n ≤ 64) : (L.set (64 - n) v).drop (64 - n) = v :: L.drop (65 - n) := by
  have h1 : 64 - n < (L.set (64 - n) v).length := by rw [List.length_set]; omega
  rw [List.drop_eq_getElem_cons h1, List.getElem_set_self]
  congr 1
  rw [show 64 - n + 1 = 65 - n by omega, List.drop_set, if_pos (by omega)]

theorem dig_at {d : Nat} (h : d < 16) (h2 : d < (⟨#[48, 49, 50, 51, 52, 53, 54, 55, 56, 57, 97, 98, 99, 100, 101, 102, 103, 104, 105, 106, 107, 108, 109, 110, 111, 112, 113, 114, 115, 116, 117, 118, 119, 120, 121, 122]⟩ : ByteArray).size) : (⟨#[48, 49, 50, 51, 52, 53, 54, 55, 56, 57, 97, 98, 99, 100, 101, 102, 103, 104, 105, 106, 107, 108, 109, 110, 111, 112, 113, 114, 115, 116, 117, 118, 119, 120, 121, 122]⟩ : ByteArray)[d]'h2 = dg d := by
  have : d = 0 ∨ d = 1 ∨ d = 2 ∨ d = 3 ∨ d = 4 ∨ d = 5 ∨ d = 6 ∨ d = 7 ∨ d = 8 ∨ d = 9 ∨ d = 10 ∨ d = 11 ∨ d = 12 ∨ d = 13 ∨ d = 14 ∨ d = 15 := by omega
  rcases this with rfl | rfl | rfl | rfl | rfl | rfl | rfl | rfl | rfl | rfl | rfl | rfl | rfl | rfl | rfl | rfl <;> rfl
theorem slice65 (W : World) (g n : Nat) (hn : n ≤ 15) : (Instr.sliceAt 161 (.pointer (some ⟨g, 0, none⟩)) (some (.int .i64 ((64 - n : Nat) : Int))) none none).run Tryz.prog W = .ok (.slice (some ⟨g, 64 - n, none⟩) (n + 1) (n + 1)) W := by
  have hl : Tryz.prog.arrayLen 161 = 65 := by kernel_rfl
  rw [run_sliceAt_array_l W 161 ⟨g, 0, none⟩ (by kernel_rfl) .i64 _ (by omega) (by rw [hl]; omega), hl]
  have hs : (sizeOf (Tryz.prog.elem 161)).run Tryz.prog W = .ok 1 W := by
    rw [show Tryz.prog.elem 161 = 5 by kernel_rfl]
    simp [Tryz.sizeOf5]
  rw [hs]
  show Result.ok (slicedAt ⟨g, 0, none⟩ ((64 - n : Nat) : Int).toNat 65 65 1) W = _
  unfold slicedAt
  rw [Int.toNat_natCast, if_neg (by omega), Nat.mul_one, Go.WideShapes.add_plain, Nat.zero_add, show 65 - (64 - n) = n + 1 by omega]
theorem and15 {y : Nat} (hy : y < 18446744073709551616) : bits BinOp.and IntKind.u64 (y : Int) 15 = ((y % 16 : Nat) : Int) := by
  have h1 := ofInt_u64 y hy
  show IntKind.u64.wrap ((BitVec.ofInt 64 (y : Int) &&& BitVec.ofInt 64 15).toNat : Int) = _
  rw [BitVec.toNat_and, h1, IntKind.wrap_u64, show (BitVec.ofInt 64 15).toNat = 2 ^ 4 - 1 from rfl, Nat.and_two_pow_sub_one_eq_mod]
  omega
/-- what holds of the loop that writes figures -/
def HxR (w : World) (g x : Nat) (u i : Value) (wr : World) : Prop := ∃ (n y : Nat) (acc : Bs) (C : Array Value), n ≤ 15 ∧ u = .int .u64 y ∧ i = .int .i64 ((65 - n : Nat) : Int) ∧ Hid (acc.length = n ∧ y < 16 ^ (16 - n) ∧ hexG (16 - n) y acc = hexB x) ∧ Hid (wr.heap[g]? = some (.cells C 161 (0, 0))) ∧ Hid (C.size = 65 ∧ C.toList.drop (65 - n) = bytesV acc) ∧ Hid (Below w.heap.size w wr)

set_option maxRecDepth 100000 in
set_option maxHeartbeats 8000000 in
theorem bits_c {w : World} {x : Nat} (hx : x < 18446744073709551616) (h : Tz w) : Calls Tryz.prog 92 #[.slice none 0 0, .int .u64 x, .int .i64 16, .bool false, .bool false] w fun e w' => e = .returned (.tuple #[.slice none 0 0, .string (mk (hexB x))]) ∧ Below w.heap.size w w' := by
  have HA := Lib.hid (below_alloc w (.cells Tryz.zeroCells161 161))
  have HN := Lib.hid (heap_alloc_new w (.cells Tryz.zeroCells161 161))
  go_enter Tryz.func92, Tryz.ntmps92
  go_wp2_with fail
  refine (isPow_c _).mono ?_
  rintro e w2 ⟨rfl, rfl⟩
  go_wp2_with fail
  refine (tz_c (h.below (below_alloc _ _))).mono ?_
  rintro e w2 ⟨rfl, rfl⟩
  go_wp2_with fail
  go_loopw [1, 13] (fun u i wr => HxR w w.heap.size x u i wr) (fun _ i _ => (intOf i).toNat)
  case atStart => exact ⟨0, x, [], _, by omega, rfl, rfl, Lib.hid ⟨rfl, hx, rfl⟩, HN, Lib.hid ⟨rfl, rfl⟩, HA⟩
  case round =>
    obtain ⟨n, y, acc, C, hn, rfl, rfl, hA, hH, hC, hB⟩ := hrel
    have e1 : ((65 - n : Nat) : Int) - 1 = ((64 - n : Nat) : Int) := by omega
    have e2 : (0 : Int) ≤ ((64 - n : Nat) : Int) := by omega
    have e3 : ((64 - n : Nat) : Int) < 65 := by omega
    have hCs := hC.out.1
    have ck : wr.cell? ⟨w.heap.size, 64 - n, none⟩ = some (C[64 - n]'(by omega)) := (cell_of_heap hH.out).trans (Array.getElem?_eq_getElem (by omega))
    have zk : wr.frozen? ⟨w.heap.size, 64 - n, none⟩ = false := by simp [World.frozen?, hH.out]
    generalize C[64 - n]'(by omega) = old at ck
    have key : ∀ d, (wr.setCell ⟨w.heap.size, 64 - n, none⟩ (.int .u8 ((dg d).toNat : Int))).heap[w.heap.size]? = some (.cells (C.setIfInBounds (64 - n) (.int .u8 ((dg d).toNat : Int))) 161 (0, 0)) ∧ (C.setIfInBounds (64 - n) (.int .u8 ((dg d).toNat : Int))).size = 65 ∧ (C.setIfInBounds (64 - n) (.int .u8 ((dg d).toNat : Int))).toList.drop (64 - n) = bytesV (dg d :: acc) ∧ Below w.heap.size w (wr.setCell ⟨w.heap.size, 64 - n, none⟩ (.int .u8 ((dg d).toNat : Int))) := fun d => by
      have hB := hB.out
      refine ⟨set_block hH.out, by rw [Array.size_setIfInBounds]; exact hCs, ?_, ⟨hB.os, hB.tape, hB.output, by rw [World.size_setCell]; exact hB.size, fun q hq => (set_other (by omega)).trans (hB.block q hq)⟩⟩
      rw [Array.toList_setIfInBounds, drop_set _ _ _ (by rw [Array.length_toList]; exact hCs) (by omega), hC.out.2]
      rfl
    have KEY := Lib.hid key
    clear key hCs
    by_cases hlt : 16 ≤ y
    · have hlti : (16 : Int) ≤ (y : Int) := by omega
      have hb : bits BinOp.and IntKind.u64 (y : Int) 15 = ((y % 16 : Nat) : Int) := and15 (by
        have h2 := hA.out.2.1
        have h3 : (16 : Nat) ^ (16 - n) ≤ 16 ^ 16 := Nat.pow_le_pow_right (by decide) (by omega)
        have h4 : (16 : Nat) ^ 16 = 18446744073709551616 := rfl
        omega)
      obtain ⟨d, hd⟩ : ∃ d, y % 16 = d := ⟨_, rfl⟩
      rw [hd] at hb
      have hd16 : d < 16 := by omega
      have HD := Lib.hid hd
      have HLT := Lib.hid hlt
      clear hd hlt
      go_wp2_with fail
      go_roundw
      case rel =>
        rw [dig_at hd16]
        obtain ⟨i1, i2, i3, i4⟩ := KEY.out d
        obtain ⟨k1, k2, k3⟩ := hA.out
        have hl := HLT.out
        have hn14 : n ≤ 14 := by
          by_cases h15 : n = 15
          · rw [h15] at k2
            have : (16 : Nat) ^ (16 - 15) = 16 := rfl
            omega
          · omega
        have hf : 16 - n = (15 - n) + 1 := by omega
        refine ⟨n + 1, y / 16, dg d :: acc, _, by omega, by go_num, by rw [show 65 - (n + 1) = 64 - n by omega], Lib.hid ⟨by rw [List.length_cons, k1], ?_, ?_⟩, Lib.hid i1, Lib.hid ⟨i2, by rw [show 65 - (n + 1) = 64 - n by omega]; exact i3⟩, Lib.hid i4⟩
        · rw [hf, Nat.pow_succ] at k2
          rw [show 16 - (n + 1) = 15 - n by omega]
          omega
        · rw [← k3, show 16 - (n + 1) = 15 - n by omega, hf]
          show _ = (if 16 ≤ y then hexG (15 - n) (y / 16) (dg (y % 16) :: acc) else dg y :: acc)
          rw [if_pos hl, HD.out]
      case measure => simp [intOf] <;> omega
    · have hlti : ¬ (16 : Int) ≤ (y : Int) := by omega
      have hy16 : y < 16 := by omega
      have hsl := fun W => slice65 W w.heap.size n hn
      have hv := fun h2 => dig_at hy16 h2
      have hcv : (convert 24 9 (.slice (some ⟨w.heap.size, 64 - n, none⟩) (n + 1) (n + 1))).run Tryz.prog (wr.setCell ⟨w.heap.size, 64 - n, none⟩ (.int .u8 ((dg y).toNat : Int))) = .ok (.string (mk (hexB x))) (wr.setCell ⟨w.heap.size, 64 - n, none⟩ (.int .u8 ((dg y).toNat : Int))) := by
        obtain ⟨i1, i2, i3, i4⟩ := KEY.out y
        obtain ⟨k1, k2, k3⟩ := hA.out
        have e : hexB x = dg y :: acc := by
          rw [← k3, show 16 - n = (15 - n) + 1 by omega]
          show (if 16 ≤ y then hexG (15 - n) (y / 16) (dg (y % 16) :: acc) else dg y :: acc) = _
          rw [if_neg hlt]
        rw [e]
        have hlen : n + 1 = (dg y :: acc).length := by rw [List.length_cons, k1]
        rw [hlen]
        refine conv_byt ⟨_, _, rfl, Nat.le_refl _, (fun e => by cases e), .inr ⟨_, _, rfl, lt_some i1, fun j z hz => ?_⟩⟩
        rw [cell_of_heap i1]
        have h1 : (bytesV (dg y :: acc))[j]? = some (.int .u8 (z.toNat : Int)) := by
          unfold bytesV
          rw [List.getElem?_map, hz]
          rfl
        rw [← i3, List.getElem?_drop, Array.getElem?_toList] at h1
        exact h1
      clear hlt
      go_wp2_with fail
      go_ret2
      exact ⟨rfl, (KEY.out y).2.2.2⟩

theorem fmtI_c {w : World} {x : Nat} (hx : x < 18446744073709551616) (h : Tz w) : Calls Tryz.prog 74 #[.int .u64 x, .int .i64 16] w fun e w' => e = .returned (.string (mk (hexB x))) ∧ Below w.heap.size w w' := by
  have hc := bits_c hx h
  go_enter Tryz.func74, Tryz.ntmps74
  go_wp2_with fail
  refine hc.mono ?_
  rintro e w1 ⟨rfl, hb⟩
  go_wp2_with fail
  go_ret
  exact ⟨rfl, hb⟩
theorem fmt_c {w : World} {x : Nat} (hx : x < 18446744073709551616) (h : Tz w) : Calls Tryz.prog 64 #[.int .u64 x, .int .i64 16] w fun e w' => e = .returned (.string (mk (hexB x))) ∧ Below w.heap.size w w' := by
  have hc := fmtI_c hx h
  go_enter Tryz.func64, Tryz.ntmps64
  go_wp2_with fail
  refine hc.mono ?_
  rintro e w1 ⟨rfl, hb⟩
  go_wp2_with fail
  go_ret
  exact ⟨rfl, hb⟩

def hashS (h : Nat) (x : UInt8) : Nat := ((h ^^^ x.toNat) * 1099511628211) % 18446744073709551616
def hashN (b : Bs) : Nat := b.foldl hashS 14695981039346656037
theorem hashN_lt : ∀ (b : Bs) (h : Nat), h < 18446744073709551616 → b.foldl hashS h < 18446744073709551616
  | [], _, hh => hh
  | _ :: b, _, _ => hashN_lt b _ (Nat.mod_lt _ (by decide))
theorem hash_lt (b : Bs) : hashN b < 18446744073709551616 := hashN_lt b _ (by decide)
theorem xor_lt64 {a b : Nat} (ha : a < 18446744073709551616) (hb : b < 256) : a ^^^ b < 18446744073709551616 := Nat.xor_lt_two_pow (n := 64) ha (by omega)

theorem step_c (h : Nat) (x : UInt8) (a : Addr) (w : World) (hh : h < 18446744073709551616) (hc : w.cell? a = some (.int .u64 1099511628211)) :
    Calls Tryz.prog 93 #[.int .u64 (h : Int), .int .u8 (x.toNat : Int), .pointer (some a)] w fun e w' => e = .returned (.int .u64 (hashS h x : Int)) ∧ w' = w := by
  have hx : x.toNat < 256 := x.toNat_lt
  have hxr : bits .xor .u64 (h : Int) (x.toNat : Int) = ((h ^^^ x.toNat : Nat) : Int) := u64_xor_nat h x.toNat hh (by omega)
  have hw : IntKind.u64.wrap (((h ^^^ x.toNat : Nat) : Int) * 1099511628211) = (hashS h x : Int) := by
    rw [IntKind.wrap_u64]
    unfold hashS
    omega
  go_enter Tryz.func93, Tryz.ntmps93
  go_wp2_with fail
  go_ret
  first | exact ⟨rfl, rfl⟩ | exact ⟨by rw [hw], rfl⟩

theorem mult_c (w : World) : Calls Tryz.prog 76 #[.int .u64 1099511628211] w fun e w' => e = .returned (.func (.func 93) #[] #[.pointer (some ⟨w.heap.size, 0, none⟩)]) ∧ w.alloc (.cells #[.int .u64 1099511628211] 92) = w' := by
  go_enter Tryz.func76, Tryz.ntmps76
  go_wp2_with fail
  go_ret
  exact ⟨rfl, rfl⟩

/-- the hash of the first k bytes -/
def hashK (b : Bs) (k : Nat) : Nat := (b.take k).foldl hashS 14695981039346656037
theorem hashK_zero (b : Bs) : hashK b 0 = 14695981039346656037 := by unfold hashK; rw [List.take_zero, List.foldl_nil]
theorem hashK_end (b : Bs) : hashK b b.length = hashN b := by unfold hashK hashN; rw [List.take_length]
theorem hashK_succ {b : Bs} {k : Nat} {x : UInt8} (hx : b[k]? = some x) : hashK b (k + 1) = hashS (hashK b k) x := by
  unfold hashK
  rw [List.take_add_one, hx, List.foldl_append, Option.toList_some, List.foldl_cons, List.foldl_nil]
theorem hashK_lt (b : Bs) (k : Nat) : hashK b k < 18446744073709551616 := hashN_lt _ _ (by decide)
def FoR (b : Bs) (w : World) (u i : Value) (wr : World) : Prop := ∃ k : Nat, k ≤ b.length ∧ i = .int .i64 k ∧ u = .int .u64 (hashK b k : Int) ∧ wr = w
set_option maxRecDepth 100000 in
set_option maxHeartbeats 4000000 in
theorem fold_c {w : World} {v : Value} {b : Bs} (hby : Byt w v b) (hl : b.length ≤ 9223372036854775807) (c : Addr) (hc : w.cell? c = some (.int .u64 1099511628211)) :
    Calls Tryz.prog 75 #[.int .u64 14695981039346656037, v, .func (.func 93) #[] #[.pointer (some c)]] w fun e w' => e = .returned (.int .u64 (hashN b : Int)) ∧ w' = w := by
  have H := Lib.hid hby
  have HZ : Hid (Value.int .u64 14695981039346656037 = .int .u64 (hashK b 0 : Int)) := Lib.hid (by rw [hashK_zero]; rfl)
  obtain ⟨a, cap, rfl, -, -, -⟩ := hby
  go_enter Tryz.func75, Tryz.ntmps75
  go_wp2_with fail
  go_loopw [0, 11] (fun u i wr => FoR b w u i wr) (fun _ i _ => b.length - (intOf i).toNat)
  case atStart => exact ⟨0, Nat.zero_le _, rfl, HZ.out, rfl⟩
  case round =>
    obtain ⟨k, hk, rfl, rfl, rfl⟩ := hrel
    by_cases hlt : k < b.length
    · have hx := List.getElem?_eq_getElem hlt
      generalize b[k] = x at *
      have hnext := hashK_succ hx
      have hn := hashK_lt b k
      obtain ⟨a0, c0, e, -, -, hrow⟩ := H.out
      cases e
      have hg : ∃ g off, a = some ⟨g, off, none⟩ ∧ wr.cell? ⟨g, off + k, none⟩ = some (.int .u8 (x.toNat : Int)) := by
        rcases hrow with h | ⟨g, off, e, _, hcell⟩
        · rw [h] at hlt; exact absurd hlt (Nat.not_lt_zero _)
        · exact ⟨g, off, e, hcell k x hx⟩
      obtain ⟨g, off, rfl, ck⟩ := hg
      have hi0 : (0 : Int) ≤ (k : Int) := by omega
      have hi1 : (k : Int) < (b.length : Int) := by omega
      have hst := step_c (hashK b k) x c wr hn hc
      rw [← hnext] at hst
      generalize hashK b k = n at *
      obtain ⟨n2, hn2⟩ : ∃ n2, hashK b (k + 1) = n2 := ⟨_, rfl⟩
      rw [hn2] at hst
      have HN := Lib.hid hn2
      clear hrow hx hnext hn2
      go_wp2_with fail
      refine hst.mono ?_
      rintro e w1 ⟨rfl, rfl⟩
      clear hst
      go_wp2_with fail
      go_roundw
      case rel => exact ⟨k + 1, by omega, by go_num, by rw [HN.out], rfl⟩
      case measure => simp [intOf] <;> omega
    · obtain rfl : k = b.length := by omega
      rw [hashK_end]
      go_wp2_with fail
      go_ret
      exact ⟨rfl, rfl⟩
theorem hash_c {w : World} {v : Value} {b : Bs} (hby : Byt w v b) (hl : b.length ≤ 9223372036854775807) :
    Calls Tryz.prog 65 #[v] w fun e w' => e = .returned (.int .u64 (hashN b : Int)) ∧ Below w.heap.size w w' := by
  have hf := fold_c (hby.below (below_alloc w (.cells #[.int .u64 1099511628211] 92))) hl ⟨w.heap.size, 0, none⟩ (cell_new _ _ _)
  have hb := below_alloc w (.cells #[.int .u64 1099511628211] 92)
  go_enter Tryz.func65, Tryz.ntmps65
  go_wp2_with fail
  refine (mult_c _).mono ?_
  rintro e w1 ⟨rfl, rfl⟩
  go_wp2_with fail
  refine hf.mono ?_
  rintro e w1 ⟨rfl, rfl⟩
  go_wp2_with fail
  go_ret
  exact ⟨rfl, hb⟩

theorem below_drew (b : Nat) (w : World) : Below b w w.drew := ⟨rfl, rfl, rfl, Nat.le_refl _, fun _ _ => rfl⟩
set_option maxRecDepth 100000 in
set_option maxHeartbeats 4000000 in
theorem grow_c (w : World) (n : Nat) (hn : n ≤ 1000000) : Calls Tryz.prog 77 #[.slice none 0 0, .int .i64 n] w fun e w' => ∃ a c, e = .returned (.slice a 0 c) ∧ w'.ownsRow w.heap.size 5 1 (.slice a 0 c) 0 [] ∧ Below w.heap.size w w' := by
  by_cases h0 : n = 0
  · subst h0
    go_enter Tryz.func77, Tryz.ntmps77
    go_wp2_with fail
    go_ret
    exact ⟨none, 0, rfl, World.ownsRow_nil _ _ _ _, Below.refl _ _⟩
  · have h1 : (0 : Int) < (n : Int) := by omega
    have h2 : ¬ (n : Int) < 0 := by omega
    have h3 : 0 < n := by omega
    have hbt : Tryz.t5.bytes = 1 := by kernel_rfl
    have hns := nextslicecap_zero h3
    have hov : ¬ 281474976710656 < n := by omega
    have hov2 : (n : Int) ≤ 281474976710656 := by omega
    have hov3 : (n : Int) ≤ 9223372036854775807 := by omega
    have hov4 : (0 : Int) ≤ (n : Int) := by omega
    go_enter Tryz.func77, Tryz.ntmps77
    go_wp2_with fail
    go_ret
    refine ⟨_, _, rfl, World.ownsRow_made w _ _ (Nat.le_refl _) (grownCap_le_maxLen w n 0 5 (by unfold maxLen; omega)) ?_, (below_alloc w _).trans (below_drew _ _)⟩
    have := grownCap_ge w n 0 5
    unfold grownCap at this
    rw [Array.size_append, size_zeroCells, size_zeroCells]
    show n * 1 + _ * 1 = _ * 1
    omega

/-- the bytes of parts, one behind the other -/
def catP (P : List (Value × Bs)) : Bs := (P.map Prod.snd).flatten
theorem catP_nil : catP [] = [] := rfl
theorem catP_take {P : List (Value × Bs)} {k : Nat} {p : Value × Bs} (h : P[k]? = some p) : catP (P.take (k + 1)) = catP (P.take k) ++ p.2 := by
  unfold catP
  rw [List.take_add_one, h]
  simp
theorem catP_len (P : List (Value × Bs)) (k : Nat) : (catP (P.take k)).length ≤ (catP P).length := by
  have e : catP P = catP (P.take k) ++ catP (P.drop k) := by
    unfold catP
    rw [← List.flatten_append, ← List.map_append, List.take_append_drop]
  rw [e, List.length_append]
  omega
/-- a slice of parts -/
def Pts (w : World) (v : Value) (P : List (Value × Bs)) : Prop :=
  ∃ a c, v = .slice a P.length c ∧ (P = [] ∨ ∃ g off, a = some ⟨g, off, none⟩ ∧ g < w.heap.size ∧ ∀ (j : Nat) p, P[j]? = some p → w.cell? ⟨g, off + j, none⟩ = some p.1 ∧ Byt w p.1 p.2)
theorem Pts.at {w : World} {v : Value} {P : List (Value × Bs)} (h : Pts w v P) {j : Nat} {p : Value × Bs} (hp : P[j]? = some p) : ∃ g off c u k, v = .slice (some ⟨g, off, none⟩) P.length c ∧ g < w.heap.size ∧ p.1 = .slice u p.2.length k ∧ w.cell? ⟨g, off + j, none⟩ = some (.slice u p.2.length k) ∧ Byt w (.slice u p.2.length k) p.2 := by
  obtain ⟨a, c, rfl, h⟩ := h
  rcases h with rfl | ⟨g, off, rfl, hg, hrow⟩
  · cases hp
  · obtain ⟨h1, h2⟩ := hrow j p hp
    obtain ⟨u, k, e, -⟩ := id h2
    rw [e] at h1 h2
    exact ⟨g, off, c, u, k, rfl, hg, e, h1, h2⟩

def CcR (P : List (Value × Bs)) (w : World) (s i : Value) (wr : World) : Prop := ∃ k : Nat, k ≤ P.length ∧ i = .int .i64 k ∧ s = .int .i64 ((catP (P.take k)).length : Int) ∧ wr = w
def CdR (P : List (Value × Bs)) (w : World) (s i : Value) (wr : World) : Prop := ∃ (k : Nat) (a : Option Addr) (c : Nat), k ≤ P.length ∧ i = .int .i64 k ∧ s = .slice a (catP (P.take k)).length c ∧ Hid (wr.ownsRow w.heap.size 5 1 (.slice a (catP (P.take k)).length c) (catP (P.take k)).length (bytesV (catP (P.take k)))) ∧ Hid (Below w.heap.size w wr)
set_option maxRecDepth 100000 in
set_option maxHeartbeats 8000000 in
theorem concat_c {w : World} {v : Value} {P : List (Value × Bs)} (h : Pts w v P) (hl : (catP P).length ≤ 1000000) (hpl : P.length ≤ 1000000) :
    Calls Tryz.prog 66 #[v] w fun e w' => ∃ v', e = .returned v' ∧ w'.ownsRow w.heap.size 5 1 v' (catP P).length (bytesV (catP P)) ∧ Below w.heap.size w w' := by
  have H := Lib.hid h
  obtain ⟨a, c, rfl, -⟩ := h
  go_enter Tryz.func66, Tryz.ntmps66
  go_wp2_with fail
  go_loopw [3, 5, 11] (fun s _ i wr => CcR P w s i wr) (fun _ _ i _ => P.length - (intOf i).toNat)
  case atStart => exact ⟨0, Nat.zero_le _, rfl, rfl, rfl⟩
  case round =>
    obtain ⟨k, hk, rfl, rfl, rfl⟩ := hrel
    by_cases hlt : k < P.length
    · have hp := List.getElem?_eq_getElem hlt
      generalize P[k] = p at *
      obtain ⟨g, off, c2, u, kc, e, hg, he, ck, hby⟩ := H.out.at hp
      cases e
      have hnx := catP_take hp
      have hle := catP_len P k
      have hle2 := catP_len P (k + 1)
      obtain ⟨m, hm⟩ : ∃ m, (catP (P.take k)).length = m := ⟨_, rfl⟩
      obtain ⟨m2, hm2⟩ : ∃ m2, p.2.length = m2 := ⟨_, rfl⟩
      have e3 : (m : Int) + (m2 : Int) = ((catP (P.take (k + 1))).length : Int) := by rw [hnx, List.length_append, hm, hm2]; omega
      have e4 : ¬ ((catP (P.take (k + 1))).length : Int) < 0 := by omega
      have hi0 : (0 : Int) ≤ (k : Int) := by omega
      have hi1 : (k : Int) < (P.length : Int) := by omega
      have e5 : ((catP (P.take (k + 1))).length : Int) ≤ 9223372036854775807 := by omega
      rw [hm2] at ck
      rw [hm]
      obtain ⟨m3, hm3⟩ : ∃ m3, (catP (P.take (k + 1))).length = m3 := ⟨_, rfl⟩
      rw [hm3] at e3 e4 e5
      have HM := Lib.hid hm3
      clear hp hby hnx hle hle2 hm hm2 hm3 he
      go_wp2_with fail
      go_roundw
      case rel => exact ⟨k + 1, by omega, by go_num, by rw [HM.out], rfl⟩
      case measure => simp [intOf] <;> omega
    · obtain rfl : k = P.length := by omega
      rw [List.take_length]
      have cg := grow_c wr (catP P).length hl
      go_wp2_with fail
      refine cg.mono ?_
      rintro e w1 ⟨a1, c1, rfl, ho1, hb1⟩
      have HO1 := Lib.hid ho1
      have HB1 := Lib.hid hb1
      clear cg ho1 hb1
      go_wp2_with fail
      go_loopw [6, 8, 27] (fun s _ i wr2 => CdR P wr s i wr2) (fun _ _ i _ => P.length - (intOf i).toNat)
      case atStart => exact ⟨0, a1, c1, Nat.zero_le _, rfl, rfl, HO1, HB1⟩
      case round =>
        obtain ⟨k, a2, c3, hk, rfl, rfl, hO, hB⟩ := hrel
        by_cases hlt : k < P.length
        · have hp := List.getElem?_eq_getElem hlt
          generalize P[k] = p at *
          obtain ⟨g, off, c2, u, kc, e, hg, he, ck0, hby⟩ := H.out.at hp
          cases e
          have ck := (cell_of_block (hB.out.block _ hg)).trans ck0
          have hnx := catP_take hp
          have hle2 := catP_len P (k + 1)
          obtain ⟨a', c', W1, hr, ho, hg2⟩ := run_appB hO.out hB.out.size (hby.below hB.out) (by rw [← List.length_append, ← hnx]; omega)
          rw [← hnx] at hr ho
          have hi0 : (0 : Int) ≤ (k : Int) := by omega
          have hi1 : (k : Int) < (P.length : Int) := by omega
          have HO2 := Lib.hid ho
          have HB2 := Lib.hid (hB.out.trans (c := W1) ⟨hg2.os, hg2.tape, hg2.output, hg2.size, fun q hq => hg2.block q (Nat.lt_of_lt_of_le hq hB.out.size) (fun e => by
            have := (owns_block hO.out e.symm).1
            omega)⟩)
          generalize p.2.length = m2 at *
          generalize (catP (P.take k)).length = m1 at *
          obtain ⟨m3, hm3⟩ : ∃ m3, (catP (P.take (k + 1))).length = m3 := ⟨_, rfl⟩
          rw [hm3] at hr
          have HM := Lib.hid hm3
          clear hp hby hnx hle2 hm3 he ck0 ho hg2
          go_wp2_with (at_builtin; refine wpList_run rfl (.tmp 31) (.tmp 32) rfl rfl rfl hr ?_)
          go_roundw
          case rel => exact ⟨k + 1, a', c', by omega, by go_num, by rw [HM.out], HO2, HB2⟩
          case measure => simp [intOf] <;> omega
        · obtain rfl : k = P.length := by omega
          rw [List.take_length] at hO ⊢
          go_wp2_with fail
          go_ret
          exact ⟨_, rfl, hO.out, hB.out⟩

theorem infoB : (Tryz.prog.info? 24).map (fun i => (i.zero, i.size, i.bytes)) = some (some (.slice none 0 0), 1, 24) := by kernel_rfl
theorem run_appP {W : World} {base : Nat} {a : Option Addr} {c : Nat} {P : List (Value × Bs)} (h : W.ownsRow base 24 1 (.slice a P.length c) P.length (P.map Prod.fst)) (hbw : base ≤ W.heap.size) (hP : P.length ≤ 1000000) (b : Bs) (u : Option Addr) (n k : Nat) :
    ∃ a' c' w', (Builtin.append_ #[119, 119] 119 #[.slice a P.length c, .slice (some ⟨W.heap.size, 0, none⟩) 1 1]).run Tryz.prog (W.alloc (.cells #[.slice u n k] 24)) = .ok (.slice a' (P ++ [(Value.slice u n k, b)]).length c') w' ∧
      w'.ownsRow base 24 1 (.slice a' (P ++ [(Value.slice u n k, b)]).length c') (P ++ [(Value.slice u n k, b)]).length ((P ++ [(Value.slice u n k, b)]).map Prod.fst) ∧ (W.alloc (.cells #[.slice u n k] 24)).grownBy w' (Value.slice a P.length c).ownBlock := by
  obtain ⟨i0, hi, hz0, hz1, hz2⟩ := info_parts infoB
  have hb1 := below_alloc W (.cells #[.slice u n k] 24)
  have h1 := owns_below h hb1
  have hnew : (W.alloc (.cells #[.slice u n k] 24)).heap[W.heap.size]? = some (.cells #[.slice u n k] 24 (0, 0)) := heap_alloc_new _ _
  obtain ⟨v', w', hrun, hown, hg, _⟩ := run_append_own (P := Tryz.prog) (W.alloc (.cells #[.slice u n k] 24)) base 119 119 24 i0 (.slice none 0 0) 1 24 Tryz.underlying119 hi hz0 hz1 hz2 rfl (by decide) _ _ (P.map Prod.fst) h1 ⟨W.heap.size, 0, none⟩ 1 1 [.slice u n k] rfl (fun j x hj => by
    rw [Go.WideShapes.add_plain]
    match j, hj with
    | 0, hj => cases hj; exact cell_of_heap hnew) (by simp [Value.oneCell']) (by unfold maxLen; omega) (by omega) (by have := hb1.size; omega)
  have e : (P ++ [(Value.slice u n k, b)]).length = P.length + 1 := by simp
  have e2 : (P ++ [(Value.slice u n k, b)]).map Prod.fst = P.map Prod.fst ++ [.slice u n k] := by simp
  have h3 : w'.ownsRow base 24 1 v' (P ++ [(Value.slice u n k, b)]).length ((P ++ [(Value.slice u n k, b)]).map Prod.fst) := by rw [e, e2]; exact hown
  obtain ⟨a', c', rfl⟩ := own_slice h3
  exact ⟨a', c', w', hrun, h3, hg⟩

theorem catP_snoc (P : List (Value × Bs)) (p : Value × Bs) : catP (P ++ [p]) = catP P ++ p.2 := by simp [catP]
theorem catP_bound : ∀ P : List (Value × Bs), (∀ p ∈ P, p.2.length ≤ 200) → (catP P).length ≤ 200 * P.length
  | [], _ => Nat.le_refl _
  | p :: P, h => by
    have h1 := catP_bound P (fun q hq => h q (List.mem_cons_of_mem _ hq))
    have h2 := h p List.mem_cons_self
    show (p.2 ++ catP P).length ≤ _
    rw [List.length_append, List.length_cons]
    omega
/-- the text that tells bytes' hash -/
def hashT (r : Bs) : Bs := List.replicate (16 - (hexB (hashN r)).length) 48 ++ hexB (hashN r) ++ [10]
theorem hashT_len (r : Bs) : (hashT r).length = 17 := by
  unfold hashT
  have := hexB_len (hashN r)
  simp only [List.length_append, List.length_replicate, List.length_cons, List.length_nil]
  omega
theorem rep_c (c : Nat) (w : World) (hc : c ≤ 16) : Calls Tryz.prog 67 #[.string ⟨#[48]⟩, .int .i64 c] w fun e w' => e = .returned (.string (mk (List.replicate c 48))) ∧ Below w.heap.size w w' :=
  (shstringsRepeat ⟨#[48]⟩ c w (by omega) (by show 1 * c ≤ _; omega)).mono fun e w' ⟨h1, h2⟩ => ⟨by
    rw [h1]
    have : ∀ n : Nat, Lib.repeatL [48] n = List.replicate n (48 : UInt8) := fun n => by
      induction n with
      | zero => rfl
      | succ n ih => simp [Lib.repeatL, List.replicate_succ] at ih ⊢; try exact ih
    show Ending.returned (.string ⟨(Lib.repeatL [48] c).toArray⟩) = _
    rw [this]
    rfl, h2⟩

def SuR (W : World) (decl : List Bs) (F : Bs → Option Bs) (A : List Bs) (o i : Value) (wr : World) : Prop := ∃ (j : Nat) (P : List (Value × Bs)) (oa : Option Addr) (oc : Nat), j ≤ A.length ∧ i = .int .i64 j ∧ o = .slice oa P.length oc ∧ Hid (allO decl F (A.take j) [] = some (catP P)) ∧ Hid (P.length = j) ∧ Hid (wr.ownsRow W.heap.size 24 1 (.slice oa P.length oc) P.length (P.map Prod.fst)) ∧ Hid (∀ p ∈ P, Byt W p.1 p.2 ∧ p.2.length ≤ 200) ∧ Hid (Below W.heap.size W wr)

set_option maxRecDepth 100000 in
set_option maxHeartbeats 8000000 in
theorem sum_a {W : World} {k m0 m1 m2 n0 n1 : Nat} {n : Int} {fv : Value} {decl : List Bs} {T : List Value} {F' : Bs → Option Value} {F : Bs → Option Bs} (hT : Tz W) (h : Kn W k m0 m1 m2 n fv decl n0 T F' n1) (hF : FT W F' F) {av : Value} {A : List Bs} (hav : Strs W av A) (hal : A.length ≤ 1000) (hax : ∀ a ∈ A, a.length ≤ 1000000) (hfb : ∀ s b, F s = some b → b.length ≤ 200) :
    Calls Tryz.prog 48 #[.pointer (some ⟨k, 0, none⟩), av] W (VeO W (sumO hashT decl F A)) := by
  have HK := Lib.hid h
  have HV := Lib.hid hav
  have HF := Lib.hid hF
  have HX := Lib.hid hax
  have HFB := Lib.hid hfb
  have HT := Lib.hid hT
  have hnd := need_a (decide (0 < A.length)) W
  have hndi : decide ((0 : Int) < (A.length : Int)) = decide (0 < A.length) := by
    by_cases h : 0 < A.length
    · rw [decide_eq_true h, decide_eq_true (by omega)]
    · rw [decide_eq_false h, decide_eq_false (by omega)]
  obtain ⟨aa, ac, rfl, -, -⟩ := hav
  clear h hF hax hfb hT
  by_cases hA0 : A = []
  · subst hA0
    have hn2 := need_f W
    clear hnd hndi
    go_enter Tryz.func48, Tryz.ntmps48
    go_wp2_with fail
    refine hn2.mono ?_
    rintro e w2 ⟨rfl, rfl⟩
    exact ⟨rfl, rfl, Below.refl _ _⟩
  have hpos : 0 < A.length := List.length_pos_iff.2 hA0
  have HSU : Hid (sumO hashT decl F A = (allO decl F A []).map hashT) := Lib.hid (by unfold sumO; rw [if_neg hA0])
  rw [decide_eq_true hpos] at hnd
  have hpi : (0 : Int) < (A.length : Int) := by omega
  clear hndi hA0
  go_enter Tryz.func48, Tryz.ntmps48
  go_wp2_with fail
  refine hnd.mono ?_
  rintro e w2 ⟨rfl, rfl⟩
  clear hnd
  go_wp2_with fail
  go_loopw [5, 7, 15] (fun o _ i wr => SuR W decl F A o i wr) (fun _ _ i _ => A.length - (intOf i).toNat)
  case atStart => exact ⟨0, [], none, 0, Nat.zero_le _, rfl, rfl, Lib.hid rfl, Lib.hid rfl, Lib.hid (World.ownsRow_nil _ _ _ _), Lib.hid (fun p hp => by cases hp), Lib.hid (Below.refl _ _)⟩
  case round =>
    obtain ⟨j, P, oa, oc, hj, rfl, rfl, HC, HPL, hO, HPB, hBw⟩ := hrel
    by_cases hlt : j < A.length
    · have hx := List.getElem?_eq_getElem hlt
      have hal1 := HX.out _ (List.getElem_mem hlt)
      obtain ⟨_, _, e, _, hrow⟩ := HV.out.below hBw.out
      cases e
      rcases hrow with h0 | ⟨g, off, rfl, hg, hcell⟩
      · rw [h0] at hlt; simp at hlt
      have c0 := hcell j _ hx
      have hsn : allO decl F (A.take (j + 1)) [] = (argO decl F A[j]).map fun b => catP P ++ b := foldO_snoc hx HC.out
      have hfl : allO decl F (A.take (j + 1)) [] = none → allO decl F A [] = none := fun h => foldO_fail h
      generalize A[j] = x at *
      have ca := argument_a (HK.out.below hBw.out) (HF.out.below hBw.out) hal1
      have hao : ∀ b, argO decl F x = some b → F x = some b := fun b hb => by
        unfold argO at hb
        split at hb
        · exact hb
        · cases hb
      have HSN := Lib.hid hsn
      have HFL := Lib.hid hfl
      have HAO := Lib.hid hao
      have hi0 : (0 : Int) ≤ (j : Int) := by omega
      have hi1 : (j : Int) < (A.length : Int) := by omega
      generalize argO decl F x = o at *
      clear hcell hx hsn hfl hao
      go_wp2_with fail
      refine ca.mono ?_
      rintro e w2 ⟨hq, hb2⟩
      have hO2 := owns_below hO.out hb2
      have HB2 := Lib.hid (hBw.out.trans (hb2.mono hBw.out.size))
      cases o with
      | none =>
        obtain rfl : e = .panicked pch := hq
        have HE := HFL.out (HSN.out.trans rfl)
        refine ⟨rfl, ?_, HB2.out⟩
        rw [HSU.out, HE]
        rfl
      | some b =>
      obtain ⟨v, rfl, hv, hat⟩ := hq
      obtain ⟨hbyW, -, -⟩ := HF.out.at (HAO.out b rfl) hat
      have hb200 := HFB.out x b (HAO.out b rfl)
      obtain ⟨u, kc, rfl, -⟩ := id hbyW
      obtain ⟨a', c', W3, hr, ho3, hg3⟩ := run_appP hO2 HB2.out.size (by have := HPL.out; omega) b u b.length kc
      have hb3 := below_alloc w2 (.cells #[.slice u b.length kc] 24)
      have hown2 := owns_below hO2 hb3
      have HB3 : Hid (Below W.heap.size W W3) := Lib.hid ((HB2.out.trans (hb3.mono HB2.out.size)).trans ⟨hg3.os, hg3.tape, hg3.output, hg3.size, fun q hq => hg3.block q (Nat.lt_of_lt_of_le hq (Nat.le_trans HB2.out.size hb3.size)) (fun e => by
        have := (owns_block hown2 e.symm).1
        omega)⟩)
      obtain ⟨P2, hP2⟩ : ∃ P2, P ++ [(Value.slice u b.length kc, b)] = P2 := ⟨_, rfl⟩
      rw [hP2] at hr ho3
      have HO3 := Lib.hid ho3
      have HC3 : Hid (allO decl F (A.take (j + 1)) [] = some (catP P2)) := Lib.hid (by rw [HSN.out, ← hP2, catP_snoc]; rfl)
      have HPL3 : Hid (P2.length = j + 1) := Lib.hid (by rw [← hP2, List.length_append, HPL.out]; rfl)
      have HPB3 : Hid (∀ p ∈ P2, Byt W p.1 p.2 ∧ p.2.length ≤ 200) := Lib.hid (by
        rw [← hP2]
        intro p hp
        rcases List.mem_append.1 hp with hp | hp
        · exact HPB.out p hp
        · obtain rfl := List.mem_singleton.1 hp
          exact ⟨hbyW, hb200⟩)
      generalize b.length = bl at *
      clear ca hb2 hO2 hv hat hbyW hb200 hb3 hown2 ho3 hg3 hP2 HSN HAO
      go_wp2_with (at_builtin; refine wpList_run rfl (.tmp 19) (.tmp 23) rfl rfl rfl hr ?_)
      go_roundw
      case rel => exact ⟨j + 1, P2, a', c', by omega, by go_num, rfl, HC3, HPL3, HO3, HPB3, HB3⟩
      case measure => simp [intOf] <;> omega
    · obtain rfl : j = A.length := by omega
      have hco := HC.out
      rw [List.take_length] at hco
      have HRES : Hid (sumO hashT decl F A = some (hashT (catP P))) := Lib.hid (by rw [HSU.out, hco]; rfl)
      have hbnd := catP_bound P (fun p hp => (HPB.out p hp).2)
      have hpl := HPL.out
      have hpts : Pts wr (.slice oa P.length oc) P := ⟨oa, oc, rfl, by
        by_cases hP0 : P = []
        · exact .inl hP0
        · have hpp : 0 < P.length := List.length_pos_iff.2 hP0
          rcases hO.out.2 with ⟨e1, e2⟩ | ⟨g, cap, cur, e1, _, hc, _⟩
          · omega
          · injection e1 with e1
            subst e1
            refine .inr ⟨g, 0, rfl, lt_some hc, fun j p hp => ⟨?_, (HPB.out p (List.mem_of_getElem? hp)).1.below hBw.out⟩⟩
            have h1 := hO.out.cells (g := g) rfl j p.1 (by rw [List.getElem?_map, hp]; rfl)
            rw [Go.WideShapes.add_plain] at h1
            exact h1⟩
      have cc := concat_c hpts (by omega) (by omega)
      clear hco hbnd hpl hpts hlt
      go_wp2_with fail
      refine cc.mono ?_
      rintro e w3 ⟨v3, rfl, ho3, hb3⟩
      have HB3 := Lib.hid (hBw.out.trans (hb3.mono hBw.out.size))
      have hh := hash_c (owns_byt ho3) (by have := catP_bound P (fun p hp => (HPB.out p hp).2); have := HPL.out; omega)
      clear cc ho3 hb3
      generalize catP P = r at *
      go_wp2_with fail
      refine hh.mono ?_
      rintro e w4 ⟨rfl, hb4⟩
      have HB4 := Lib.hid (HB3.out.trans (hb4.mono HB3.out.size))
      have hf := fmt_c (hash_lt r) (HT.out.below HB4.out)
      clear hh hb4
      go_wp2_with fail
      refine hf.mono ?_
      rintro e w5 ⟨rfl, hb5⟩
      have HB5 := Lib.hid (HB4.out.trans (hb5.mono HB4.out.size))
      have hxl := hexB_len (hashN r)
      have HTX : Hid (hashT r = List.replicate (16 - (hexB (hashN r)).length) 48 ++ hexB (hashN r) ++ [10]) := Lib.hid rfl
      clear hf hb5
      generalize hexB (hashN r) = hx at *
      have hsz := mk_size hx
      have hsub : (16 : Int) - ((mk hx).size : Int) = ((16 - hx.length : Nat) : Int) := by rw [hsz]; omega
      have hrp := rep_c (16 - hx.length) w5 (by omega)
      have HXL := Lib.hid hxl
      clear hsz hxl
      generalize 16 - hx.length = c16 at *
      go_wp2_with fail
      refine hrp.mono ?_
      rintro e w6 ⟨rfl, hb6⟩
      have HB6 := Lib.hid (HB5.out.trans (hb6.mono HB5.out.size))
      obtain ⟨rp, hrpE⟩ : ∃ rp, List.replicate c16 (48 : UInt8) = rp := ⟨_, rfl⟩
      have HC16 : Hid (c16 ≤ 16) := Lib.hid (by omega)
      have hrl : rp.length ≤ 16 := by rw [← hrpE, List.length_replicate]; exact HC16.out
      rw [hrpE] at HTX ⊢
      have hc1 : mk rp ++ mk hx = mk (rp ++ hx) := mk_append _ _
      have hz1 : ¬ 9223372036854775807 < (mk rp).size + (mk hx).size := by rw [mk_size, mk_size]; have := HXL.out; omega
      have hc2 : mk (rp ++ hx) ++ ⟨#[10]⟩ = mk (rp ++ hx ++ [10]) := mk_append _ [10]
      have hz2 : ¬ 9223372036854775807 < (mk (rp ++ hx)).size + (⟨#[10]⟩ : ByteArray).size := by
        rw [mk_size, List.length_append]
        have := HXL.out
        have : (⟨#[10]⟩ : ByteArray).size = 1 := rfl
        omega
      obtain ⟨s2, hs2⟩ : ∃ s2, rp ++ hx ++ [10] = s2 := ⟨_, rfl⟩
      rw [hs2] at hc2
      have HTS : Hid (hashT r = s2) := Lib.hid (HTX.out.trans hs2)
      obtain ⟨cap, w7, hcv, hov, hb7⟩ := conv_mk w6 s2
      have HOV := Lib.hid hov
      have HB7 := Lib.hid (HB6.out.trans (hb7.mono HB6.out.size))
      generalize s2.length = l2 at *
      clear hrp hb6 hs2 hov hb7 hrl hrpE HTX HXL
      go_wp2_with fail
      go_ret
      refine ⟨?_, HB7.out⟩
      rw [HRES.out, HTS.out]
      exact ⟨_, rfl, HOV.out⟩
end Go.Proofs.YtgledabcfonbeaaGreatDoor.Df
