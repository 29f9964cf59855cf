/-
  HOW MANY BYTES ALL FILES HAVE; IS THERE ROOM.
-/
import Derived.Test.YtfmelhcpccghdaaGreatReads
import Derived.IntWalk
namespace Go.Proofs.YtfmelhcpccghdaaGreat
open Go.RowKit Go.Maps

variable {X : Nat → Prop} {K : Nat} {w : World} {p : Nat} {q : Pl} {d : Ds}

theorem mul_step {u c n M : Nat} (h : u + (c + 1) * M ≤ n * M) {x c' : Nat} (hx : x ≤ M) (hc : c' ≤ c) : u + x + c' * M ≤ n * M := by
  have h1 : c' * M ≤ c * M := Nat.mul_le_mul_right _ hc
  rw [Nat.add_mul, Nat.one_mul] at h
  omega
theorem mul_top {u c n M : Nat} (h : u + c * M ≤ n * M) (hn : n ≤ 1000) (hM : M ≤ 65536) : u ≤ 65536000 := by
  have h1 : n * M ≤ 1000 * M := Nat.mul_le_mul_right _ hn
  omega

theorem used_nil (w : World) : Calls Tryz.prog 76 #[.pointer none] w fun e w' => e = .returned (.int .i64 0) ∧ w = w' := by
  go_enter Tryz.func76, Tryz.ntmps76
  go_wp2
  go_ret
  exact ⟨rfl, rfl⟩

set_option maxHeartbeats 2000000 in
theorem used_at (h : DkAt X K w p q d) (hK : K ≤ 1000) {M : Nat} (hM : M ≤ 65536) (hall : ∀ l i, d.now l = some i → (d.files i).bytes.length ≤ M) :
    Calls Tryz.prog 76 #[.pointer (some ⟨p, 0, none⟩)] w fun e w' => (∃ u : Nat, e = .returned (.int .i64 u) ∧ u ≤ K * M) ∧ Below w.heap.size w w' := by
  obtain ⟨_, _, _, _, _, c5, _, _⟩ := h.cells
  obtain ⟨n, hn, D, hown, hh, hat0⟩ := h.now
  have hfile := fun l i (e : d.now l = some i) => h.file i (ref_now e)
  have hsz := hown.size_le
  have hKM : n * M ≤ K * M := Nat.mul_le_mul_right _ hn
  have HA := Lib.hid hall
  have HH := Lib.hid hh
  have HF := Lib.hid hfile
  have HAT := Lib.hid hat0
  have HKM := Lib.hid hKM
  have hn1 : n ≤ 1000 := by omega
  have HS0 : Maps.size D * M ≤ n * M := Nat.mul_le_mul_right _ hsz
  have HS := Lib.hid HS0
  clear h hh hall hfile hat0 hKM HS0
  go_enter Tryz.func76, Tryz.ntmps76
  go_wp2_with (at_range; refine wpList_range_own _ rfl _ 55 rfl 9 73 law9 Tryz.underlying55 fileE q.m1 n D rfl hown ?_; intro w0 hrg0 hg0 hs0)
  go_frame
  have hb0 : Below w.heap.size w w0 := (Below.refl _ w).grown hg0 (Nat.le_refl _) (by simp)
  go_loopw [3] (fun s wr => ∃ left cnt, ∃ u : Nat, wr.ranges Tryz.prog 9 fileE q.m1 w.heap.size n D left cnt ∧ s = .int .i64 u ∧ u + cnt * M ≤ n * M ∧ Below w.heap.size w wr) (fun _ wr => wr.rangeLeft q.m1 w.heap.size)
  case atStart => exact ⟨_, _, 0, hrg0, rfl, by have := HS.out; omega, hb0⟩
  case round =>
    obtain ⟨left, cnt, u, hrg, rfl, hu, hbw⟩ := hrel
    have hut := mul_top hu hn1 hM
    go_wp2_with (at_next; refine wpList_next_ranges _ rfl _ rfl 9 law9 fileE (fun s : ByteArray => Value.string s) ptr (fun key kl hk => by obtain ⟨s, rfl, _⟩ := WideMaps.string_of_keyOf Tryz.underlying9 hk; exact ⟨s, rfl⟩) (fun v y hv => by obtain ⟨o, rfl, _⟩ := fileE_inv hv; exact ⟨o, rfl⟩) q.m1 w.heap.size n D left cnt rfl hrg ?_ ?_)
    · intro hc0 hl0
      subst hc0
      go_wp2
      go_ret
      exact ⟨⟨u, rfl, by have := HKM.out; omega⟩, hbw⟩
    · intro x c kl a b w1 cnt1 hkey hlk hv hat hrg1 hlt hg1 hs1 hen
      obtain ⟨l, hx, rfl, hl⟩ := keyS_inv hkey
      have hz := hat .nil
      rw [HAT.out] at hz
      cases c with
      | none =>
        have e1 : a = .nil := by cases hv; rfl
        rw [e1] at hz hat
        have e2 := has_true_of_atKey hat
        rw [HH.out] at e2
        cases hi : d.now l with
        | none => rw [hi] at e2; cases e2
        | some i => rw [hi] at hz; cases hz
      | some i =>
        have e1 : a = .lit (.int .i64 i) := by cases hv; rfl
        rw [e1] at hz
        have hi : d.now l = some i := elD_inj hz
        have hbw1 : Below w.heap.size w w1 := hbw.grown hg1 hbw.size (by intro k hk; cases hk; exact Nat.le_refl _)
        have hf := HF.out l i hi
        have hlen := HA.out l i hi
        obtain ⟨f0, _, _⟩ := hf.cell
        obtain ⟨ba, bc, hbv⟩ := row_len hf.row
        rw [hbv] at f0
        have hil := lt_of_some hf.cells
        have f0' := (hbw1.cell (p := ⟨i, 0, none⟩) hil).trans f0
        generalize hN : (d.files i).bytes.length = N at *
        obtain ⟨c2, rfl⟩ : ∃ c2, cnt = c2 + 1 := ⟨cnt - 1, by omega⟩
        have hst := mul_step hu hlen (show cnt1 ≤ c2 by omega)
        have HE := Lib.hid (hrg.left_eq)
        have HE1 := Lib.hid (hrg1.left_eq)
        have hst' := Lib.hid hst
        clear hv hz hat hkey hlk hf f0 hbv hi hN hs1 e1 hst hrg hg1 hu
        rw [ptr_some] at hen ⊢
        have hq : (0 : Int) ≤ u := by omega
        go_wp2
        go_roundw
        case rel => exact ⟨_, cnt1, u + N, hrg1, by first | rfl | go_num, hst'.out, hbw1⟩
        case measure => rw [HE.out, HE1.out]; omega

theorem DkAt.keep (h : DkAt X K w p q d) {w' : World} (hb : Below w.heap.size w w') : DkAt X K w' p q d :=
  h.frame hb.size (fun k hk _ => hb.block k hk) (fun _ _ hy => hy) (fun k hy => Nat.lt_of_lt_of_le (h.inX k hy) hb.size)

theorem Dir.lens {n m : Nat} {f : List UInt8 → Option Nat} (h : Dir w n m f) : ∃ k : Nat, k ≤ n ∧ ∀ ty, (Builtin.len_ #[55] ty #[.map (some m)]).run Tryz.prog w = .ok (.int .i64 k) w := by
  obtain ⟨D, hD, _⟩ := h
  exact ⟨_, hD.size_le, hD.len Tryz.underlying55⟩

/-- what room tells -/
def RoomOk (K M size quota : Nat) (n : Int) : Prop := (n = 0 ∨ n = 3 ∨ n = 7) ∧ (n = 0 → size ≤ 65536) ∧ (size ≤ 65536 → K + 1 ≤ 200 → K * M + size ≤ quota → n = 0)
def RoomE (K M size quota : Nat) (e : Ending) : Prop := ∃ n : Int, e = .returned (.int .i64 n) ∧ RoomOk K M size quota n

set_option maxHeartbeats 2000000 in
set_option maxRecDepth 100000 in
theorem room_at (h : DkAt X K w p q d) (hK : K ≤ 1000) {M : Nat} (hM : M ≤ 65536) (hall : ∀ l i, d.now l = some i → (d.files i).bytes.length ≤ M) {l : List UInt8} (hl : l.length ≤ maxLen) {size : Nat} (hs : size ≤ 1000000000) :
    Calls Tryz.prog 55 #[.pointer (some ⟨p, 0, none⟩), .string (mk l), .int .i64 size] w fun e w' => RoomE K M size d.quota e ∧ Below w.heap.size w w' := by
  have hus := used_at h hK hM hall
  obtain ⟨c0, _, _, _, _, c5, _, _⟩ := h.cells
  obtain ⟨n, hn, hdir⟩ := h.now
  obtain ⟨k, hk, hlen⟩ := hdir.lens
  have hq := h.quota.1
  have HD := Lib.hid h
  have hnow : ∀ i, d.now l = some i → (d.files i).bytes.length ≤ M := fun i hi => hall l i hi
  have HN := Lib.hid hnow
  have hKM : K * M ≤ 65536000 := by
    have h1 : K * M ≤ 1000 * M := Nat.mul_le_mul_right _ hK
    omega
  generalize hKMe : K * M = KM at *
  have HKM := Lib.hid hKMe
  clear h hall hdir hnow hKMe
  go_enter Tryz.func55, Tryz.ntmps55
  go_wp2_with fail
  refine hus.mono ?_
  rintro e w1 ⟨⟨u, rfl, hu⟩, hb⟩
  have h1 := HD.out.keep hb
  obtain ⟨d0, _, _, _, _, d5, _, _⟩ := h1.cells
  obtain ⟨n1, _, hdir1⟩ := h1.now
  have hlk := hdir1.look hl
  have c0' := Lib.hid c0
  clear hlen c0 c5 hdir1
  cases hi : d.now l with
  | none =>
    rw [hi, ptr_none] at hlk
    clear hi h1
    go_wp2
    all_goals go_ret
    all_goals refine ⟨⟨_, rfl, ?_⟩, hb⟩
    all_goals unfold RoomOk
    all_goals rw [HKM.out]
    all_goals refine ⟨?_, ?_, ?_⟩
    all_goals first | omega | simp
  | some i =>
    rw [hi, ptr_some] at hlk
    have hf := h1.file i (ref_now hi)
    have hlenM := HN.out i hi
    obtain ⟨f0, _, _⟩ := hf.cell
    obtain ⟨ba, bc, hbv⟩ := row_len hf.row
    rw [hbv] at f0
    generalize hNN : (d.files i).bytes.length = N at *
    clear hi h1 hf hbv hNN
    go_wp2
    go_quiet (fail)
    go_wp2
    all_goals go_ret
    all_goals refine ⟨⟨_, rfl, ?_⟩, ⟨hb.os, hb.tape, hb.output, hb.size, hb.block⟩⟩
    all_goals unfold RoomOk
    all_goals rw [HKM.out]
    all_goals refine ⟨?_, ?_, ?_⟩
    all_goals first | omega | simp
end Go.Proofs.YtfmelhcpccghdaaGreat
