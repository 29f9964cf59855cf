/-
  crc's SUM, AND THE DOCUMENT's, WALKED.
-/
import Derived.Test.YtfmelhcpccghdaaGreatRows
import Derived.Test.YtfmelhcpccghdaaGreatCrc
import Derived.WalkKit
import Derived.WalkLawsBesides
import Derived.Laws.BitsAllLaws
import Derived.Lib.Hide
import Derived.Lib.SlBytesConst
namespace Go.Proofs.YtfmelhcpccghdaaGreat.Cr
open Go.RowKit

theorem bit_walk (n : Nat) (hn : n < 4294967296) :
    bits BinOp.xor IntKind.u32 ((n : Int) / 2) (bits BinOp.and IntKind.u32 (n : Int) 1 * 3988292384 % 4294967296) = ((Crc.bit n : Nat) : Int) := by
  have e1 : bits BinOp.and IntKind.u32 (n : Int) 1 = ((n % 2 : Nat) : Int) := by
    have := u32_and_nat n 1 hn (by omega)
    rw [nat_mask1] at this
    exact this
  rw [e1]
  have e2 : ((n % 2 : Nat) : Int) * 3988292384 % 4294967296 = ((n % 2 * Crc.P : Nat) : Int) := by
    unfold Crc.P
    omega
  rw [e2, show (n : Int) / 2 = ((n / 2 : Nat) : Int) from by omega]
  have h3 : n % 2 * Crc.P < 4294967296 := by unfold Crc.P; omega
  rw [u32_xor_nat _ _ (by omega) h3]
  rfl

theorem ret_eq {k : IntKind} {a b : Int} (h : a = b) : Ending.returned (.int k a) = .returned (.int k b) := by rw [h]
theorem val_eq {k : IntKind} {a b : Int} (h : a = b) : Value.int k a = Value.int k b := by rw [h]

/-- crc's step: a byte put to a sum's rest -/
theorem step_any (r x : Nat) (a : Addr) (w : World) (hr : r < 4294967296) (hx : x < 256) (hc : w.cell? a = some (.int .u32 3988292384)) :
    Calls Tryz.prog 95 #[.int .u32 (r : Int), .int .u8 (x : Int), .pointer (some a)] w fun e w' => e = .returned (.int .u32 (Crc.byte r x : Int)) ∧ w = w' := by
  have hxr : bits .xor .u32 (r : Int) (x : Int) = ((r ^^^ x : Nat) : Int) := u32_xor_nat r x hr (by omega)
  go_enter Tryz.func95, Tryz.ntmps95
  go_wp2_with fail
  go_loop [0, 10] (fun v i => ∃ k : Nat, k ≤ 8 ∧ i = .int .i64 k ∧ v = .int .u32 ((Crc.iter k (r ^^^ x) : Nat) : Int)) (fun _ i => 8 - (intOf i).toNat)
  case atStart => exact ⟨0, by omega, rfl, rfl⟩
  case round =>
    obtain ⟨k, hk, rfl, rfl⟩ := hrel
    have hn : Crc.iter k (r ^^^ x) < 4294967296 := Crc.iter_lt k (Crc.xor_lt32 hr (by omega))
    generalize hnn : Crc.iter k (r ^^^ x) = n at *
    have Hn := Lib.hid hnn
    clear hnn
    by_cases hlt : k < 8
    · go_wp2_with fail
      go_round
      case rel => exact ⟨k + 1, by omega, by go_num, val_eq (by rw [bit_walk n hn, Crc.iter_succ, Hn.out])⟩
      case measure => simp [intOf]; omega
    · go_wp2_with fail
      go_ret
      have h8 : k = 8 := by omega
      subst h8
      exact ⟨ret_eq (by unfold Crc.byte; rw [Hn.out]), rfl⟩

/-- a slice's value reads as these bytes -/
def Row (w : World) (a : Option Addr) (l : List Nat) : Prop :=
  l = [] ∨ ∃ b off, a = some ⟨b, off, none⟩ ∧ b < w.heap.size ∧ ∀ i, i < l.length → w.cell? ⟨b, off + i, none⟩ = some (.int .u8 ((l.getD i 0 : Nat) : Int))

theorem dividing_any (w : World) : Calls Tryz.prog 86 #[.int .u32 3988292384] w fun e w' => e = .returned (.func (.func 95) #[] #[.pointer (some ⟨w.heap.size, 0, none⟩)]) ∧ w.alloc (.cells #[.int .u32 3988292384] 89) = w' := by
  go_enter Tryz.func86, Tryz.ntmps86
  go_wp2_with fail
  go_ret
  exact ⟨rfl, rfl⟩

theorem fold_succ {l : List Nat} {k : Nat} (h : k < l.length) (s : Nat) : Crc.fold s (l.take (k + 1)) = Crc.byte (Crc.fold s (l.take k)) (l.getD k 0) := by
  rw [List.take_add_one, Crc.fold_append]
  simp [Crc.fold, h]

theorem take_lt {l : List Nat} (hl : ∀ n ∈ l, n < 256) (k : Nat) : ∀ n ∈ l.take k, n < 256 := fun n hn => hl n (List.mem_of_mem_take hn)

theorem fold32_some (s : Nat) (b off cap : Nat) (l : List Nat) (c : Addr) (w : World) (hs : s < 4294967296) (hl : ∀ n ∈ l, n < 256) (hlen : l.length ≤ 140737488351232)
    (hrow : ∀ i, i < l.length → w.cell? ⟨b, off + i, none⟩ = some (.int .u8 ((l.getD i 0 : Nat) : Int))) (hc : w.cell? c = some (.int .u32 3988292384)) :
    Calls Tryz.prog 85 #[.int .u32 (s : Int), .slice (some ⟨b, off, none⟩) l.length cap, .func (.func 95) #[] #[.pointer (some c)]] w fun e w' => e = .returned (.int .u32 (Crc.fold s l : Int)) ∧ w = w' := by
  have Hrow := Lib.hid hrow
  clear hrow
  go_enter Tryz.func85, Tryz.ntmps85
  go_wp2_with fail
  go_loop [0, 11] (fun v i => ∃ k : Nat, k ≤ l.length ∧ i = .int .i64 k ∧ v = .int .u32 ((Crc.fold s (l.take k) : Nat) : Int)) (fun _ i => l.length - (intOf i).toNat)
  case atStart => exact ⟨0, by omega, rfl, rfl⟩
  case round =>
    obtain ⟨k, hk, rfl, rfl⟩ := hrel
    by_cases hlt : k < l.length
    · have hn : Crc.fold s (l.take k) < 4294967296 := Crc.fold_lt _ hs (take_lt hl k)
      have hx : l.getD k 0 < 256 := Crc.getD_lt hl k
      have hcell := Hrow.out k hlt
      have hnext := fold_succ hlt s
      generalize Crc.fold s (l.take k) = n at *
      generalize l.getD k 0 = x at *
      have Hn := Lib.hid hnext
      clear hnext
      go_wp2_with (go_at_call 95; refine (step_any n x c _ hn hx hc).mono ?_; rintro e w' ⟨rfl, rfl⟩)
      go_round
      case rel => exact ⟨k + 1, by omega, by go_num, val_eq (by rw [Hn.out])⟩
      case measure => simp [intOf]; omega
    · have he : k = l.length := by omega
      have ht : Crc.fold s (l.take k) = Crc.fold s l := by rw [he, List.take_length]
      rw [ht]
      go_wp2_with fail
      go_ret
      exact ⟨rfl, rfl⟩

theorem fold32_none (s : Nat) (a : Option Addr) (cap : Nat) (f : Value) (w : World) :
    Calls Tryz.prog 85 #[.int .u32 (s : Int), .slice a 0 cap, f] w fun e w' => e = .returned (.int .u32 (s : Int)) ∧ w = w' := by
  go_enter Tryz.func85, Tryz.ntmps85
  go_wp2_with fail
  refine wp_loop_rounds 1 ?_
  rw [rounds_succ]
  go_wp2_with fail
  go_ret
  exact ⟨rfl, rfl⟩

theorem fold32_any (s : Nat) (a : Option Addr) (n cap : Nat) (l : List Nat) (c : Addr) (w : World) (hs : s < 4294967296) (hl : ∀ n ∈ l, n < 256) (hlen : l.length ≤ 140737488351232)
    (hn : n = l.length) (hrow : Row w a l) (hc : w.cell? c = some (.int .u32 3988292384)) :
    Calls Tryz.prog 85 #[.int .u32 (s : Int), .slice a n cap, .func (.func 95) #[] #[.pointer (some c)]] w fun e w' => e = .returned (.int .u32 (Crc.fold s l : Int)) ∧ w = w' := by
  subst hn
  rcases hrow with rfl | ⟨b, off, rfl, _, hrow⟩
  · exact fold32_none s a cap _ w
  · exact fold32_some s b off cap l c w hs hl hlen hrow hc
theorem not_u32 (n : Nat) (h : n < 4294967296) : bits BinOp.xor IntKind.u32 IntKind.u32.max (n : Int) = ((Crc.inv n : Nat) : Int) := by
  rw [show IntKind.u32.max = ((4294967295 : Nat) : Int) from rfl, u32_xor_nat _ _ (by omega) h, Nat.xor_comm, ← Crc.inv_xor h]

theorem Row.below {w w' : World} {a : Option Addr} {l : List Nat} (h : Row w a l) (hb : Below w.heap.size w w') : Row w' a l := by
  rcases h with h | ⟨b, off, h1, h2, h3⟩
  · exact .inl h
  · exact .inr ⟨b, off, h1, Nat.lt_of_lt_of_le h2 hb.size, fun i hi => by rw [hb.cell (p := ⟨b, off + i, none⟩) h2]; exact h3 i hi⟩

theorem below_alloc (w : World) (o : Obj) : Below w.heap.size w (w.alloc o) := (Below.refl _ _).alloc (Nat.le_refl _) _

theorem cell_new (w : World) (v : Value) (t : TypeId) : (w.alloc (.cells #[v] t)).cell? ⟨w.heap.size, 0, none⟩ = some v := by
  rw [World.cell?_alloc_at _ _ _ _ rfl]; rfl

theorem more_any (s : Nat) (a : Option Addr) (n cap : Nat) (l : List Nat) (w : World) (hs : s < 4294967296) (hl : ∀ n ∈ l, n < 256) (hlen : l.length ≤ 140737488351232)
    (hn : n = l.length) (hrow : Row w a l) :
    Calls Tryz.prog 75 #[.int .u32 (s : Int), .slice a n cap] w fun e w' => e = .returned (.int .u32 (Crc.more s l : Int)) ∧ Below w.heap.size w w' := by
  have Hn := Lib.hid hn
  clear hn
  have h1 := not_u32 s hs
  have hlt := Crc.inv_lt s
  have hf := Crc.fold_lt l hlt hl
  have h2 := not_u32 _ hf
  have H2 := Lib.hid h2
  clear h2
  have hsg : IntKind.u32.signed = false := rfl
  go_enter Tryz.func75, Tryz.ntmps75
  go_wp2_with fail
  refine (dividing_any _).mono ?_
  rintro e w1 ⟨rfl, rfl⟩
  go_wp2_with fail
  refine (fold32_any (Crc.inv s) a n cap l ⟨w.heap.size, 0, none⟩ _ hlt hl hlen Hn.out (hrow.below (below_alloc _ _)) (cell_new _ _ _)).mono ?_
  rintro e w1 ⟨rfl, rfl⟩
  go_wp2_with fail
  go_ret
  exact ⟨ret_eq H2.out, below_alloc _ _⟩

theorem sum_any (a : Option Addr) (n cap : Nat) (l : List Nat) (w : World) (hl : ∀ n ∈ l, n < 256) (hlen : l.length ≤ 140737488351232)
    (hn : n = l.length) (hrow : Row w a l) :
    Calls Tryz.prog 53 #[.slice a n cap] w fun e w' => e = .returned (.int .u32 (Crc.sum l : Int)) ∧ Below w.heap.size w w' := by
  have Hn := Lib.hid hn
  clear hn
  go_enter Tryz.func53, Tryz.ntmps53
  go_wp2_with fail
  refine (more_any 0 a n cap l w (by omega) hl hlen Hn.out hrow).mono ?_
  rintro e w1 ⟨rfl, hb⟩
  go_wp2_with fail
  go_ret
  exact ⟨rfl, hb⟩

end Go.Proofs.YtfmelhcpccghdaaGreat.Cr
