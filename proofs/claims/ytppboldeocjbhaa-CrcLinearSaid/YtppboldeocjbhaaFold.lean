/-
  THE WALKS of crc's closures and folds.
-/
import Derived.Test.YtppboldeocjbhaaRows
import Derived.Test.YtppboldeocjbhaaMath
import Derived.WalkKit
import Derived.WalkLawsBesides
import Derived.Laws.BitsAllLaws
import Derived.Lib.Hide
import Derived.Lib.SlBytesConst
namespace Go.Proofs.Ytppboldeocjbhaa
open Go.RowKit

theorem bit_walk (n : Nat) (hn : n < 4294967296) :
    bits BinOp.xor IntKind.u32 ((n : Int) / 2) (bits BinOp.and IntKind.u32 (n : Int) 1 * 3988292384 % 4294967296) = ((Crc.bit n : Nat) : Int) := by
  have e1 : bits BinOp.and IntKind.u32 (n : Int) 1 = ((n % 2 : Nat) : Int) := by
    have := u32_and_nat n 1 hn (by omega)
    rw [nat_mask1] at this
    exact this
  rw [e1]
  have e2 : ((n % 2 : Nat) : Int) * 3988292384 % 4294967296 = ((n % 2 * Crc.P : Nat) : Int) := by
    unfold Crc.P
    omega
  rw [e2, show (n : Int) / 2 = ((n / 2 : Nat) : Int) from by omega]
  have h3 : n % 2 * Crc.P < 4294967296 := by unfold Crc.P; omega
  rw [u32_xor_nat _ _ (by omega) h3]
  rfl

theorem ret_eq {k : IntKind} {a b : Int} (h : a = b) : Ending.returned (.int k a) = .returned (.int k b) := by rw [h]
theorem val_eq {k : IntKind} {a b : Int} (h : a = b) : Value.int k a = Value.int k b := by rw [h]

/-- crc's step: a byte put to a sum's rest -/
theorem step_any (r x : Nat) (a : Addr) (w : World) (hr : r < 4294967296) (hx : x < 256) (hc : w.cell? a = some (.int .u32 3988292384)) :
    Calls Try.prog 22 #[.int .u32 (r : Int), .int .u8 (x : Int), .pointer (some a)] w fun e w' => e = .returned (.int .u32 (Crc.byte r x : Int)) ∧ w = w' := by
  have hxr : bits .xor .u32 (r : Int) (x : Int) = ((r ^^^ x : Nat) : Int) := u32_xor_nat r x hr (by omega)
  go_enter Try.func22, Try.ntmps22
  go_wp2_with fail
  go_loop [0, 10] (fun v i => ∃ k : Nat, k ≤ 8 ∧ i = .int .i64 k ∧ v = .int .u32 ((Crc.iter k (r ^^^ x) : Nat) : Int)) (fun _ i => 8 - (intOf i).toNat)
  case atStart => exact ⟨0, by omega, rfl, rfl⟩
  case round =>
    obtain ⟨k, hk, rfl, rfl⟩ := hrel
    have hn : Crc.iter k (r ^^^ x) < 4294967296 := Crc.iter_lt k (Crc.xor_lt32 hr (by omega))
    generalize hnn : Crc.iter k (r ^^^ x) = n at *
    have Hn := Lib.hid hnn
    clear hnn
    by_cases hlt : k < 8
    · go_wp2_with fail
      go_round
      case rel => exact ⟨k + 1, by omega, by go_num, val_eq (by rw [bit_walk n hn, Crc.iter_succ, Hn.out])⟩
      case measure => simp [intOf]; omega
    · go_wp2_with fail
      go_ret
      have h8 : k = 8 := by omega
      subst h8
      exact ⟨ret_eq (by unfold Crc.byte; rw [Hn.out]), rfl⟩

/-- the hash's step -/
theorem hstep_any (h x : Nat) (a : Addr) (w : World) (hh : h < 18446744073709551616) (hx : x < 256) (hc : w.cell? a = some (.int .u64 1099511628211)) :
    Calls Try.prog 21 #[.int .u64 (h : Int), .int .u8 (x : Int), .pointer (some a)] w fun e w' => e = .returned (.int .u64 (Crc.hstep h x : Int)) ∧ w = w' := by
  have hxr : bits .xor .u64 (h : Int) (x : Int) = ((h ^^^ x : Nat) : Int) := u64_xor_nat h x hh (by omega)
  go_enter Try.func21, Try.ntmps21
  go_wp2_with fail
  go_ret
  refine ⟨ret_eq ?_, rfl⟩
  rw [IntKind.wrap_u64]
  unfold Crc.hstep
  omega

/-- a slice's value reads as these bytes -/
def Row (w : World) (a : Option Addr) (l : List Nat) : Prop :=
  l = [] ∨ ∃ b off, a = some ⟨b, off, none⟩ ∧ b < w.heap.size ∧ ∀ i, i < l.length → w.cell? ⟨b, off + i, none⟩ = some (.int .u8 ((l.getD i 0 : Nat) : Int))

theorem dividing_any (w : World) : Calls Try.prog 20 #[.int .u32 3988292384] w fun e w' => e = .returned (.func (.func 22) #[] #[.pointer (some ⟨w.heap.size, 0, none⟩)]) ∧ w.alloc (.cells #[.int .u32 3988292384] 23) = w' := by
  go_enter Try.func20, Try.ntmps20
  go_wp2_with fail
  go_ret
  exact ⟨rfl, rfl⟩

theorem multiplying_any (w : World) : Calls Try.prog 18 #[.int .u64 1099511628211] w fun e w' => e = .returned (.func (.func 21) #[] #[.pointer (some ⟨w.heap.size, 0, none⟩)]) ∧ w.alloc (.cells #[.int .u64 1099511628211] 25) = w' := by
  go_enter Try.func18, Try.ntmps18
  go_wp2_with fail
  go_ret
  exact ⟨rfl, rfl⟩

theorem fold_succ {l : List Nat} {k : Nat} (h : k < l.length) (s : Nat) : Crc.fold s (l.take (k + 1)) = Crc.byte (Crc.fold s (l.take k)) (l.getD k 0) := by
  rw [List.take_add_one, Crc.fold_append]
  simp [Crc.fold, h]

theorem take_lt {l : List Nat} (hl : ∀ n ∈ l, n < 256) (k : Nat) : ∀ n ∈ l.take k, n < 256 := fun n hn => hl n (List.mem_of_mem_take hn)

theorem fold32_some (s : Nat) (b off cap : Nat) (l : List Nat) (c : Addr) (w : World) (hs : s < 4294967296) (hl : ∀ n ∈ l, n < 256) (hlen : l.length ≤ 140737488351232)
    (hrow : ∀ i, i < l.length → w.cell? ⟨b, off + i, none⟩ = some (.int .u8 ((l.getD i 0 : Nat) : Int))) (hc : w.cell? c = some (.int .u32 3988292384)) :
    Calls Try.prog 19 #[.int .u32 (s : Int), .slice (some ⟨b, off, none⟩) l.length cap, .func (.func 22) #[] #[.pointer (some c)]] w fun e w' => e = .returned (.int .u32 (Crc.fold s l : Int)) ∧ w = w' := by
  have Hrow := Lib.hid hrow
  clear hrow
  go_enter Try.func19, Try.ntmps19
  go_wp2_with fail
  go_loop [0, 11] (fun v i => ∃ k : Nat, k ≤ l.length ∧ i = .int .i64 k ∧ v = .int .u32 ((Crc.fold s (l.take k) : Nat) : Int)) (fun _ i => l.length - (intOf i).toNat)
  case atStart => exact ⟨0, by omega, rfl, rfl⟩
  case round =>
    obtain ⟨k, hk, rfl, rfl⟩ := hrel
    by_cases hlt : k < l.length
    · have hn : Crc.fold s (l.take k) < 4294967296 := Crc.fold_lt _ hs (take_lt hl k)
      have hx : l.getD k 0 < 256 := Crc.getD_lt hl k
      have hcell := Hrow.out k hlt
      have hnext := fold_succ hlt s
      generalize Crc.fold s (l.take k) = n at *
      generalize l.getD k 0 = x at *
      have Hn := Lib.hid hnext
      clear hnext
      go_wp2_with (go_at_call 22; refine (step_any n x c _ hn hx hc).mono ?_; rintro e w' ⟨rfl, rfl⟩)
      go_round
      case rel => exact ⟨k + 1, by omega, by go_num, val_eq (by rw [Hn.out])⟩
      case measure => simp [intOf]; omega
    · have he : k = l.length := by omega
      have ht : Crc.fold s (l.take k) = Crc.fold s l := by rw [he, List.take_length]
      rw [ht]
      go_wp2_with fail
      go_ret
      exact ⟨rfl, rfl⟩

theorem fold32_none (s : Nat) (a : Option Addr) (cap : Nat) (f : Value) (w : World) :
    Calls Try.prog 19 #[.int .u32 (s : Int), .slice a 0 cap, f] w fun e w' => e = .returned (.int .u32 (s : Int)) ∧ w = w' := by
  go_enter Try.func19, Try.ntmps19
  go_wp2_with fail
  refine wp_loop_rounds 1 ?_
  rw [rounds_succ]
  go_wp2_with fail
  go_ret
  exact ⟨rfl, rfl⟩

theorem fold32_any (s : Nat) (a : Option Addr) (n cap : Nat) (l : List Nat) (c : Addr) (w : World) (hs : s < 4294967296) (hl : ∀ n ∈ l, n < 256) (hlen : l.length ≤ 140737488351232)
    (hn : n = l.length) (hrow : Row w a l) (hc : w.cell? c = some (.int .u32 3988292384)) :
    Calls Try.prog 19 #[.int .u32 (s : Int), .slice a n cap, .func (.func 22) #[] #[.pointer (some c)]] w fun e w' => e = .returned (.int .u32 (Crc.fold s l : Int)) ∧ w = w' := by
  subst hn
  rcases hrow with rfl | ⟨b, off, rfl, _, hrow⟩
  · exact fold32_none s a cap _ w
  · exact fold32_some s b off cap l c w hs hl hlen hrow hc
theorem fold64_some (s : Nat) (b off cap : Nat) (l : List Nat) (c : Addr) (w : World) (hs : s < 18446744073709551616) (hl : ∀ n ∈ l, n < 256) (hlen : l.length ≤ 140737488351232)
    (hrow : ∀ i, i < l.length → w.cell? ⟨b, off + i, none⟩ = some (.int .u8 ((l.getD i 0 : Nat) : Int))) (hc : w.cell? c = some (.int .u64 1099511628211)) :
    Calls Try.prog 17 #[.int .u64 (s : Int), .slice (some ⟨b, off, none⟩) l.length cap, .func (.func 21) #[] #[.pointer (some c)]] w fun e w' => e = .returned (.int .u64 (Crc.hfold s l : Int)) ∧ w = w' := by
  have Hrow := Lib.hid hrow
  clear hrow
  go_enter Try.func17, Try.ntmps17
  go_wp2_with fail
  go_loop [0, 11] (fun v i => ∃ k : Nat, k ≤ l.length ∧ i = .int .i64 k ∧ v = .int .u64 ((Crc.hfold s (l.take k) : Nat) : Int)) (fun _ i => l.length - (intOf i).toNat)
  case atStart => exact ⟨0, by omega, rfl, val_eq (by rw [List.take_zero, Crc.hfold_nil])⟩
  case round =>
    obtain ⟨k, hk, rfl, rfl⟩ := hrel
    by_cases hlt : k < l.length
    · have hn : Crc.hfold s (l.take k) < 18446744073709551616 := Crc.hfold_lt _ hs
      have hx : l.getD k 0 < 256 := Crc.getD_lt hl k
      have hcell := Hrow.out k hlt
      have hnext := Crc.hfold_succ hlt s
      generalize Crc.hfold s (l.take k) = n at *
      generalize l.getD k 0 = x at *
      have Hn := Lib.hid hnext
      clear hnext
      go_wp2_with (go_at_call 21; refine (hstep_any n x c _ hn hx hc).mono ?_; rintro e w' ⟨rfl, rfl⟩)
      go_round
      case rel => exact ⟨k + 1, by omega, by go_num, val_eq (by rw [Hn.out])⟩
      case measure => simp [intOf]; omega
    · have he : k = l.length := by omega
      have ht : Crc.hfold s (l.take k) = Crc.hfold s l := by rw [he, List.take_length]
      rw [ht]
      go_wp2_with fail
      go_ret
      exact ⟨rfl, rfl⟩

theorem fold64_none (s : Nat) (a : Option Addr) (cap : Nat) (f : Value) (w : World) :
    Calls Try.prog 17 #[.int .u64 (s : Int), .slice a 0 cap, f] w fun e w' => e = .returned (.int .u64 (s : Int)) ∧ w = w' := by
  go_enter Try.func17, Try.ntmps17
  go_wp2_with fail
  refine wp_loop_rounds 1 ?_
  rw [rounds_succ]
  go_wp2_with fail
  go_ret
  exact ⟨rfl, rfl⟩

theorem fold64_any (s : Nat) (a : Option Addr) (n cap : Nat) (l : List Nat) (c : Addr) (w : World) (hs : s < 18446744073709551616) (hl : ∀ n ∈ l, n < 256) (hlen : l.length ≤ 140737488351232)
    (hn : n = l.length) (hrow : Row w a l) (hc : w.cell? c = some (.int .u64 1099511628211)) :
    Calls Try.prog 17 #[.int .u64 (s : Int), .slice a n cap, .func (.func 21) #[] #[.pointer (some c)]] w fun e w' => e = .returned (.int .u64 (Crc.hfold s l : Int)) ∧ w = w' := by
  subst hn
  rcases hrow with rfl | ⟨b, off, rfl, _, hrow⟩
  · rw [Crc.hfold_nil]
    exact fold64_none s a cap _ w
  · exact fold64_some s b off cap l c w hs hl hlen hrow hc
theorem not_u32 (n : Nat) (h : n < 4294967296) : bits BinOp.xor IntKind.u32 IntKind.u32.max (n : Int) = ((Crc.inv n : Nat) : Int) := by
  rw [show IntKind.u32.max = ((4294967295 : Nat) : Int) from rfl, u32_xor_nat _ _ (by omega) h, Nat.xor_comm, ← Crc.inv_xor h]

theorem Row.below {w w' : World} {a : Option Addr} {l : List Nat} (h : Row w a l) (hb : Below w.heap.size w w') : Row w' a l := by
  rcases h with h | ⟨b, off, h1, h2, h3⟩
  · exact .inl h
  · exact .inr ⟨b, off, h1, Nat.lt_of_lt_of_le h2 hb.size, fun i hi => by rw [hb.cell (p := ⟨b, off + i, none⟩) h2]; exact h3 i hi⟩

theorem below_alloc (w : World) (o : Obj) : Below w.heap.size w (w.alloc o) := (Below.refl _ _).alloc (Nat.le_refl _) _

theorem cell_new (w : World) (v : Value) (t : TypeId) : (w.alloc (.cells #[v] t)).cell? ⟨w.heap.size, 0, none⟩ = some v := by
  rw [World.cell?_alloc_at _ _ _ _ rfl]; rfl

theorem more_any (s : Nat) (a : Option Addr) (n cap : Nat) (l : List Nat) (w : World) (hs : s < 4294967296) (hl : ∀ n ∈ l, n < 256) (hlen : l.length ≤ 140737488351232)
    (hn : n = l.length) (hrow : Row w a l) :
    Calls Try.prog 15 #[.int .u32 (s : Int), .slice a n cap] w fun e w' => e = .returned (.int .u32 (Crc.more s l : Int)) ∧ Below w.heap.size w w' := by
  have Hn := Lib.hid hn
  clear hn
  have h1 := not_u32 s hs
  have hlt := Crc.inv_lt s
  have hf := Crc.fold_lt l hlt hl
  have h2 := not_u32 _ hf
  have H2 := Lib.hid h2
  clear h2
  have hsg : IntKind.u32.signed = false := rfl
  go_enter Try.func15, Try.ntmps15
  go_wp2_with fail
  refine (dividing_any _).mono ?_
  rintro e w1 ⟨rfl, rfl⟩
  go_wp2_with fail
  refine (fold32_any (Crc.inv s) a n cap l ⟨w.heap.size, 0, none⟩ _ hlt hl hlen Hn.out (hrow.below (below_alloc _ _)) (cell_new _ _ _)).mono ?_
  rintro e w1 ⟨rfl, rfl⟩
  go_wp2_with fail
  go_ret
  exact ⟨ret_eq H2.out, below_alloc _ _⟩

theorem sum_any (a : Option Addr) (n cap : Nat) (l : List Nat) (w : World) (hl : ∀ n ∈ l, n < 256) (hlen : l.length ≤ 140737488351232)
    (hn : n = l.length) (hrow : Row w a l) :
    Calls Try.prog 10 #[.slice a n cap] w fun e w' => e = .returned (.int .u32 (Crc.sum l : Int)) ∧ Below w.heap.size w w' := by
  have Hn := Lib.hid hn
  clear hn
  go_enter Try.func10, Try.ntmps10
  go_wp2_with fail
  refine (more_any 0 a n cap l w (by omega) hl hlen Hn.out hrow).mono ?_
  rintro e w1 ⟨rfl, hb⟩
  go_wp2_with fail
  go_ret
  exact ⟨rfl, hb⟩

theorem hash_any (a : Option Addr) (n cap : Nat) (l : List Nat) (w : World) (hl : ∀ n ∈ l, n < 256) (hlen : l.length ≤ 140737488351232)
    (hn : n = l.length) (hrow : Row w a l) :
    Calls Try.prog 12 #[.slice a n cap] w fun e w' => e = .returned (.int .u64 (Crc.hash l : Int)) ∧ Below w.heap.size w w' := by
  have Hn := Lib.hid hn
  clear hn
  go_enter Try.func12, Try.ntmps12
  go_wp2_with fail
  refine (multiplying_any _).mono ?_
  rintro e w1 ⟨rfl, rfl⟩
  go_wp2_with fail
  refine (fold64_any 14695981039346656037 a n cap l ⟨w.heap.size, 0, none⟩ _ (by omega) hl hlen Hn.out (hrow.below (below_alloc _ _)) (cell_new _ _ _)).mono ?_
  rintro e w1 ⟨rfl, rfl⟩
  go_wp2_with fail
  go_ret
  exact ⟨rfl, below_alloc _ _⟩

theorem row_mark (w : World) (C : Array Value) (t : TypeId) (fr : Nat × Nat) (l : List Nat) (h : ∀ i, i < l.length → C[i]? = some (.int .u8 ((l.getD i 0 : Nat) : Int))) :
    Row (w.alloc (.cells C t fr)) (some ⟨w.heap.size, 0, none⟩) l := by
  refine .inr ⟨_, _, rfl, by simp, fun i hi => ?_⟩
  rw [Nat.zero_add, World.cell?_alloc_mark]
  exact h i hi

theorem row_list (w : World) (l : List Nat) (C : Array Value) (t : TypeId) (fr : Nat × Nat) (hC : C = (l.map fun (n : Nat) => Value.int .u8 (n : Int)).toArray) :
    Row (w.alloc (.cells C t fr)) (some ⟨w.heap.size, 0, none⟩) l := by
  subst hC
  refine row_mark _ _ _ _ _ fun i hi => ?_
  simp [hi]

theorem ex_sum : Crc.sum [49, 50, 51, 52, 53, 54, 55, 56, 57] = 3421780262 := by decide +kernel
theorem ex_hash0 : Crc.hash [] = 14695981039346656037 := by decide +kernel
theorem ex_hash1 : Crc.hash [97] = 12638187200555641996 := by decide +kernel

theorem awake_any (w : World) : Calls Try.prog 14 #[] w fun e w' => e = .returned (.bool true) ∧ Below w.heap.size w w' := by
  have kc := fun (w : World) (C : Array Value) (n c : Nat) => Lib.run_convert_bytes_const (P := Try.prog) w 22 5 C n c Try.underlying22 Try.underlying5
  go_enter Try.func14, Try.ntmps14
  go_wp2_with fail
  refine (sum_any _ _ _ [49, 50, 51, 52, 53, 54, 55, 56, 57] _ (by decide) (by decide) rfl (row_list _ _ _ _ _ rfl)).mono ?_
  rintro e w1 ⟨rfl, hb1⟩
  rw [ex_sum]
  have hb1 := (below_alloc w _).trans (hb1.mono (by simp))
  go_wp2_with fail
  refine (hash_any none 0 0 [] _ (by simp) (by simp) rfl (.inl rfl)).mono ?_
  rintro e w2 ⟨rfl, hb2⟩
  rw [ex_hash0]
  have hb2 := hb1.trans (hb2.mono hb1.size)
  clear hb1
  go_wp2_with fail
  refine (hash_any _ _ _ [97] _ (by decide) (by decide) rfl (row_list _ _ _ _ _ rfl)).mono ?_
  rintro e w3 ⟨rfl, hb3⟩
  rw [ex_hash1]
  have hb3 := (hb2.alloc hb2.size _).trans (hb3.mono (by simp; have := hb2.size; omega))
  clear hb2
  go_wp2_with fail
  go_ret
  exact ⟨rfl, hb3⟩

end Go.Proofs.Ytppboldeocjbhaa
