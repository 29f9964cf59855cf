/-
  pack, AND THE DOCUMENT's, WALKED: slices of bytes as lists of numbers; putting; readers.
-/
import Derived.Test.YtofdnbddpageoaaRows
import Derived.WalkKit
import Derived.WalkLawsBesides
import Derived.Laws.BitsAllLaws
import Derived.Lib.Hide
import Derived.Lib.SlBytesConst
import Derived.Lib.AppendStr
import Derived.OpenShut
import Derived.Laws.AppendOwnNone
import Derived.Laws.CopyOwn
import Derived.OneCell
import Derived.Deep.QuietTactic
import Derived.BigQuiet
namespace Go.Proofs.Ytofdnbddpageoaa.Pk
open Go.RowKit

theorem ret_eq {k : IntKind} {a b : Int} (h : a = b) : Ending.returned (.int k a) = .returned (.int k b) := by rw [h]
theorem val_eq {k : IntKind} {a b : Int} (h : a = b) : Value.int k a = Value.int k b := by rw [h]

/-- a slice's value reads as these bytes -/
def Row (w : World) (a : Option Addr) (l : List Nat) : Prop :=
  l = [] ∨ ∃ b off, a = some ⟨b, off, none⟩ ∧ b < w.heap.size ∧ ∀ i, i < l.length → w.cell? ⟨b, off + i, none⟩ = some (.int .u8 ((l.getD i 0 : Nat) : Int))

theorem Row.below {w w' : World} {a : Option Addr} {l : List Nat} (h : Row w a l) (hb : Below w.heap.size w w') : Row w' a l := by
  rcases h with h | ⟨b, off, h1, h2, h3⟩
  · exact .inl h
  · exact .inr ⟨b, off, h1, Nat.lt_of_lt_of_le h2 hb.size, fun i hi => by rw [hb.cell (p := ⟨b, off + i, none⟩) h2]; exact h3 i hi⟩

theorem below_alloc (w : World) (o : Obj) : Below w.heap.size w (w.alloc o) := (Below.refl _ _).alloc (Nat.le_refl _) _

theorem cell_new (w : World) (v : Value) (t : TypeId) : (w.alloc (.cells #[v] t)).cell? ⟨w.heap.size, 0, none⟩ = some v := by
  rw [World.cell?_alloc_at _ _ _ _ rfl]; rfl

theorem row_mark (w : World) (C : Array Value) (t : TypeId) (fr : Nat × Nat) (l : List Nat) (h : ∀ i, i < l.length → C[i]? = some (.int .u8 ((l.getD i 0 : Nat) : Int))) :
    Row (w.alloc (.cells C t fr)) (some ⟨w.heap.size, 0, none⟩) l := by
  refine .inr ⟨_, _, rfl, by simp, fun i hi => ?_⟩
  rw [Nat.zero_add, World.cell?_alloc_mark]
  exact h i hi

theorem row_list (w : World) (l : List Nat) (C : Array Value) (t : TypeId) (fr : Nat × Nat) (hC : C = (l.map fun (n : Nat) => Value.int .u8 (n : Int)).toArray) :
    Row (w.alloc (.cells C t fr)) (some ⟨w.heap.size, 0, none⟩) l := by
  subst hC
  refine row_mark _ _ _ _ _ fun i hi => ?_
  simp [hi]

def IsRow (k : IntKind) (w : World) (a : Option Addr) (len cap : Nat) (zs : List Int) : Prop :=
  (a = none ∧ len = 0 ∧ cap = 0 ∧ zs = []) ∨
  ∃ x, a = some x ∧ len ≤ cap ∧ cap ≤ maxLen ∧ zs.length = cap ∧ (∀ i, i < zs.length → w.cell? (x.add i) = some (.int k (zs.getD i 0))) ∧ ∀ n ∈ zs, (Lit.int k n).wf = true

theorem lt_of_cell {w : World} {p : Addr} {v : Value} (h : w.cell? p = some v) : p.block < w.heap.size := by
  rcases Nat.lt_or_ge p.block w.heap.size with h' | h'
  · exact h'
  · simp [World.cell?, Array.getElem?_eq_none h'] at h

theorem u8_bounds {n : Int} (h : (Lit.int .u8 n).wf = true) : 0 ≤ n ∧ n ≤ 255 := by
  simpa [Lit.wf, IntKind.min, IntKind.max, IntKind.signed, IntKind.bits] using h

theorem u16_bounds {n : Int} (h : (Lit.int .u16 n).wf = true) : 0 ≤ n ∧ n ≤ 65535 := by
  simpa [Lit.wf, IntKind.min, IntKind.max, IntKind.signed, IntKind.bits] using h

theorem u32_bounds {n : Int} (h : (Lit.int .u32 n).wf = true) : 0 ≤ n ∧ n ≤ 4294967295 := by
  simpa [Lit.wf, IntKind.min, IntKind.max, IntKind.signed, IntKind.bits] using h

theorem nil_of {k : IntKind} {w : World} {a : Option Addr} {len cap : Nat} {zs : List Int} (h : IsRow k w a len cap zs) : a = none → cap = 0 := by
  rcases h with ⟨_, _, h, _⟩ | ⟨x, rfl, _⟩
  · exact fun _ => h
  · exact fun e => by cases e

theorem cap_of {k : IntKind} {w : World} {a : Option Addr} {len cap : Nat} {zs : List Int} (h : IsRow k w a len cap zs) : len ≤ cap := by
  rcases h with ⟨_, h, h', _⟩ | ⟨x, _, h, _⟩
  · omega
  · exact h

theorem bytes_of {w : World} {a : Option Addr} {len cap : Nat} {zs : List Int} (h : IsRow .u8 w a len cap zs) :
    ∃ l : List Nat, len = l.length ∧ (∀ n ∈ l, n < 256) ∧ Row w a l := by
  rcases h with ⟨_, h1, _, _⟩ | ⟨x, rfl, h1, _, h3, h4, h5⟩
  · exact ⟨[], h1, by simp, .inl rfl⟩
  · have hl : len = ((zs.take len).map Int.toNat).length := by simp; omega
    refine ⟨(zs.take len).map Int.toNat, hl, ?_, ?_⟩
    · intro n hn
      obtain ⟨z, hz, rfl⟩ := List.mem_map.1 hn
      have := u8_bounds (h5 z (List.mem_of_mem_take hz))
      omega
    · by_cases hp : 0 < zs.length
      · obtain ⟨b, off, rfl, hc⟩ := ints_at h4 hp
        refine .inr ⟨b, off, rfl, lt_of_cell (hc 0 hp), fun i hi => ?_⟩
        have hi2 : i < len := by rw [hl]; exact hi
        rw [hc i (by omega)]
        have hz : i < zs.length := by omega
        have hb := u8_bounds (h5 zs[i] (by simp))
        have e : zs.getD i 0 = zs[i] := by simp [List.getD, hz]
        have e2 : ((zs.take len).map Int.toNat).getD i 0 = zs[i].toNat := by simp [List.getD, hi2, hz]
        rw [e, e2]
        congr 2
        omega
      · refine .inl ?_
        have : zs = [] := List.eq_nil_of_length_eq_zero (by omega)
        simp [this]

def bytesV (l : List Nat) : List Value := l.map fun (n : Nat) => Value.int .u8 (n : Int)

theorem bytesV_append (a b : List Nat) : bytesV (a ++ b) = bytesV a ++ bytesV b := by simp [bytesV]
theorem bytesV_length (l : List Nat) : (bytesV l).length = l.length := by simp [bytesV]

theorem info5 : (Try.prog.info? 5).map (fun i => (i.zero, i.size, i.bytes)) = some (some (.int .u8 0), 1, 1) := by kernel_rfl

theorem row_cells {w : World} {x : Addr} {l : List Nat} (h : Row w (some x) l) : ∀ j u, (bytesV l)[j]? = some u → w.cell? (x.add j) = some u := by
  intro j u hu
  unfold bytesV at hu
  rw [List.getElem?_map] at hu
  obtain ⟨n, hn, rfl⟩ := Option.map_eq_some_iff.1 hu
  have hj : j < l.length := by
    rcases Nat.lt_or_ge j l.length with h | h
    · exact h
    · rw [List.getElem?_eq_none h] at hn; cases hn
  rcases h with rfl | ⟨b, off, e, _, hc⟩
  · simp at hj
  · cases e
    rw [Go.WideShapes.add_plain, hc j hj]
    simp [List.getD, hn]

/-- what an append to a row of the call's own leaves of what was there ahead -/
theorem below_grown {w w' : World} {base : Nat} {v : Value} {n : Nat} {xs : List Value} (hown : w.ownsRow base 5 1 v n xs) (hg : w.grownBy w' v.ownBlock) (hb : base ≤ w.heap.size) : Below base w w' :=
  (Below.refl _ _).grown hg hb fun k hk => (hown.lt k hk).1

theorem wpList_append_bytes0 {w : World} {ops : Array Oper} {rest : List Oper} {o : Oper} {a : Act} {Q : Exit → Act → World → Prop} (hgd : o.guard = none) (s x : Operand)
    (ho : o.op = .call { callee := .builtin .append, args := #[s, x], argTypes := #[32, 32] })
    (base : Nat) (v : Value) (n : Nat) (xs : List Nat) (hs : a.eval s = v) (hown : w.ownsRow base 5 1 v n (bytesV xs))
    (ad : Option Addr) (m c : Nat) (l : List Nat) (hx : a.eval x = .slice ad m c) (hm : m = l.length) (hnil : ad = none → c = 0) (hrow : Row w ad l)
    (hbytes : n + m ≤ 140737488351232) (hbase : base ≤ w.heap.size)
    (h : ∀ v' w', w'.ownsRow base 5 1 v' (n + m) (bytesV (xs ++ l)) → Below base w w' → wpList Try.prog ops Q rest (a.put o.dst v') w') : wpList Try.prog ops Q (o :: rest) a w := by
  obtain ⟨i0, hi, hz0, hz1, hz2⟩ := info_parts info5
  cases ad with
  | none =>
    have hl : l = [] := by
      rcases hrow with h | ⟨_, _, e, _⟩
      · exact h
      · cases e
    subst hl
    obtain rfl : c = 0 := hnil rfl
    obtain rfl : m = 0 := hm
    refine wpList_append_own_none hgd s x 32 ho base 5 i0 1 Try.underlying32 hi v n (bytesV xs) hs hown hx ?_
    refine h v w ?_ (Below.refl _ _)
    simpa using hown
  | some ad =>
    refine wpList_append_own w hgd s x 32 ho base 5 i0 (.int .u8 0) 1 1 Try.underlying32 hi hz0 hz1 hz2 rfl (by decide) v n (bytesV xs) hs hown ad m c (bytesV l) hx (by rw [bytesV_length]; omega) (row_cells hrow) ?_ (by unfold maxLen; omega) (by omega) hbase ?_
    · intro u hu
      unfold bytesV at hu
      obtain ⟨k, _, rfl⟩ := List.mem_map.1 hu
      rfl
    · intro v' w' h1 h2 _
      exact h v' w' (by rw [bytesV_append]; exact h1) (below_grown hown h2 hbase)

/-- what is owned reads as its bytes -/
theorem row_owned {w : World} {base : Nat} {v : Value} {n : Nat} {xs : List Nat} (h : w.ownsRow base 5 1 v n (bytesV xs)) :
    ∃ a cap, v = .slice a n cap ∧ n = xs.length ∧ Row w a xs ∧ (a = none → cap = 0) := by
  have hn : n = xs.length := by have := h.1; rw [bytesV_length] at this; omega
  rcases h.2 with ⟨rfl, rfl⟩ | ⟨g, cap, cur, rfl, hb, hg, hle, _, hsz, htake⟩
  · exact ⟨none, 0, rfl, hn, .inl (List.eq_nil_of_length_eq_zero hn.symm), fun _ => rfl⟩
  · refine ⟨some ⟨g, 0, none⟩, cap, rfl, hn, .inr ⟨g, 0, rfl, (Array.getElem?_eq_some_iff.1 hg).1, fun i hi => ?_⟩, fun e => by cases e⟩
    have hc := h.cells (g := g) rfl i (.int .u8 ((xs.getD i 0 : Nat) : Int)) (by simp [bytesV, hi])
    rw [Go.WideShapes.add_plain] at hc
    exact hc

/-- the same, its end in the walk's own form: a value of three parts, its length a number of its own -/
theorem wpList_append_bytes {w : World} {ops : Array Oper} {rest : List Oper} {o : Oper} {a : Act} {Q : Exit → Act → World → Prop} (hgd : o.guard = none) (s x : Operand)
    (ho : o.op = .call { callee := .builtin .append, args := #[s, x], argTypes := #[32, 32] })
    (base : Nat) (v : Value) (n : Nat) (xs : List Nat) (hs : a.eval s = v) (hown : w.ownsRow base 5 1 v n (bytesV xs))
    (ad : Option Addr) (m c : Nat) (l : List Nat) (hx : a.eval x = .slice ad m c) (hm : m = l.length) (hnil : ad = none → c = 0) (hrow : Row w ad l)
    (ys : List Nat) (hys : xs ++ l = ys) (hbytes : n + m ≤ 140737488351232) (hbase : base ≤ w.heap.size)
    (h : ∀ a' n' c' w', w'.ownsRow base 5 1 (.slice a' n' c') n' (bytesV ys) → Hid (n' = ys.length) → n' ≤ n + m → Row w' a' ys → Hid (a' = none → c' = 0) → Below base w w' → wpList Try.prog ops Q rest (a.put o.dst (.slice a' n' c')) w') : wpList Try.prog ops Q (o :: rest) a w := by
  subst hys
  refine wpList_append_bytes0 hgd s x ho base v n xs hs hown ad m c l hx hm hnil hrow hbytes hbase fun v' w' h1 h2 => ?_
  obtain ⟨a', c', rfl, hn, hr, hc⟩ := row_owned h1
  exact h a' (n + m) c' w' h1 hn (Nat.le_refl _) hr hc h2

theorem owns_made (w : World) (base : Nat) (hb : base ≤ w.heap.size) : (w.alloc (.cells #[] 5)).ownsRow base 5 1 (.slice (some ⟨w.heap.size, 0, none⟩) 0 0) 0 (bytesV []) :=
  World.ownsRow_made w #[] 0 hb (by unfold maxLen; omega) rfl

theorem app_lt {a b : List Nat} (ha : ∀ n ∈ a, n < 256) (hb : ∀ n ∈ b, n < 256) : ∀ n ∈ a ++ b, n < 256 := fun n hn => by
  rcases List.mem_append.1 hn with h | h
  · exact ha n h
  · exact hb n h

theorem cell_keep {w : World} {p : Addr} {v : Value} (h : w.cell? p = some v) (o : Obj) : (w.alloc o).cell? p = some v := by
  rw [← h]
  exact (below_alloc w o).cell (lt_of_cell h)

theorem Row.drew {w : World} {a : Option Addr} {l : List Nat} (h : Row w a l) : Row w.drew a l := by
  rcases h with h | ⟨b, off, h1, h2, h3⟩
  · exact .inl h
  · exact .inr ⟨b, off, h1, h2, h3⟩

theorem Row.alloc {w : World} {a : Option Addr} {l : List Nat} (h : Row w a l) (o : Obj) : Row (w.alloc o) a l := h.below (below_alloc _ _)

theorem below_step {w W w1 : World} (hb : Below W.heap.size W w1) (h : Below w.heap.size w W) : Below w.heap.size w w1 := h.trans (hb.mono h.size)

theorem below_al {w W : World} (h : Below w.heap.size w W) (o : Obj) : Below w.heap.size w (W.alloc o) := h.alloc h.size _

theorem u64_bounds {n : Int} (h : (Lit.int .u64 n).wf = true) : 0 ≤ n ∧ n ≤ 18446744073709551615 := by
  simpa [Lit.wf, IntKind.min, IntKind.max, IntKind.signed, IntKind.bits] using h

theorem getD_lt {l : List Nat} (h : ∀ n ∈ l, n < 256) (k : Nat) : l.getD k 0 < 256 := by
  by_cases hk : k < l.length
  · have := h l[k] (by simp)
    simpa [List.getD, hk] using this
  · simp [List.getD, List.getElem?_eq_none (Nat.le_of_not_lt hk)]

theorem take_lt {l : List Nat} (hl : ∀ n ∈ l, n < 256) (k : Nat) : ∀ n ∈ l.take k, n < 256 := fun n hn => hl n (List.mem_of_mem_take hn)

theorem take_snoc {l : List Nat} {k : Nat} (h : k < l.length) : l.take (k + 1) = l.take k ++ [l.getD k 0] := by
  rw [List.take_add_one]
  simp [h]

set_option maxRecDepth 100000 in
theorem len64_16 (w : World) : Calls Try.prog 84 #[.int .u64 65535] w fun e w' => e = .returned (.int .i64 16) ∧ w = w' := by
  go_enter Try.func84, Try.ntmps84
  go_wp2
  go_ret
  exact ⟨ret_eq (by decide +kernel), rfl⟩

set_option maxRecDepth 100000 in
theorem len64_32 (w : World) : Calls Try.prog 84 #[.int .u64 4294967295] w fun e w' => e = .returned (.int .i64 32) ∧ w = w' := by
  go_enter Try.func84, Try.ntmps84
  go_wp2
  go_ret
  exact ⟨ret_eq (by decide +kernel), rfl⟩

set_option maxRecDepth 100000 in
theorem len64_64 (w : World) : Calls Try.prog 84 #[.int .u64 18446744073709551615] w fun e w' => e = .returned (.int .i64 64) ∧ w = w' := by
  go_enter Try.func84, Try.ntmps84
  go_wp2
  go_ret
  exact ⟨ret_eq (by decide +kernel), rfl⟩

theorem width32 (w : World) : Calls Try.prog 72 #[] w fun e w' => e = .returned (.int .i64 4) ∧ w = w' := by
  have hsg : IntKind.u32.signed = false := rfl
  have hx : bits BinOp.xor IntKind.u32 IntKind.u32.max 0 = 4294967295 := by decide +kernel
  go_enter Try.func72, Try.ntmps72
  go_wp2_with fail
  refine (len64_32 _).mono ?_
  rintro e w1 ⟨rfl, rfl⟩
  go_wp2_with fail
  go_ret
  exact ⟨rfl, rfl⟩

theorem width64 (w : World) : Calls Try.prog 74 #[] w fun e w' => e = .returned (.int .i64 8) ∧ w = w' := by
  have hsg : IntKind.u64.signed = false := rfl
  have hx : bits BinOp.xor IntKind.u64 IntKind.u64.max 0 = 18446744073709551615 := by decide +kernel
  go_enter Try.func74, Try.ntmps74
  go_wp2_with fail
  refine (len64_64 _).mono ?_
  rintro e w1 ⟨rfl, rfl⟩
  go_wp2_with fail
  go_ret
  exact ⟨rfl, rfl⟩

theorem width16 (w : World) : Calls Try.prog 70 #[] w fun e w' => e = .returned (.int .i64 2) ∧ w = w' := by
  have hsg : IntKind.u16.signed = false := rfl
  have hx : bits BinOp.xor IntKind.u16 IntKind.u16.max 0 = 65535 := by decide +kernel
  go_enter Try.func70, Try.ntmps70
  go_wp2_with fail
  refine (len64_16 _).mono ?_
  rintro e w1 ⟨rfl, rfl⟩
  go_wp2_with fail
  go_ret
  exact ⟨rfl, rfl⟩

theorem row_cells' {w : World} {a : Option Addr} {l : List Nat} (h : Row w a l) : 0 < (bytesV l).length → ∃ ad, a = some ad ∧ ∀ j v, (bytesV l)[j]? = some v → w.cell? (ad.add j) = some v := by
  intro hp
  rcases h with rfl | ⟨b, off, h1, h2, h3⟩
  · simp [bytesV] at hp
  · exact ⟨_, h1, row_cells (h1 ▸ (.inr ⟨b, off, h1, h2, h3⟩))⟩

theorem made_list (n : Nat) : ∃ Z : List Value, madeCells #[.int .u8 0] n = Z.toArray ∧ Z.length = n :=
  ⟨(madeCells #[.int .u8 0] n).toList, by simp, by simp [size_madeCells]⟩

theorem one_bytes (l : List Nat) : ∀ v ∈ bytesV l, v.oneCell' = true := by
  intro u hu
  unfold bytesV at hu
  obtain ⟨k, _, rfl⟩ := List.mem_map.1 hu
  rfl

/-- what copy(own, b) leaves where own was just made: b's bytes -/
theorem copy_made {w : World} {a : Option Addr} {n cap k : Nat} {C Z : List Value} (hC : C.length = n) (hZ : Z.length = n + k)
    (hcs : 0 < C.length → ∃ ad, a = some ad ∧ ∀ j v, C[j]? = some v → w.cell? (ad.add j) = some v) (hone : ∀ v ∈ C, v.oneCell' = true) :
    ∃ w2, (Builtin.copy_ #[32, 32] 3 #[.slice (some ⟨w.heap.size, 0, none⟩) n (n + k), .slice a n cap]).run Try.prog (w.alloc (.cells Z.toArray 5)) = .ok (goInt n) w2 ∧
      w2.heap[w.heap.size]? = some (.cells (splice Z 0 C).toArray 5 (0, 0)) ∧ Below w.heap.size w w2 := by
  obtain ⟨i0, hi, hz0, hz1, hz2⟩ := info_parts info5
  have hsz : (Try.prog.info? 5).map (·.size) = some 1 := by rw [hi]; simp [hz1]
  by_cases h0 : n = 0
  · subst h0
    obtain rfl : C = [] := List.eq_nil_of_length_eq_zero hC
    exact ⟨_, run_copy_none (P := Try.prog) _ 32 32 3 5 _ _ _ _ _ _ Try.underlying32 hsz rfl, by simpa [splice] using heap_alloc_new w (.cells Z.toArray 5), below_alloc _ _⟩
  · obtain ⟨ad, rfl, hc⟩ := hcs (by omega)
    refine ⟨_, ?_, setRow_heap (w.alloc (.cells Z.toArray 5)) w.heap.size Z.toArray _ 5 _ (heap_alloc_new w _), below_setRow (below_alloc _ _) (Nat.le_refl _) _⟩
    have h := run_copy_row (P := Try.prog) (w.alloc (.cells Z.toArray 5)) 32 32 3 5 w.heap.size 0 n (n + k) ad n cap Z.toArray 5 C Try.underlying32 hsz (heap_alloc_new w _) (by rw [hC]; exact (Nat.min_self n).symm) (fun j v hj => cell_keep (hc j v hj) _) (by simp; omega) hone
    rw [h, hC]
    simp [splice, hC]

theorem withRoom_any (a : Option Addr) (n cap : Nat) (l : List Nat) (r : Nat) (w : World)
    (hn : Hid (n = l.length)) (hrow : Row w a l) (hlen : n ≤ 1000000) (hr : r ≤ 1000000) :
    Calls Try.prog 55 #[.slice a n cap, .int .i64 (r : Int)] w fun e w' => e = .returned (.slice (some ⟨w.heap.size, 0, none⟩) n (n + r)) ∧ w'.ownsRow w.heap.size 5 1 (.slice (some ⟨w.heap.size, 0, none⟩) n (n + r)) n (bytesV l) ∧ Below w.heap.size w w' := by
  obtain ⟨i0, hi, hz0, hz1, hz2⟩ := info_parts info5
  have hmk := run_make (P := Try.prog) w 32 5 i0 (.int .u8 0) Try.underlying32 hi hz0 .i64 .i64 (n : Int) ((n : Int) + (r : Int)) (by omega) (by omega) (by rw [hz2]; omega) (by omega)
  rw [show ((n : Int) + (r : Int)).toNat = n + r from by omega, Int.toNat_natCast, hz1, Nat.mul_one, show (Value.int .u8 0).cells = #[.int .u8 0] from rfl] at hmk
  obtain ⟨Z, hZ, hZl⟩ := made_list (n + r)
  rw [hZ] at hmk
  have hbl : (bytesV l).length = n := by rw [bytesV_length]; exact hn.out.symm
  have hcs := row_cells' hrow
  have hone := one_bytes l
  obtain ⟨w2, hcp, hg2, hb2⟩ := copy_made (cap := cap) hbl hZl hcs hone
  generalize bytesV l = C at *
  have HZ := Lib.hid hZl
  have HC := Lib.hid hbl
  have HG := Lib.hid hg2
  clear hbl hZl hZ hcs hone hg2 hi hz0 hz1 hz2
  go_enter Try.func55, Try.ntmps55
  go_wp2_with fail
  go_ret
  refine ⟨rfl, ?_, hb2⟩
  have e1 := HC.out
  have e2 := HZ.out
  refine ⟨by omega, .inr ⟨_, _, _, rfl, Nat.le_refl _, HG.out, by omega, by unfold maxLen; omega, ?_, ?_⟩⟩
  · rw [List.size_toArray, length_splice _ _ _ (by omega)]
    omega
  · simp [splice, ← e1]

theorem withRoom_int (a : Option Addr) (n cap : Nat) (l : List Nat) (R : Int) (r : Nat) (w : World) (hR : R = (r : Int))
    (hn : Hid (n = l.length)) (hrow : Row w a l) (hlen : n ≤ 1000000) (hr : r ≤ 1000000) :
    Calls Try.prog 55 #[.slice a n cap, .int .i64 R] w fun e w' => e = .returned (.slice (some ⟨w.heap.size, 0, none⟩) n (n + r)) ∧ w'.ownsRow w.heap.size 5 1 (.slice (some ⟨w.heap.size, 0, none⟩) n (n + r)) n (bytesV l) ∧ Below w.heap.size w w' := by
  subst hR
  exact withRoom_any a n cap l r w hn hrow hlen hr

/-- a number's lowest k bytes, the lowest first -/
def le (n k : Nat) : List Nat := (List.range k).map fun i => n / 2 ^ (8 * i) % 256

theorem le_succ (n k : Nat) : le n (k + 1) = le n k ++ [n / 2 ^ (8 * k) % 256] := by simp [le, List.range_succ]
theorem le_length (n k : Nat) : (le n k).length = k := by simp [le]
theorem le_lt (n k : Nat) : ∀ x ∈ le n k, x < 256 := by
  intro x hx
  obtain ⟨i, _, rfl⟩ := List.mem_map.1 hx
  exact Nat.mod_lt _ (by omega)

theorem byte_form (v k : Nat) : #[Value.int IntKind.u8 ((v : Int) / 2 ^ (8 * k) % 256)] = (([v / 2 ^ (8 * k) % 256] : List Nat).map fun (n : Nat) => Value.int .u8 (n : Int)).toArray := by
  simp

/-- the end of a call that hands back a row of its own -/
def Owned (base : Nat) (xs : List Nat) (w : World) (e : Ending) (w' : World) : Prop :=
  ∃ a' n' c', e = .returned (.slice a' n' c') ∧ w'.ownsRow base 5 1 (.slice a' n' c') n' (bytesV xs) ∧ Below base w w'

theorem put32_any (base : Nat) (a : Option Addr) (n c : Nat) (xs : List Nat) (v : Nat) (w : World) (_hv : v < 4294967296) (hown : w.ownsRow base 5 1 (.slice a n c) n (bytesV xs)) (hn : n ≤ 100000000) (hbase : base ≤ w.heap.size) :
    Calls Try.prog 71 #[.slice a n c, .int .u32 (v : Int)] w fun e w' => Owned base (xs ++ le v 4) w e w' := by
  have hm : xs.length = n := by have := hown.1; rw [bytesV_length] at this; omega
  have Hm := Lib.hid hm
  clear hm
  go_enter Try.func71, Try.ntmps71
  go_wp2_with fail
  refine (width32 _).mono ?_
  rintro e w1 ⟨rfl, rfl⟩
  go_wp2_with fail
  go_loopw [0, 7] (fun s i wr => ∃ k : Nat, k ≤ 4 ∧ i = .int .i64 k ∧ ∃ a' n' c', s = .slice a' n' c' ∧ wr.ownsRow base 5 1 (.slice a' n' c') n' (bytesV (xs ++ le v k)) ∧ n' ≤ n + k ∧ Below base w wr) (fun _ i _ => 4 - (intOf i).toNat)
  case atStart => exact ⟨0, by omega, rfl, a, n, c, rfl, by simpa [le] using hown, by omega, Below.refl _ _⟩
  case round =>
    obtain ⟨k, hk, rfl, a', n', c', rfl, hown', hle, hnx⟩ := hrel
    have hsz := hnx.size
    by_cases hlt : k < 4
    · have hsc := le_succ v k
      have HS := Lib.hid hsc
      clear hsc
      go_wp2_with (at_builtin; refine wpList_append_bytes rfl (.tmp 10) (.tmp 16) rfl base (.slice a' n' c') n' (xs ++ le v k) rfl (hown'.alloc _) (some ⟨wr.heap.size, 0, none⟩) 1 1 [v / 2 ^ (8 * k) % 256] rfl rfl (by simp) (row_list _ _ _ _ _ (byte_form v k)) (xs ++ le v k ++ [v / 2 ^ (8 * k) % 256]) rfl (by omega) (by simp; omega) ?_; intro a2 n2 c2 w2 hown2 Hn2 hle2 _ _ hb2)
      go_roundw
      case rel => exact ⟨k + 1, by omega, by go_num, a2, n2, c2, rfl, by rw [HS.out, ← List.append_assoc]; exact hown2, by omega, (hnx.alloc (by omega) _).trans hb2⟩
      case measure => simp [intOf]; omega
    · obtain rfl : k = 4 := by omega
      go_wp2_with fail
      go_ret
      exact ⟨a', n', c', rfl, hown', hnx⟩

theorem put64_any (base : Nat) (a : Option Addr) (n c : Nat) (xs : List Nat) (v : Nat) (w : World) (_hv : v < 18446744073709551616) (hown : w.ownsRow base 5 1 (.slice a n c) n (bytesV xs)) (hn : n ≤ 100000000) (hbase : base ≤ w.heap.size) :
    Calls Try.prog 73 #[.slice a n c, .int .u64 (v : Int)] w fun e w' => Owned base (xs ++ le v 8) w e w' := by
  have hm : xs.length = n := by have := hown.1; rw [bytesV_length] at this; omega
  have Hm := Lib.hid hm
  clear hm
  go_enter Try.func73, Try.ntmps73
  go_wp2_with fail
  refine (width64 _).mono ?_
  rintro e w1 ⟨rfl, rfl⟩
  go_wp2_with fail
  go_loopw [0, 7] (fun s i wr => ∃ k : Nat, k ≤ 8 ∧ i = .int .i64 k ∧ ∃ a' n' c', s = .slice a' n' c' ∧ wr.ownsRow base 5 1 (.slice a' n' c') n' (bytesV (xs ++ le v k)) ∧ n' ≤ n + k ∧ Below base w wr) (fun _ i _ => 8 - (intOf i).toNat)
  case atStart => exact ⟨0, by omega, rfl, a, n, c, rfl, by simpa [le] using hown, by omega, Below.refl _ _⟩
  case round =>
    obtain ⟨k, hk, rfl, a', n', c', rfl, hown', hle, hnx⟩ := hrel
    have hsz := hnx.size
    by_cases hlt : k < 8
    · have hsc := le_succ v k
      have HS := Lib.hid hsc
      clear hsc
      go_wp2_with (at_builtin; refine wpList_append_bytes rfl (.tmp 10) (.tmp 16) rfl base (.slice a' n' c') n' (xs ++ le v k) rfl (hown'.alloc _) (some ⟨wr.heap.size, 0, none⟩) 1 1 [v / 2 ^ (8 * k) % 256] rfl rfl (by simp) (row_list _ _ _ _ _ (byte_form v k)) (xs ++ le v k ++ [v / 2 ^ (8 * k) % 256]) rfl (by omega) (by simp; omega) ?_; intro a2 n2 c2 w2 hown2 Hn2 hle2 _ _ hb2)
      go_roundw
      case rel => exact ⟨k + 1, by omega, by go_num, a2, n2, c2, rfl, by rw [HS.out, ← List.append_assoc]; exact hown2, by omega, (hnx.alloc (by omega) _).trans hb2⟩
      case measure => simp [intOf]; omega
    · obtain rfl : k = 8 := by omega
      go_wp2_with fail
      go_ret
      exact ⟨a', n', c', rfl, hown', hnx⟩

theorem put16_any (base : Nat) (a : Option Addr) (n c : Nat) (xs : List Nat) (v : Nat) (w : World) (_hv : v < 65536) (hown : w.ownsRow base 5 1 (.slice a n c) n (bytesV xs)) (hn : n ≤ 100000000) (hbase : base ≤ w.heap.size) :
    Calls Try.prog 69 #[.slice a n c, .int .u16 (v : Int)] w fun e w' => Owned base (xs ++ le v 2) w e w' := by
  have hm : xs.length = n := by have := hown.1; rw [bytesV_length] at this; omega
  have Hm := Lib.hid hm
  clear hm
  go_enter Try.func69, Try.ntmps69
  go_wp2_with fail
  refine (width16 _).mono ?_
  rintro e w1 ⟨rfl, rfl⟩
  go_wp2_with fail
  go_loopw [0, 7] (fun s i wr => ∃ k : Nat, k ≤ 2 ∧ i = .int .i64 k ∧ ∃ a' n' c', s = .slice a' n' c' ∧ wr.ownsRow base 5 1 (.slice a' n' c') n' (bytesV (xs ++ le v k)) ∧ n' ≤ n + k ∧ Below base w wr) (fun _ i _ => 2 - (intOf i).toNat)
  case atStart => exact ⟨0, by omega, rfl, a, n, c, rfl, by simpa [le] using hown, by omega, Below.refl _ _⟩
  case round =>
    obtain ⟨k, hk, rfl, a', n', c', rfl, hown', hle, hnx⟩ := hrel
    have hsz := hnx.size
    by_cases hlt : k < 2
    · have hsc := le_succ v k
      have HS := Lib.hid hsc
      clear hsc
      go_wp2_with (at_builtin; refine wpList_append_bytes rfl (.tmp 10) (.tmp 16) rfl base (.slice a' n' c') n' (xs ++ le v k) rfl (hown'.alloc _) (some ⟨wr.heap.size, 0, none⟩) 1 1 [v / 2 ^ (8 * k) % 256] rfl rfl (by simp) (row_list _ _ _ _ _ (byte_form v k)) (xs ++ le v k ++ [v / 2 ^ (8 * k) % 256]) rfl (by omega) (by simp; omega) ?_; intro a2 n2 c2 w2 hown2 Hn2 hle2 _ _ hb2)
      go_roundw
      case rel => exact ⟨k + 1, by omega, by go_num, a2, n2, c2, rfl, by rw [HS.out, ← List.append_assoc]; exact hown2, by omega, (hnx.alloc (by omega) _).trans hb2⟩
      case measure => simp [intOf]; omega
    · obtain rfl : k = 2 := by omega
      go_wp2_with fail
      go_ret
      exact ⟨a', n', c', rfl, hown', hnx⟩


theorem owns_mono {w : World} {b b' : Nat} {v : Value} {n : Nat} {xs : List Value} (h : w.ownsRow b 5 1 v n xs) (hb : b' ≤ b) : w.ownsRow b' 5 1 v n xs := by
  refine ⟨h.1, ?_⟩
  rcases h.2 with h | ⟨g, cap, cur, h1, h2, h3⟩
  · exact .inl h
  · exact .inr ⟨g, cap, cur, h1, by omega, h3⟩

theorem u32_any (a : Option Addr) (n c : Nat) (l : List Nat) (v : Nat) (w : World) (hv : v < 4294967296)
    (hn : Hid (n = l.length)) (hrow : Row w a l) (hlen : n ≤ 1000000) :
    Calls Try.prog 59 #[.slice a n c, .int .u32 (v : Int)] w fun e w' => Owned w.heap.size (l ++ le v 4) w e w' := by
  go_enter Try.func59, Try.ntmps59
  go_wp2_with fail
  refine (width32 _).mono ?_
  rintro e w1 ⟨rfl, rfl⟩
  go_wp2_with fail
  refine (withRoom_any a n c l 4 w hn hrow hlen (by omega)).mono ?_
  rintro e w1 ⟨rfl, hown, hb1⟩
  go_wp2_with fail
  refine (put32_any w.heap.size _ _ _ l v w1 hv hown (by omega) hb1.size).mono ?_
  rintro e w2 ⟨a', n', c', rfl, hown2, hb2⟩
  go_wp2_with fail
  go_ret
  exact ⟨a', n', c', rfl, hown2, hb1.trans hb2⟩

theorem u64_any (a : Option Addr) (n c : Nat) (l : List Nat) (v : Nat) (w : World) (hv : v < 18446744073709551616)
    (hn : Hid (n = l.length)) (hrow : Row w a l) (hlen : n ≤ 1000000) :
    Calls Try.prog 60 #[.slice a n c, .int .u64 (v : Int)] w fun e w' => Owned w.heap.size (l ++ le v 8) w e w' := by
  go_enter Try.func60, Try.ntmps60
  go_wp2_with fail
  refine (width64 _).mono ?_
  rintro e w1 ⟨rfl, rfl⟩
  go_wp2_with fail
  refine (withRoom_any a n c l 8 w hn hrow hlen (by omega)).mono ?_
  rintro e w1 ⟨rfl, hown, hb1⟩
  go_wp2_with fail
  refine (put64_any w.heap.size _ _ _ l v w1 hv hown (by omega) hb1.size).mono ?_
  rintro e w2 ⟨a', n', c', rfl, hown2, hb2⟩
  go_wp2_with fail
  go_ret
  exact ⟨a', n', c', rfl, hown2, hb1.trans hb2⟩

/-- a string's bytes as numbers -/
def sb (s : ByteArray) : List Nat := s.data.toList.map UInt8.toNat

theorem strCells_sb (s : ByteArray) : Lib.strCells s = bytesV (sb s) := by
  simp [Lib.strCells, bytesV, sb]

theorem sb_length (s : ByteArray) : (sb s).length = s.size := by
  simp [sb]

theorem sb_lt (s : ByteArray) : ∀ n ∈ sb s, n < 256 := by
  intro n hn
  obtain ⟨b, _, rfl⟩ := List.mem_map.1 hn
  exact b.toNat_lt

theorem wpList_append_str {w : World} {ops : Array Oper} {rest : List Oper} {o : Oper} {a : Act} {Q : Exit → Act → World → Prop} (hgd : o.guard = none) (sl x : Operand)
    (ho : o.op = .call { callee := .builtin .append, args := #[sl, x], argTypes := #[32, 9] })
    (base : Nat) (v : Value) (n : Nat) (xs : List Nat) (hs : a.eval sl = v) (hown : w.ownsRow base 5 1 v n (bytesV xs)) (s : ByteArray) (hx : a.eval x = .string s)
    (hbytes : n + s.size ≤ 140737488351232) (hbase : base ≤ w.heap.size)
    (h : ∀ a' n' c' w', w'.ownsRow base 5 1 (.slice a' n' c') n' (bytesV (xs ++ sb s)) → n' ≤ n + s.size → Below base w w' → wpList Try.prog ops Q rest (a.put o.dst (.slice a' n' c')) w') : wpList Try.prog ops Q (o :: rest) a w := by
  obtain ⟨i0, hi, hz0, hz1, hz2⟩ := info_parts info5
  refine Lib.wpList_append_own_string w hgd sl x 32 9 ho base 5 i0 Try.underlying32 Try.underlying9 hi hz0 hz1 hz2 v n (bytesV xs) hs hown s hx (by unfold maxLen; omega) (by omega) hbase fun v' w' h1 h2 _ => ?_
  rw [strCells_sb, ← bytesV_append] at h1
  obtain ⟨a', c', rfl, hn, hr, hc⟩ := row_owned h1
  exact h a' (n + s.size) c' w' h1 (Nat.le_refl _) (below_grown hown h2 hbase)

theorem text_any (a : Option Addr) (n c : Nat) (l : List Nat) (s : ByteArray) (w : World)
    (hn : Hid (n = l.length)) (hrow : Row w a l) (hlen : n ≤ 100000) (hs : s.size ≤ 65535) :
    Calls Try.prog 58 #[.slice a n c, .string s] w fun e w' => ∃ a' n' c', e = .returned (.tuple #[.slice a' n' c', .int .i64 0]) ∧ w'.ownsRow w.heap.size 5 1 (.slice a' n' c') n' (bytesV (l ++ le s.size 2 ++ sb s)) ∧ Below w.heap.size w w' := by
  go_enter Try.func58, Try.ntmps58
  go_wp2_with fail
  refine (width16 _).mono ?_
  rintro e w1 ⟨rfl, rfl⟩
  go_wp2_with fail
  refine (withRoom_int a n c l _ (2 + s.size) w (by omega) hn hrow (by omega) (by omega)).mono ?_
  rintro e w1 ⟨rfl, hown, hb1⟩
  go_wp2_with fail
  refine (put16_any w.heap.size _ _ _ l s.size w1 (by omega) hown (by omega) hb1.size).mono ?_
  rintro e w2 ⟨a2, n2, c2, rfl, hown2, hb2⟩
  have hb2 := hb1.trans hb2
  have hn2 : n2 ≤ 100002 := by have := hown2.1; rw [bytesV_length, List.length_append, le_length] at this; have := hn.out; omega
  go_wp2_with (at_builtin; refine wpList_append_str rfl (.tmp 20) (.tmp 21) rfl w.heap.size (.slice a2 n2 c2) n2 (l ++ le s.size 2) rfl hown2 s rfl (by omega) hb2.size ?_; intro a3 n3 c3 w3 hown3 hle3 hb3)
  go_ret2
  exact ⟨a3, n3, c3, rfl, hown3, hb2.trans hb3⟩

theorem text_long (v : Value) (s : ByteArray) (w : World) (hs : 65535 < s.size) :
    Calls Try.prog 58 #[v, .string s] w fun e w' => e = .returned (.tuple #[.slice none 0 0, .int .i64 3]) ∧ w = w' := by
  go_enter Try.func58, Try.ntmps58
  go_wp2_with fail
  go_ret2
  exact ⟨rfl, rfl⟩

/-- the text of bytes -/
def str (l : List Nat) : ByteArray := ⟨(l.map UInt8.ofNat).toArray⟩

theorem str_size (l : List Nat) : (str l).size = l.length := by simp [str, ByteArray.size]

theorem sb_str {l : List Nat} (h : ∀ n ∈ l, n < 256) : sb (str l) = l := by
  unfold sb str
  rw [List.toList_toArray, List.map_map]
  conv => rhs; rw [← List.map_id l]
  refine List.map_congr_left fun n hn => ?_
  have := h n hn
  simp only [Function.comp_apply, UInt8.toNat_ofNat', id_eq]
  omega

theorem str_sb (s : ByteArray) : str (sb s) = s := by
  cases s with
  | mk d =>
    unfold sb str
    rw [List.map_map]
    have : (UInt8.ofNat ∘ UInt8.toNat) = id := by funext x; simp
    rw [this]
    simp

theorem str_inj {l k : List Nat} (hl : ∀ n ∈ l, n < 256) (hk : ∀ n ∈ k, n < 256) : str l = str k ↔ l = k := by
  constructor
  · intro h
    rw [← sb_str hl, ← sb_str hk, h]
  · intro h; rw [h]

theorem str_append (l k : List Nat) : str (l ++ k) = str l ++ str k := by
  simp [str]
  rfl

/-- string(b) -/
theorem conv_row {w : World} {a : Option Addr} {n : Nat} {l : List Nat} (hn : n = l.length) (hrow : Row w a l) (hl : ∀ x ∈ l, x < 256) (c : Nat) :
    (convert 32 9 (.slice a n c)).run Try.prog w = .ok (.string (str l)) w := by
  subst hn
  have hlen : l.length = (l.map UInt8.ofNat).length := by simp
  cases a with
  | none =>
    rcases hrow with rfl | ⟨b, off, e, _⟩
    · exact run_convert_bytes_nil w 32 5 Try.underlying32 Try.underlying5 0 c 9 Try.underlying9
    · cases e
  | some ad =>
    have h := run_convert_bytes_back (P := Try.prog) w 32 9 5 ad c (l.map UInt8.ofNat) Try.underlying32 Try.underlying5 Try.underlying9 (fun j hj => by
      have hj2 : j < l.length := by simpa using hj
      have hc := row_cells hrow j (.int .u8 ((l[j] : Nat) : Int)) (by simp [bytesV, hj2])
      rw [hc]
      have hb := hl l[j] (by simp)
      simp only [List.getElem_map, UInt8.toNat_ofNat']
      congr 2
      omega)
    rw [← hlen] at h
    exact h

theorem owned_row {w : World} {base : Nat} {a : Option Addr} {n c : Nat} {xs : List Nat} (h : w.ownsRow base 5 1 (.slice a n c) n (bytesV xs)) :
    Hid (n = xs.length) ∧ Row w a xs ∧ Hid (a = none → c = 0) := by
  obtain ⟨a', c', e, hn, hr, hc⟩ := row_owned h
  simp only [Value.slice.injEq, true_and] at e
  obtain ⟨rfl, rfl⟩ := e
  exact ⟨hn, hr, hc⟩

/-- numbers of k bytes are told by them -/
theorem le_inj (k : Nat) : ∀ a b : Nat, le a k = le b k → a % 2 ^ (8 * k) = b % 2 ^ (8 * k) := by
  induction k with
  | zero => intro a b _; simp [Nat.mod_one]
  | succ k ih =>
    intro a b h
    rw [le_succ, le_succ] at h
    have h2 := List.append_inj' h rfl
    have h3 := ih a b h2.1
    have h4 : a / 2 ^ (8 * k) % 256 = b / 2 ^ (8 * k) % 256 := by simpa using h2.2
    rw [show 8 * (k + 1) = 8 * k + 8 from by omega, Nat.pow_add, Nat.mod_mul, Nat.mod_mul, h3, show (2 : Nat) ^ 8 = 256 from rfl, h4]

theorem toList_inj {a b : ByteArray} (h : a.toList = b.toList) : a = b := by
  rw [ByteArray.toList_eq, ByteArray.toList_eq] at h
  exact ByteArray.ext (Array.toList_inj.1 h)

theorem toList_ne {a b : ByteArray} (h : a ≠ b) : (a.toList == b.toList) = false := by
  rw [beq_eq_false_iff_ne]
  exact fun e => h (toList_inj e)


/-- a slice's value whose cells lie in block g -/
def RowG (w : World) (g : Nat) (v : Value) (l : List Nat) : Prop :=
  (v = .slice none 0 0 ∧ l = []) ∨
  ∃ off c, v = .slice (some ⟨g, off, none⟩) l.length c ∧ l.length ≤ c ∧ ∀ i, i < l.length → w.cell? ⟨g, off + i, none⟩ = some (.int .u8 ((l.getD i 0 : Nat) : Int))

/-- a reader at block p, its bytes in block g -/
structure Rd (w : World) (p g : Nat) (l : List Nat) (bad : Bool) : Prop where
  ne : g ≠ p
  lt : g < w.heap.size
  cells : ∃ v, w.heap[p]? = some (.cells #[v, .bool bad] 109 (0, 0)) ∧ RowG w g v l

/-- nothing that was there has turned but block p -/
structure Only (p : Nat) (w w' : World) : Prop where
  os : w'.os = w.os
  tape : w'.tape = w.tape
  output : w'.output = w.output
  size : w.heap.size ≤ w'.heap.size
  block : ∀ k, k < w.heap.size → k ≠ p → w'.heap[k]? = w.heap[k]?

theorem Only.below {p B : Nat} {w w' : World} (h : Only p w w') (hB : B ≤ p) (hs : B ≤ w.heap.size) : Below B w w' :=
  ⟨h.os, h.tape, h.output, h.size, fun k hk => h.block k (by omega) (by omega)⟩

theorem Only.refl (p : Nat) (w : World) : Only p w w := ⟨rfl, rfl, rfl, Nat.le_refl _, fun _ _ _ => rfl⟩

theorem Only.trans {p : Nat} {a b c : World} (h : Only p a b) (k : Only p b c) : Only p a c :=
  ⟨k.os.trans h.os, k.tape.trans h.tape, k.output.trans h.output, Nat.le_trans h.size k.size, fun i hi hne => (k.block i (Nat.lt_of_lt_of_le hi h.size) hne).trans (h.block i hi hne)⟩

theorem cell_two {w : World} {p : Nat} {u v : Value} {t : TypeId} (h : w.heap[p]? = some (.cells #[u, v] t (0, 0))) :
    w.cell? ⟨p, 0, none⟩ = some u ∧ w.cell? ⟨p, 1, none⟩ = some v ∧ w.frozen? ⟨p, 0, none⟩ = false ∧ w.frozen? ⟨p, 1, none⟩ = false := by
  simp [World.cell?, World.frozen?, h]

theorem set_block {w : World} {p j : Nat} {C : Array Value} {u : Value} {t : TypeId} (h : w.heap[p]? = some (.cells C t (0, 0))) :
    (w.setCell ⟨p, j, none⟩ u).heap[p]? = some (.cells (C.setIfInBounds j u) t (0, 0)) := by
  have hlt := lt_of_block h
  have h' : w.heap[p] = .cells C t (0, 0) := by simpa [Array.getElem?_eq_getElem hlt] using h
  show (w.heap.modify p _)[p]? = _
  rw [Array.getElem?_eq_getElem (by simpa using hlt), Array.getElem_modify_self, h']
  rfl

theorem Only.setCell {p : Nat} {a w : World} (h : Only p a w) (j : Nat) (u : Value) : Only p a (w.setCell ⟨p, j, none⟩ u) :=
  h.trans ⟨rfl, rfl, rfl, by simp [World.setCell], fun k _ hne => Below.heap_setCell _ _ _ _ hne⟩

theorem Only.cell {p : Nat} {w w' : World} (h : Only p w w') {q : Addr} (h1 : q.block ≠ p) (h2 : q.block < w.heap.size) : w'.cell? q = w.cell? q := by
  unfold World.cell?
  rw [h.block _ h2 h1]

theorem RowG.only {p g : Nat} {w w' : World} {v : Value} {l : List Nat} (h : RowG w g v l) (ho : Only p w w') (h1 : g ≠ p) (h2 : g < w.heap.size) : RowG w' g v l := by
  rcases h with h | ⟨off, c, e, hc, hcell⟩
  · exact .inl h
  · exact .inr ⟨off, c, e, hc, fun i hi => by rw [ho.cell (q := ⟨g, off + i, none⟩) h1 h2]; exact hcell i hi⟩

theorem RowG.take {w : World} {g off c : Nat} {l : List Nat} (hcell : ∀ i, i < l.length → w.cell? ⟨g, off + i, none⟩ = some (.int .u8 ((l.getD i 0 : Nat) : Int))) (k : Nat) (hk : k ≤ l.length) (hc : l.length ≤ c) :
    RowG w g (.slice (some ⟨g, off, none⟩) k c) (l.take k) := by
  refine .inr ⟨off, c, by rw [List.length_take, Nat.min_eq_left hk], by rw [List.length_take]; omega, fun i hi => ?_⟩
  have hi2 : i < k ∧ i < l.length := by simp at hi; omega
  rw [hcell i hi2.2]
  simp [List.getD, hi2.1]

theorem new_any (a : Option Addr) (n c : Nat) (l : List Nat) (w : World) (hn : Hid (n = l.length)) (hrow : Row w a l) (hlen : n ≤ 1000000) :
    Calls Try.prog 36 #[.slice a n c] w fun e w' => ∃ p, w.heap.size < p ∧ e = .returned (.pointer (some ⟨p, 0, none⟩)) ∧ Rd w' p w.heap.size l false ∧ Below w.heap.size w w' := by
  go_enter Try.func36, Try.ntmps36
  go_wp2_with fail
  refine (withRoom_int a n c l _ 0 w rfl hn hrow hlen (by omega)).mono ?_
  rintro e w1 ⟨rfl, hown, hb⟩
  go_wp2_with fail
  go_ret
  have hlt := (hown.lt w.heap.size rfl).2
  refine ⟨w1.heap.size, hlt, rfl, ⟨by omega, by simp; omega, _, heap_alloc_new w1 _, .inr ⟨0, n, by rw [hn.out], by rw [hn.out]; exact Nat.le_refl _, fun i hi => ?_⟩⟩, hb.alloc hb.size _⟩
  have h2 := hown.cellAt i (by rw [hn.out]; omega)
  rw [Nat.zero_add]
  refine cell_keep (h2.trans ?_) _
  simp [bytesV, hi]

theorem next_nil (m : Int) (w : World) : Calls Try.prog 64 #[.pointer none, .int .i64 m] w fun e w' => e = .returned (.slice none 0 0) ∧ w = w' := by
  go_enter Try.func64, Try.ntmps64
  go_wp2_with fail
  go_ret
  exact ⟨rfl, rfl⟩

theorem next_end {w : World} {p g : Nat} {v : Value} {bad : Bool} (hne : g ≠ p) (hlt : g < w.heap.size) (hp : w.heap[p]? = some (.cells #[v, .bool bad] 109 (0, 0))) :
    Rd ((w.setCell ⟨p, 0, none⟩ (.slice none 0 0)).setCell ⟨p, 1, none⟩ (.bool true)) p g [] true ∧ Only p w ((w.setCell ⟨p, 0, none⟩ (.slice none 0 0)).setCell ⟨p, 1, none⟩ (.bool true)) :=
  ⟨⟨hne, by simp [World.setCell]; exact hlt, _, set_block (set_block hp), .inl ⟨rfl, rfl⟩⟩, ((Only.refl p w).setCell _ _).setCell _ _⟩

theorem next_short (p g : Nat) (l : List Nat) (bad : Bool) (m : Nat) (w : World) (h : Rd w p g l bad) (hm : l.length < m) :
    Calls Try.prog 64 #[.pointer (some ⟨p, 0, none⟩), .int .i64 (m : Int)] w fun e w' => e = .returned (.slice none 0 0) ∧ Rd w' p g [] true ∧ Only p w w' := by
  obtain ⟨hne, hlt, v, hp, hv⟩ := h
  obtain ⟨c0, c1, f0, f1⟩ := cell_two hp
  have HP := Lib.hid hp
  clear hp
  rcases hv with ⟨rfl, rfl⟩ | ⟨off, c, rfl, hc, hcell⟩
  · have hm' : (0 : Int) < (m : Int) := by simpa using hm
    go_enter Try.func64, Try.ntmps64
    go_wp2_with fail
    go_ret
    exact ⟨rfl, next_end hne hlt HP.out⟩
  · have hm' : (l.length : Int) < (m : Int) := by omega
    clear hcell
    go_enter Try.func64, Try.ntmps64
    go_wp2_with fail
    go_ret
    exact ⟨rfl, next_end hne hlt HP.out⟩

theorem next_fin {w : World} {p g off off' c c' m n' : Nat} {l : List Nat} {v : Value} {bad : Bool} (hne : g ≠ p) (hlt : g < w.heap.size) (hp : w.heap[p]? = some (.cells #[v, .bool bad] 109 (0, 0)))
    (hcell : ∀ i, i < l.length → w.cell? ⟨g, off + i, none⟩ = some (.int .u8 ((l.getD i 0 : Nat) : Int))) (hm : m ≤ l.length) (hc : l.length ≤ c) (hoff : l.length - m = 0 ∨ off' = off + m) (hc' : l.length - m ≤ c') (hn' : n' = l.length - m) :
    RowG (w.setCell ⟨p, 0, none⟩ (.slice (some ⟨g, off', none⟩) n' c')) g (.slice (some ⟨g, off, none⟩) m c) (l.take m) ∧
      Rd (w.setCell ⟨p, 0, none⟩ (.slice (some ⟨g, off', none⟩) n' c')) p g (l.drop m) bad ∧ Only p w (w.setCell ⟨p, 0, none⟩ (.slice (some ⟨g, off', none⟩) n' c')) := by
  subst hn'
  have ho := (Only.refl p w).setCell 0 (.slice (some ⟨g, off', none⟩) (l.length - m) c')
  refine ⟨(RowG.take hcell m hm hc).only ho hne hlt, ⟨hne, by simp [World.setCell]; exact hlt, _, set_block hp, ?_⟩, ho⟩
  refine .inr ⟨off', c', by simp, by rw [List.length_drop]; exact hc', fun i hi => ?_⟩
  have hi2 : i < l.length - m := by simpa using hi
  obtain rfl : off' = off + m := by omega
  rw [ho.cell (q := ⟨g, off + m + i, none⟩) hne hlt, Nat.add_assoc, hcell (m + i) (by omega)]
  simp [List.getD]

theorem next_ok (p g : Nat) (l : List Nat) (bad : Bool) (m : Nat) (w : World) (h : Rd w p g l bad) (hm : m ≤ l.length) (hl : l.length ≤ 1000000) :
    Calls Try.prog 64 #[.pointer (some ⟨p, 0, none⟩), .int .i64 (m : Int)] w fun e w' => ∃ v, e = .returned v ∧ RowG w' g v (l.take m) ∧ Rd w' p g (l.drop m) bad ∧ Only p w w' := by
  obtain ⟨hne, hlt, v, hp, hv⟩ := h
  obtain ⟨c0, c1, f0, f1⟩ := cell_two hp
  have HP := Lib.hid hp
  clear hp
  rcases hv with ⟨rfl, rfl⟩ | ⟨off, c, rfl, hc, hcell⟩
  · obtain rfl : m = 0 := by simpa using hm
    go_enter Try.func64, Try.ntmps64
    go_wp2_with fail
    go_ret
    exact ⟨_, rfl, .inl ⟨rfl, by simp⟩, ⟨hne, by simp [World.setCell]; exact hlt, _, set_block HP.out, .inl ⟨rfl, by simp⟩⟩, (Only.refl p w).setCell _ _⟩
  · have HC := Lib.hid hcell
    clear hcell
    have hm' : ¬ (l.length : Int) < (m : Int) := by omega
    by_cases hmc : m = c
    · subst hmc
      go_enter Try.func64, Try.ntmps64
      go_wp2_with fail
      go_ret
      exact ⟨_, rfl, next_fin hne hlt HP.out HC.out hm hc (by omega) (by omega) (by omega)⟩
    · have hmc' : m < c := by omega
      clear hmc
      go_enter Try.func64, Try.ntmps64
      go_wp2_with fail
      go_ret
      exact ⟨_, rfl, next_fin hne hlt HP.out HC.out hm hc (by omega) (by omega) (by omega)⟩

/-- the number of bytes, the lowest first -/
def num : List Nat → Nat
  | [] => 0
  | x :: l => x + 256 * num l

theorem num_lt : ∀ (l : List Nat), (∀ n ∈ l, n < 256) → num l < 2 ^ (8 * l.length)
  | [], _ => by simp [num]
  | x :: l, h => by
    have h1 := num_lt l (fun n hn => h n (by simp [hn]))
    have h2 := h x (by simp)
    simp only [num, List.length_cons]
    rw [show 8 * (l.length + 1) = 8 * l.length + 8 from by omega, Nat.pow_add]
    omega

theorem num_snoc (l : List Nat) (x : Nat) : num (l ++ [x]) = num l + x * 2 ^ (8 * l.length) := by
  induction l with
  | nil => simp [num]
  | cons y l ih =>
    simp only [List.cons_append, num, ih, List.length_cons]
    rw [show 8 * (l.length + 1) = 8 * l.length + 8 from by omega, Nat.pow_add, Nat.mul_add]
    rw [← Nat.mul_assoc x, Nat.mul_comm 256 (x * _)]
    omega

theorem or_snoc (l : List Nat) (x : Nat) (hl : ∀ n ∈ l, n < 256) : num l ||| x * 2 ^ (8 * l.length) = num (l ++ [x]) := by
  rw [num_snoc, Nat.or_comm, nat_join (8 * l.length) _ _ (Nat.mul_mod_left _ _) (num_lt l hl), Nat.add_comm]

theorem or_room {n x k W : Nat} (hn : n < 2 ^ (8 * k)) (hx : x < 256) (hk : 8 * k + 8 ≤ W) : n < 2 ^ W ∧ x * 2 ^ (8 * k) < 2 ^ W := by
  have h1 : 2 ^ (8 * k + 8) ≤ 2 ^ W := Nat.pow_le_pow_right (by omega) hk
  rw [Nat.pow_add] at h1
  have h2 : x * 2 ^ (8 * k) < 256 * 2 ^ (8 * k) := (Nat.mul_lt_mul_right (Nat.two_pow_pos _)).2 hx
  omega

theorem or_walk_u16 {n x k : Nat} (hn : n < 2 ^ (8 * k)) (hx : x < 256) (hk : k < 2) : bits BinOp.or IntKind.u16 (n : Int) ((x : Int) * 2 ^ (8 * k) % 65536) = ((n ||| x * 2 ^ (8 * k) : Nat) : Int) := by
  obtain ⟨h1, h2⟩ := or_room hn hx (show 8 * k + 8 ≤ 16 by omega)
  have e : (x : Int) * 2 ^ (8 * k) % 65536 = ((x * 2 ^ (8 * k) : Nat) : Int) := by
    have : ((x * 2 ^ (8 * k) : Nat) : Int) = (x : Int) * 2 ^ (8 * k) := by push_cast; rfl
    rw [← this]
    generalize x * 2 ^ (8 * k) = q at *
    omega
  rw [e, u16_or_nat n _ (by omega) (by omega)]

theorem or_walk_u32 {n x k : Nat} (hn : n < 2 ^ (8 * k)) (hx : x < 256) (hk : k < 4) : bits BinOp.or IntKind.u32 (n : Int) ((x : Int) * 2 ^ (8 * k) % 4294967296) = ((n ||| x * 2 ^ (8 * k) : Nat) : Int) := by
  obtain ⟨h1, h2⟩ := or_room hn hx (show 8 * k + 8 ≤ 32 by omega)
  have e : (x : Int) * 2 ^ (8 * k) % 4294967296 = ((x * 2 ^ (8 * k) : Nat) : Int) := by
    have : ((x * 2 ^ (8 * k) : Nat) : Int) = (x : Int) * 2 ^ (8 * k) := by push_cast; rfl
    rw [← this]
    generalize x * 2 ^ (8 * k) = q at *
    omega
  rw [e, u32_or_nat n _ (by omega) (by omega)]

theorem or_walk_u64 {n x k : Nat} (hn : n < 2 ^ (8 * k)) (hx : x < 256) (hk : k < 8) : bits BinOp.or IntKind.u64 (n : Int) ((x : Int) * 2 ^ (8 * k) % 18446744073709551616) = ((n ||| x * 2 ^ (8 * k) : Nat) : Int) := by
  obtain ⟨h1, h2⟩ := or_room hn hx (show 8 * k + 8 ≤ 64 by omega)
  have e : (x : Int) * 2 ^ (8 * k) % 18446744073709551616 = ((x * 2 ^ (8 * k) : Nat) : Int) := by
    have : ((x * 2 ^ (8 * k) : Nat) : Int) = (x : Int) * 2 ^ (8 * k) := by push_cast; rfl
    rw [← this]
    generalize x * 2 ^ (8 * k) = q at *
    omega
  rw [e, u64_or_nat n _ (by omega) (by omega)]

theorem take_succ {t : List Nat} {k : Nat} (h : k < t.length) : t.take (k + 1) = t.take k ++ [t.getD k 0] := take_snoc h

theorem take32_short (p g : Nat) (l : List Nat) (bad : Bool) (w : World) (h : Rd w p g l bad) (hm : l.length < 4) :
    Calls Try.prog 67 #[.pointer (some ⟨p, 0, none⟩)] w fun e w' => e = .returned (.int .u32 0) ∧ Rd w' p g [] true ∧ Only p w w' := by
  go_enter Try.func67, Try.ntmps67
  go_wp2_with fail
  refine (width32 _).mono ?_
  rintro e w1 ⟨rfl, rfl⟩
  go_wp2_with fail
  refine (next_short p g l bad 4 w h hm).mono ?_
  rintro e w1 ⟨rfl, hr, ho⟩
  go_wp2_with fail
  refine wp_loop_rounds 1 ?_
  rw [rounds_succ]
  go_wp2_with fail
  go_ret
  exact ⟨rfl, hr, ho⟩

theorem take32_nil (w : World) :
    Calls Try.prog 67 #[.pointer none] w fun e w' => e = .returned (.int .u32 0) ∧ w = w' := by
  go_enter Try.func67, Try.ntmps67
  go_wp2_with fail
  refine (width32 _).mono ?_
  rintro e w1 ⟨rfl, rfl⟩
  go_wp2_with fail
  refine (next_nil 4 w).mono ?_
  rintro e w1 ⟨rfl, rfl⟩
  go_wp2_with fail
  refine wp_loop_rounds 1 ?_
  rw [rounds_succ]
  go_wp2_with fail
  go_ret
  exact ⟨rfl, rfl⟩

theorem take32_ok (p g : Nat) (l : List Nat) (bad : Bool) (w : World) (h : Rd w p g l bad) (hm : 4 ≤ l.length) (hl : l.length ≤ 1000000) (hb : ∀ n ∈ l, n < 256) :
    Calls Try.prog 67 #[.pointer (some ⟨p, 0, none⟩)] w fun e w' => e = .returned (.int .u32 (num (l.take 4) : Int)) ∧ Rd w' p g (l.drop 4) bad ∧ Only p w w' := by
  go_enter Try.func67, Try.ntmps67
  go_wp2_with fail
  refine (width32 _).mono ?_
  rintro e w1 ⟨rfl, rfl⟩
  go_wp2_with fail
  refine (next_ok p g l bad 4 w h hm hl).mono ?_
  rintro e w1 ⟨v, rfl, hv, hr, ho⟩
  have hlen : (l.take 4).length = 4 := by simp; omega
  have hbt := take_lt hb 4
  generalize ht : l.take 4 = t at *
  have HT := Lib.hid ht
  clear ht
  rcases hv with ⟨rfl, rfl⟩ | ⟨off, c, rfl, hc, hcell⟩
  · simp at hlen
  · have HC := Lib.hid hcell
    clear hcell
    rw [hlen] at hc
    rw [hlen]
    have HL := Lib.hid hlen
    clear hlen
    go_wp2_with fail
    go_loop [3, 11] (fun v i => ∃ k : Nat, k ≤ 4 ∧ i = .int .i64 k ∧ v = .int .u32 ((num (t.take k) : Nat) : Int)) (fun _ i => 4 - (intOf i).toNat)
    case atStart => exact ⟨0, by omega, rfl, rfl⟩
    case round =>
      obtain ⟨k, hk, rfl, rfl⟩ := hrel
      by_cases hlt : k < 4
      · have hkl : k < t.length := by rw [HL.out]; exact hlt
        have hcell := HC.out k hkl
        have hx := getD_lt hbt k
        have hor := or_snoc (t.take k) (t.getD k 0) (take_lt hbt k)
        rw [← take_succ hkl, List.length_take, Nat.min_eq_left (by omega)] at hor
        have hn := num_lt (t.take k) (take_lt hbt k)
        rw [List.length_take, Nat.min_eq_left (by omega)] at hn
        generalize num (t.take k) = n at *
        generalize t.getD k 0 = x at *
        have HO := Lib.hid hor
        have HN := Lib.hid hn
        clear hor hn
        go_wp2_with fail
        go_round
        case rel => exact ⟨k + 1, by omega, by go_num, val_eq (by rw [or_walk_u32 HN.out hx (by omega), HO.out])⟩
        case measure => simp [intOf]; omega
      · obtain rfl : k = 4 := by omega
        rw [List.take_of_length_le (by rw [HL.out]; exact Nat.le_refl _)]
        go_wp2_with fail
        go_ret
        exact ⟨ret_eq (by rw [HT.out]), hr, ho⟩

theorem take64_short (p g : Nat) (l : List Nat) (bad : Bool) (w : World) (h : Rd w p g l bad) (hm : l.length < 8) :
    Calls Try.prog 68 #[.pointer (some ⟨p, 0, none⟩)] w fun e w' => e = .returned (.int .u64 0) ∧ Rd w' p g [] true ∧ Only p w w' := by
  go_enter Try.func68, Try.ntmps68
  go_wp2_with fail
  refine (width64 _).mono ?_
  rintro e w1 ⟨rfl, rfl⟩
  go_wp2_with fail
  refine (next_short p g l bad 8 w h hm).mono ?_
  rintro e w1 ⟨rfl, hr, ho⟩
  go_wp2_with fail
  refine wp_loop_rounds 1 ?_
  rw [rounds_succ]
  go_wp2_with fail
  go_ret
  exact ⟨rfl, hr, ho⟩

theorem take64_nil (w : World) :
    Calls Try.prog 68 #[.pointer none] w fun e w' => e = .returned (.int .u64 0) ∧ w = w' := by
  go_enter Try.func68, Try.ntmps68
  go_wp2_with fail
  refine (width64 _).mono ?_
  rintro e w1 ⟨rfl, rfl⟩
  go_wp2_with fail
  refine (next_nil 8 w).mono ?_
  rintro e w1 ⟨rfl, rfl⟩
  go_wp2_with fail
  refine wp_loop_rounds 1 ?_
  rw [rounds_succ]
  go_wp2_with fail
  go_ret
  exact ⟨rfl, rfl⟩

theorem take64_ok (p g : Nat) (l : List Nat) (bad : Bool) (w : World) (h : Rd w p g l bad) (hm : 8 ≤ l.length) (hl : l.length ≤ 1000000) (hb : ∀ n ∈ l, n < 256) :
    Calls Try.prog 68 #[.pointer (some ⟨p, 0, none⟩)] w fun e w' => e = .returned (.int .u64 (num (l.take 8) : Int)) ∧ Rd w' p g (l.drop 8) bad ∧ Only p w w' := by
  go_enter Try.func68, Try.ntmps68
  go_wp2_with fail
  refine (width64 _).mono ?_
  rintro e w1 ⟨rfl, rfl⟩
  go_wp2_with fail
  refine (next_ok p g l bad 8 w h hm hl).mono ?_
  rintro e w1 ⟨v, rfl, hv, hr, ho⟩
  have hlen : (l.take 8).length = 8 := by simp; omega
  have hbt := take_lt hb 8
  generalize ht : l.take 8 = t at *
  have HT := Lib.hid ht
  clear ht
  rcases hv with ⟨rfl, rfl⟩ | ⟨off, c, rfl, hc, hcell⟩
  · simp at hlen
  · have HC := Lib.hid hcell
    clear hcell
    rw [hlen] at hc
    rw [hlen]
    have HL := Lib.hid hlen
    clear hlen
    go_wp2_with fail
    go_loop [3, 11] (fun v i => ∃ k : Nat, k ≤ 8 ∧ i = .int .i64 k ∧ v = .int .u64 ((num (t.take k) : Nat) : Int)) (fun _ i => 8 - (intOf i).toNat)
    case atStart => exact ⟨0, by omega, rfl, rfl⟩
    case round =>
      obtain ⟨k, hk, rfl, rfl⟩ := hrel
      by_cases hlt : k < 8
      · have hkl : k < t.length := by rw [HL.out]; exact hlt
        have hcell := HC.out k hkl
        have hx := getD_lt hbt k
        have hor := or_snoc (t.take k) (t.getD k 0) (take_lt hbt k)
        rw [← take_succ hkl, List.length_take, Nat.min_eq_left (by omega)] at hor
        have hn := num_lt (t.take k) (take_lt hbt k)
        rw [List.length_take, Nat.min_eq_left (by omega)] at hn
        generalize num (t.take k) = n at *
        generalize t.getD k 0 = x at *
        have HO := Lib.hid hor
        have HN := Lib.hid hn
        clear hor hn
        go_wp2_with fail
        go_round
        case rel => exact ⟨k + 1, by omega, by go_num, val_eq (by rw [IntKind.wrap_u64, or_walk_u64 HN.out hx (by omega), HO.out])⟩
        case measure => simp [intOf]; omega
      · obtain rfl : k = 8 := by omega
        rw [List.take_of_length_le (by rw [HL.out]; exact Nat.le_refl _)]
        go_wp2_with fail
        go_ret
        exact ⟨ret_eq (by rw [HT.out]), hr, ho⟩

theorem take16_short (p g : Nat) (l : List Nat) (bad : Bool) (w : World) (h : Rd w p g l bad) (hm : l.length < 2) :
    Calls Try.prog 65 #[.pointer (some ⟨p, 0, none⟩)] w fun e w' => e = .returned (.int .u16 0) ∧ Rd w' p g [] true ∧ Only p w w' := by
  go_enter Try.func65, Try.ntmps65
  go_wp2_with fail
  refine (width16 _).mono ?_
  rintro e w1 ⟨rfl, rfl⟩
  go_wp2_with fail
  refine (next_short p g l bad 2 w h hm).mono ?_
  rintro e w1 ⟨rfl, hr, ho⟩
  go_wp2_with fail
  refine wp_loop_rounds 1 ?_
  rw [rounds_succ]
  go_wp2_with fail
  go_ret
  exact ⟨rfl, hr, ho⟩

theorem take16_nil (w : World) :
    Calls Try.prog 65 #[.pointer none] w fun e w' => e = .returned (.int .u16 0) ∧ w = w' := by
  go_enter Try.func65, Try.ntmps65
  go_wp2_with fail
  refine (width16 _).mono ?_
  rintro e w1 ⟨rfl, rfl⟩
  go_wp2_with fail
  refine (next_nil 2 w).mono ?_
  rintro e w1 ⟨rfl, rfl⟩
  go_wp2_with fail
  refine wp_loop_rounds 1 ?_
  rw [rounds_succ]
  go_wp2_with fail
  go_ret
  exact ⟨rfl, rfl⟩

theorem take16_ok (p g : Nat) (l : List Nat) (bad : Bool) (w : World) (h : Rd w p g l bad) (hm : 2 ≤ l.length) (hl : l.length ≤ 1000000) (hb : ∀ n ∈ l, n < 256) :
    Calls Try.prog 65 #[.pointer (some ⟨p, 0, none⟩)] w fun e w' => e = .returned (.int .u16 (num (l.take 2) : Int)) ∧ Rd w' p g (l.drop 2) bad ∧ Only p w w' := by
  go_enter Try.func65, Try.ntmps65
  go_wp2_with fail
  refine (width16 _).mono ?_
  rintro e w1 ⟨rfl, rfl⟩
  go_wp2_with fail
  refine (next_ok p g l bad 2 w h hm hl).mono ?_
  rintro e w1 ⟨v, rfl, hv, hr, ho⟩
  have hlen : (l.take 2).length = 2 := by simp; omega
  have hbt := take_lt hb 2
  generalize ht : l.take 2 = t at *
  have HT := Lib.hid ht
  clear ht
  rcases hv with ⟨rfl, rfl⟩ | ⟨off, c, rfl, hc, hcell⟩
  · simp at hlen
  · have HC := Lib.hid hcell
    clear hcell
    rw [hlen] at hc
    rw [hlen]
    have HL := Lib.hid hlen
    clear hlen
    go_wp2_with fail
    go_loop [3, 11] (fun v i => ∃ k : Nat, k ≤ 2 ∧ i = .int .i64 k ∧ v = .int .u16 ((num (t.take k) : Nat) : Int)) (fun _ i => 2 - (intOf i).toNat)
    case atStart => exact ⟨0, by omega, rfl, rfl⟩
    case round =>
      obtain ⟨k, hk, rfl, rfl⟩ := hrel
      by_cases hlt : k < 2
      · have hkl : k < t.length := by rw [HL.out]; exact hlt
        have hcell := HC.out k hkl
        have hx := getD_lt hbt k
        have hor := or_snoc (t.take k) (t.getD k 0) (take_lt hbt k)
        rw [← take_succ hkl, List.length_take, Nat.min_eq_left (by omega)] at hor
        have hn := num_lt (t.take k) (take_lt hbt k)
        rw [List.length_take, Nat.min_eq_left (by omega)] at hn
        generalize num (t.take k) = n at *
        generalize t.getD k 0 = x at *
        have HO := Lib.hid hor
        have HN := Lib.hid hn
        clear hor hn
        go_wp2_with fail
        go_round
        case rel => exact ⟨k + 1, by omega, by go_num, val_eq (by rw [IntKind.wrap_u16, or_walk_u16 HN.out hx (by omega), HO.out])⟩
        case measure => simp [intOf]; omega
      · obtain rfl : k = 2 := by omega
        rw [List.take_of_length_le (by rw [HL.out]; exact Nat.le_refl _)]
        go_wp2_with fail
        go_ret
        exact ⟨ret_eq (by rw [HT.out]), hr, ho⟩


/-- what a number of k bytes is read as, what is left, and whether there was not enough -/
def rdN (k : Nat) (l : List Nat) : Nat := if k ≤ l.length then num (l.take k) else 0
def rdL (k : Nat) (l : List Nat) : List Nat := if k ≤ l.length then l.drop k else []
def rdB (k : Nat) (l : List Nat) (bad : Bool) : Bool := if k ≤ l.length then bad else true

theorem rdN_lt (k : Nat) {l : List Nat} (hb : ∀ n ∈ l, n < 256) : rdN k l < 2 ^ (8 * k) := by
  unfold rdN
  split
  · have := num_lt (l.take k) (take_lt hb k)
    rwa [List.length_take, Nat.min_eq_left (by assumption)] at this
  · exact Nat.two_pow_pos _

theorem drop_lt {l : List Nat} (hl : ∀ n ∈ l, n < 256) (k : Nat) : ∀ n ∈ l.drop k, n < 256 := fun n hn => hl n (List.mem_of_mem_drop hn)

theorem rdL_lt (k : Nat) {l : List Nat} (hb : ∀ n ∈ l, n < 256) : ∀ n ∈ rdL k l, n < 256 := by
  unfold rdL
  split
  · exact drop_lt hb k
  · simp

theorem rdL_le (k : Nat) (l : List Nat) : (rdL k l).length ≤ l.length := by
  unfold rdL
  split <;> simp

/-- the bytes that come next, and what is left -/
def nx (k : Nat) (l : List Nat) : List Nat := if k ≤ l.length then l.take k else []

theorem nx_lt (k : Nat) {l : List Nat} (hb : ∀ n ∈ l, n < 256) : ∀ n ∈ nx k l, n < 256 := by
  unfold nx
  split
  · exact take_lt hb k
  · simp

theorem u32r_any (p g : Nat) (l : List Nat) (bad : Bool) (w : World) (h : Rd w p g l bad) (hl : l.length ≤ 1000000) (hb : ∀ n ∈ l, n < 256) :
    Calls Try.prog 52 #[.pointer (some ⟨p, 0, none⟩)] w fun e w' => e = .returned (.int .u32 (rdN 4 l : Int)) ∧ Rd w' p g (rdL 4 l) (rdB 4 l bad) ∧ Only p w w' := by
  by_cases hm : 4 ≤ l.length
  · have e1 : rdN 4 l = num (l.take 4) := if_pos hm
    have e2 : rdL 4 l = l.drop 4 := if_pos hm
    have e3 : rdB 4 l bad = bad := if_pos hm
    rw [e1, e2, e3]
    clear e1 e2 e3
    go_enter Try.func52, Try.ntmps52
    go_wp2_with fail
    refine (take32_ok p g l bad w h hm hl hb).mono ?_
    rintro e w1 ⟨rfl, hr, ho⟩
    go_wp2_with fail
    go_ret
    exact ⟨rfl, hr, ho⟩
  · have e1 : rdN 4 l = 0 := if_neg hm
    have e2 : rdL 4 l = [] := if_neg hm
    have e3 : rdB 4 l bad = true := if_neg hm
    rw [e1, e2, e3]
    clear e1 e2 e3
    go_enter Try.func52, Try.ntmps52
    go_wp2_with fail
    refine (take32_short p g l bad w h (by omega)).mono ?_
    rintro e w1 ⟨rfl, hr, ho⟩
    go_wp2_with fail
    go_ret
    exact ⟨rfl, hr, ho⟩

theorem u32r_nil (w : World) : Calls Try.prog 52 #[.pointer none] w fun e w' => e = .returned (.int .u32 0) ∧ w = w' := by
  go_enter Try.func52, Try.ntmps52
  go_wp2_with fail
  refine (take32_nil w).mono ?_
  rintro e w1 ⟨rfl, rfl⟩
  go_wp2_with fail
  go_ret
  exact ⟨rfl, rfl⟩

theorem u64r_any (p g : Nat) (l : List Nat) (bad : Bool) (w : World) (h : Rd w p g l bad) (hl : l.length ≤ 1000000) (hb : ∀ n ∈ l, n < 256) :
    Calls Try.prog 53 #[.pointer (some ⟨p, 0, none⟩)] w fun e w' => e = .returned (.int .u64 (rdN 8 l : Int)) ∧ Rd w' p g (rdL 8 l) (rdB 8 l bad) ∧ Only p w w' := by
  by_cases hm : 8 ≤ l.length
  · have e1 : rdN 8 l = num (l.take 8) := if_pos hm
    have e2 : rdL 8 l = l.drop 8 := if_pos hm
    have e3 : rdB 8 l bad = bad := if_pos hm
    rw [e1, e2, e3]
    clear e1 e2 e3
    go_enter Try.func53, Try.ntmps53
    go_wp2_with fail
    refine (take64_ok p g l bad w h hm hl hb).mono ?_
    rintro e w1 ⟨rfl, hr, ho⟩
    go_wp2_with fail
    go_ret
    exact ⟨rfl, hr, ho⟩
  · have e1 : rdN 8 l = 0 := if_neg hm
    have e2 : rdL 8 l = [] := if_neg hm
    have e3 : rdB 8 l bad = true := if_neg hm
    rw [e1, e2, e3]
    clear e1 e2 e3
    go_enter Try.func53, Try.ntmps53
    go_wp2_with fail
    refine (take64_short p g l bad w h (by omega)).mono ?_
    rintro e w1 ⟨rfl, hr, ho⟩
    go_wp2_with fail
    go_ret
    exact ⟨rfl, hr, ho⟩

theorem u64r_nil (w : World) : Calls Try.prog 53 #[.pointer none] w fun e w' => e = .returned (.int .u64 0) ∧ w = w' := by
  go_enter Try.func53, Try.ntmps53
  go_wp2_with fail
  refine (take64_nil w).mono ?_
  rintro e w1 ⟨rfl, rfl⟩
  go_wp2_with fail
  go_ret
  exact ⟨rfl, rfl⟩

theorem left_any (p g : Nat) (l : List Nat) (bad : Bool) (w : World) (h : Rd w p g l bad) :
    Calls Try.prog 54 #[.pointer (some ⟨p, 0, none⟩)] w fun e w' => e = .returned (.int .i64 (l.length : Int)) ∧ w = w' := by
  obtain ⟨hne, hlt, v, hp, hv⟩ := h
  obtain ⟨c0, c1, f0, f1⟩ := cell_two hp
  clear hp
  rcases hv with ⟨rfl, rfl⟩ | ⟨off, c, rfl, hc, hcell⟩
  · go_enter Try.func54, Try.ntmps54
    go_wp2_with fail
    go_ret
    exact ⟨rfl, rfl⟩
  · clear hcell
    go_enter Try.func54, Try.ntmps54
    go_wp2_with fail
    go_ret
    exact ⟨rfl, rfl⟩

theorem left_nil (w : World) : Calls Try.prog 54 #[.pointer none] w fun e w' => e = .returned (.int .i64 0) ∧ w = w' := by
  go_enter Try.func54, Try.ntmps54
  go_wp2_with fail
  go_ret
  exact ⟨rfl, rfl⟩

theorem right_any (p g : Nat) (l : List Nat) (bad : Bool) (w : World) (h : Rd w p g l bad) :
    Calls Try.prog 66 #[.pointer (some ⟨p, 0, none⟩)] w fun e w' => e = .returned (.bool (!bad)) ∧ w = w' := by
  obtain ⟨hne, hlt, v, hp, hv⟩ := h
  obtain ⟨c0, c1, f0, f1⟩ := cell_two hp
  clear hp hv
  go_enter Try.func66, Try.ntmps66
  go_wp2_with fail
  go_ret
  exact ⟨rfl, rfl⟩

theorem right_nil (w : World) : Calls Try.prog 66 #[.pointer none] w fun e w' => e = .returned (.bool false) ∧ w = w' := by
  go_enter Try.func66, Try.ntmps66
  go_wp2_with fail
  go_ret
  exact ⟨rfl, rfl⟩

theorem conv_rowG {w : World} {g : Nat} {v : Value} {l : List Nat} (h : RowG w g v l) (hl : ∀ x ∈ l, x < 256) :
    (convert 32 9 v).run Try.prog w = .ok (.string (str l)) w := by
  rcases h with ⟨rfl, rfl⟩ | ⟨off, c, rfl, hc, hcell⟩
  · exact conv_row (a := none) (l := []) rfl (.inl rfl) (by simp) 0
  · refine conv_row rfl ?_ hl c
    by_cases h0 : l = []
    · exact .inl h0
    · have hp : 0 < l.length := List.length_pos_iff.2 h0
      exact .inr ⟨g, off, rfl, lt_of_cell (hcell 0 hp), hcell⟩

/-- what a text is read as -/
def txS (l : List Nat) : List Nat := nx (rdN 2 l) (rdL 2 l)
def txL (l : List Nat) : List Nat := rdL (rdN 2 l) (rdL 2 l)
def txB (l : List Nat) (bad : Bool) : Bool := rdB (rdN 2 l) (rdL 2 l) (rdB 2 l bad)

theorem next_any (p g : Nat) (l : List Nat) (bad : Bool) (m : Nat) (w : World) (h : Rd w p g l bad) (hl : l.length ≤ 1000000) :
    Calls Try.prog 64 #[.pointer (some ⟨p, 0, none⟩), .int .i64 (m : Int)] w fun e w' => ∃ v, e = .returned v ∧ RowG w' g v (nx m l) ∧ Rd w' p g (rdL m l) (rdB m l bad) ∧ Only p w w' := by
  by_cases hm : m ≤ l.length
  · rw [show nx m l = l.take m from if_pos hm, show rdL m l = l.drop m from if_pos hm, show rdB m l bad = bad from if_pos hm]
    exact next_ok p g l bad m w h hm hl
  · rw [show nx m l = [] from if_neg hm, show rdL m l = [] from if_neg hm, show rdB m l bad = true from if_neg hm]
    exact (next_short p g l bad m w h (by omega)).mono fun e w' ⟨h1, h2, h3⟩ => ⟨_, h1, .inl ⟨rfl, rfl⟩, h2, h3⟩

theorem take16_any (p g : Nat) (l : List Nat) (bad : Bool) (w : World) (h : Rd w p g l bad) (hl : l.length ≤ 1000000) (hb : ∀ n ∈ l, n < 256) :
    Calls Try.prog 65 #[.pointer (some ⟨p, 0, none⟩)] w fun e w' => e = .returned (.int .u16 (rdN 2 l : Int)) ∧ Rd w' p g (rdL 2 l) (rdB 2 l bad) ∧ Only p w w' := by
  by_cases hm : 2 ≤ l.length
  · rw [show rdN 2 l = num (l.take 2) from if_pos hm, show rdL 2 l = l.drop 2 from if_pos hm, show rdB 2 l bad = bad from if_pos hm]
    exact take16_ok p g l bad w h hm hl hb
  · rw [show rdN 2 l = 0 from if_neg hm, show rdL 2 l = [] from if_neg hm, show rdB 2 l bad = true from if_neg hm]
    exact take16_short p g l bad w h (by omega)

theorem textr_any (p g : Nat) (l : List Nat) (bad : Bool) (w : World) (h : Rd w p g l bad) (hl : l.length ≤ 1000000) (hb : ∀ n ∈ l, n < 256) :
    Calls Try.prog 49 #[.pointer (some ⟨p, 0, none⟩)] w fun e w' => e = .returned (.string (str (txS l))) ∧ Rd w' p g (txL l) (txB l bad) ∧ Only p w w' := by
  go_enter Try.func49, Try.ntmps49
  go_wp2_with fail
  refine (take16_any p g l bad w h hl hb).mono ?_
  rintro e w1 ⟨rfl, hr, ho⟩
  have hn := rdN_lt 2 hb
  have hl2 := rdL_le 2 l
  have hb2 := rdL_lt 2 hb
  go_wp2_with fail
  refine (next_any p g _ _ (rdN 2 l) w1 hr (by omega)).mono ?_
  rintro e w2 ⟨v, rfl, hv, hr2, ho2⟩
  have hcv := conv_rowG hv (nx_lt _ hb2)
  go_wp2_with fail
  go_ret
  exact ⟨rfl, hr2, ho.trans ho2⟩

theorem textr_nil (w : World) : Calls Try.prog 49 #[.pointer none] w fun e w' => e = .returned (.string (str [])) ∧ w = w' := by
  have hcv := conv_rowG (w := w) (g := 0) (.inl ⟨rfl, rfl⟩) (l := []) (by simp)
  go_enter Try.func49, Try.ntmps49
  go_wp2_with fail
  refine (take16_nil w).mono ?_
  rintro e w1 ⟨rfl, rfl⟩
  go_wp2_with fail
  refine (next_nil _ w).mono ?_
  rintro e w1 ⟨rfl, rfl⟩
  go_wp2_with fail
  go_ret
  exact ⟨rfl, rfl⟩


/-- the document's reader at block q: its bytes in block g; what is left to be read is l -/
structure Rf (w : World) (q g : Nat) (l : List Nat) (bad : Bool) : Prop where
  ne : g ≠ q
  lt : g < w.heap.size
  cells : ∃ a n c at' B, w.heap[q]? = some (.cells #[.slice a n c, .int .i64 ((at' : Nat) : Int), .bool bad] 72 (0, 0)) ∧ n = List.length B ∧ at' ≤ n ∧ n ≤ 1000000 ∧ n ≤ c ∧
    (bad = true → l = []) ∧ (bad = false → l = B.drop at') ∧
    (B = [] ∨ ∃ off, a = some ⟨g, off, none⟩ ∧ ∀ i, i < B.length → w.cell? ⟨g, off + i, none⟩ = some (.int .u8 ((B.getD i 0 : Nat) : Int)))

theorem cell_three {w : World} {p : Nat} {u v x : Value} {t : TypeId} (h : w.heap[p]? = some (.cells #[u, v, x] t (0, 0))) :
    w.cell? ⟨p, 0, none⟩ = some u ∧ w.cell? ⟨p, 1, none⟩ = some v ∧ w.cell? ⟨p, 2, none⟩ = some x ∧ w.frozen? ⟨p, 0, none⟩ = false ∧ w.frozen? ⟨p, 1, none⟩ = false ∧ w.frozen? ⟨p, 2, none⟩ = false := by
  simp [World.cell?, World.frozen?, h]

theorem num_drop {t : List Nat} {j : Nat} (h : j < t.length) : num (t.drop j) = t.getD j 0 + 256 * num (t.drop (j + 1)) := by
  rw [List.drop_eq_getElem_cons h]
  simp [num, List.getD, h]

theorem value_some (g off c : Nat) (t : List Nat) (w : World) (ht : ∀ n ∈ t, n < 256) (hlen : t.length ≤ 8) (hcell : ∀ i, i < t.length → w.cell? ⟨g, off + i, none⟩ = some (.int .u8 ((t.getD i 0 : Nat) : Int))) :
    Calls Try.prog 48 #[.slice (some ⟨g, off, none⟩) t.length c] w fun e w' => e = .returned (.int .u64 (num t : Int)) ∧ w = w' := by
  have HC := Lib.hid hcell
  clear hcell
  go_enter Try.func48, Try.ntmps48
  go_wp2_with fail
  go_loop [3, 4] (fun v i => ∃ k : Nat, k ≤ t.length ∧ i = .int .i64 ((k : Int) - 1) ∧ v = .int .u64 ((num (t.drop k) : Nat) : Int)) (fun _ i => (intOf i + 1).toNat)
  case atStart => exact ⟨t.length, Nat.le_refl _, rfl, by simp [num]⟩
  case round =>
    obtain ⟨k, hk, rfl, rfl⟩ := hrel
    cases k with
    | zero =>
      rw [List.drop_zero]
      go_wp2_with fail
      go_ret
      exact ⟨rfl, rfl⟩
    | succ j =>
      rw [show ((j + 1 : Nat) : Int) - 1 = (j : Int) from by omega]
      have hj : j < t.length := by omega
      have hcell := HC.out j hj
      have hx := getD_lt ht j
      have hd := num_drop hj
      have hn := num_lt (t.drop (j + 1)) (drop_lt ht _)
      have hn2 : num (t.drop (j + 1)) < 72057594037927936 := by
        refine Nat.lt_of_lt_of_le hn ?_
        rw [List.length_drop]
        exact Nat.le_trans (Nat.pow_le_pow_right (n := 2) (by omega) (show 8 * (t.length - (j + 1)) ≤ 56 by omega)) (by decide)
      generalize num (t.drop (j + 1)) = n at *
      generalize t.getD j 0 = x at *
      have HD := Lib.hid hd
      clear hd hn
      go_wp2_with fail
      go_round
      case rel => exact ⟨j, by omega, by first | rfl | go_num, val_eq (by rw [HD.out]; omega)⟩
      case measure => simp [intOf]

/-- a slice's value whose cells lie in block g; an empty one wherever -/
def RowE (w : World) (g : Nat) (v : Value) (l : List Nat) : Prop :=
  (∃ a c, v = .slice a 0 c ∧ l = []) ∨
  ∃ off c, v = .slice (some ⟨g, off, none⟩) l.length c ∧ ∀ i, i < l.length → w.cell? ⟨g, off + i, none⟩ = some (.int .u8 ((l.getD i 0 : Nat) : Int))

theorem value_any (g : Nat) (v : Value) (t : List Nat) (w : World) (ht : ∀ n ∈ t, n < 256) (hlen : t.length ≤ 8) (hv : RowE w g v t) :
    Calls Try.prog 48 #[v] w fun e w' => e = .returned (.int .u64 (num t : Int)) ∧ w = w' := by
  rcases hv with ⟨a, c, rfl, rfl⟩ | ⟨off, c, rfl, hcell⟩
  · go_enter Try.func48, Try.ntmps48
    go_wp2_with fail
    refine wp_loop_rounds 1 ?_
    rw [rounds_succ]
    go_wp2_with fail
    go_ret
    exact ⟨rfl, rfl⟩
  · exact value_some g off c t w ht hlen hcell

theorem conv_rowE {w : World} {g : Nat} {v : Value} {l : List Nat} (h : RowE w g v l) (hl : ∀ x ∈ l, x < 256) :
    (convert 32 9 v).run Try.prog w = .ok (.string (str l)) w := by
  rcases h with ⟨a, c, rfl, rfl⟩ | ⟨off, c, rfl, hcell⟩
  · exact conv_row (a := a) (l := []) rfl (.inl rfl) (by simp) c
  · refine conv_row rfl ?_ hl c
    by_cases h0 : l = []
    · exact .inl h0
    · have hp : 0 < l.length := List.length_pos_iff.2 h0
      exact .inr ⟨g, off, rfl, lt_of_cell (hcell 0 hp), hcell⟩

theorem Only.drewN {p : Nat} {a w : World} (h : Only p a w) (k : Nat) : Only p a (w.drewN k) := ⟨h.os, h.tape, h.output, h.size, h.block⟩

theorem rf_fail {w w' : World} {q g n c at' : Nat} {a : Option Addr} {B : List Nat} {x : Value} (hne : g ≠ q) (hlt : g < w.heap.size) (hw : w'.heap = w.heap)
    (hq : w.heap[q]? = some (.cells #[.slice a n c, .int .i64 ((at' : Nat) : Int), x] 72 (0, 0))) (hn : n = B.length) (hat : at' ≤ n) (hn1 : n ≤ 1000000) (hnc : n ≤ c)
    (hB : B = [] ∨ ∃ off, a = some ⟨g, off, none⟩ ∧ ∀ i, i < B.length → w.cell? ⟨g, off + i, none⟩ = some (.int .u8 ((B.getD i 0 : Nat) : Int))) :
    Rf (w'.setCell ⟨q, 2, none⟩ (.bool true)) q g [] true := by
  have hq' : w'.heap[q]? = some (.cells #[.slice a n c, .int .i64 ((at' : Nat) : Int), x] 72 (0, 0)) := by rw [hw]; exact hq
  have ho := (Only.refl q w').setCell 2 (.bool true)
  refine ⟨hne, by simp [World.setCell, hw]; exact hlt, a, n, c, at', B, set_block hq', hn, hat, hn1, hnc, fun _ => rfl, fun h => by simp at h, ?_⟩
  rcases hB with h | ⟨off, h1, h2⟩
  · exact .inl h
  · refine .inr ⟨off, h1, fun i hi => ?_⟩
    rw [ho.cell (q := ⟨g, off + i, none⟩) hne (by rw [hw]; exact hlt)]
    have : w'.cell? ⟨g, off + i, none⟩ = w.cell? ⟨g, off + i, none⟩ := by unfold World.cell?; rw [hw]
    rw [this]
    exact h2 i hi

/-- what Take comes to -/
theorem take_bad (q g : Nat) (l : List Nat) (m : Nat) (w : World) (h : Rf w q g l true) :
    Calls Try.prog 47 #[.pointer (some ⟨q, 0, none⟩), .int .i64 (m : Int)] w fun e w' => e = .returned (.tuple #[.slice none 0 0, .bool false]) ∧ Rf w' q g [] true ∧ Only q w w' := by
  obtain ⟨hne, hlt, a, n, c, at', B, hq, hn, hat, hn1, hnc, h1, h2, hB⟩ := h
  obtain ⟨c0, c1, c2, f0, f1, f2⟩ := cell_three hq
  have HQ := Lib.hid hq
  have HN := Lib.hid hn
  clear hq hn h1 h2
  have HB := Lib.hid hB
  clear hB
  go_enter Try.func47, Try.ntmps47
  go_wp2_with fail
  go_quiet (fail)
  go_wp2_with fail
  go_ret2
  exact ⟨rfl, rf_fail hne hlt rfl HQ.out HN.out hat hn1 hnc HB.out, ((Only.refl q w).drewN _).setCell _ _⟩

theorem take_short (q g : Nat) (l : List Nat) (m : Nat) (w : World) (h : Rf w q g l false) (hm : l.length < m) :
    Calls Try.prog 47 #[.pointer (some ⟨q, 0, none⟩), .int .i64 (m : Int)] w fun e w' => e = .returned (.tuple #[.slice none 0 0, .bool false]) ∧ Rf w' q g [] true ∧ Only q w w' := by
  obtain ⟨hne, hlt, a, n, c, at', B, hq, hn, hat, hn1, hnc, h1, h2, hB⟩ := h
  obtain ⟨c0, c1, c2, f0, f1, f2⟩ := cell_three hq
  have hlen : n - at' < m := by rw [h2 rfl] at hm; simp at hm; omega
  have HQ := Lib.hid hq
  have HN := Lib.hid hn
  clear hq hn h1 h2 hm
  have HB := Lib.hid hB
  clear hB
  have w1 : IntKind.i64.wrap ((n : Int) - (at' : Int)) = (n : Int) - (at' : Int) := IntWalk.i64_in _ (by omega)
  have k1 : (n : Int) - (at' : Int) < (m : Int) := by omega
  go_enter Try.func47, Try.ntmps47
  go_wp2_with fail
  go_quiet (fail)
  go_wp2_with fail
  go_ret2
  exact ⟨rfl, rf_fail hne hlt rfl HQ.out HN.out hat hn1 hnc HB.out, ((Only.refl q w).drewN _).setCell _ _⟩

/-- the state behind a Take that succeeds, and what it hands back -/
theorem rf_done {w w' : World} {q g n c at' m s nm off off' : Nat} {B l : List Nat} (hne : g ≠ q) (hlt : g < w.heap.size) (ho : Only q w w')
    (hq : w'.heap[q]? = some (.cells #[.slice (some ⟨g, off, none⟩) n c, .int .i64 ((s : Nat) : Int), .bool false] 72 (0, 0))) (hs : at' + m = s) (hnm : nm = m) (hn : n = B.length) (hat : s ≤ n) (hn1 : n ≤ 1000000) (hnc : n ≤ c) (hl : l = B.drop at')
    (hoff : m = 0 ∨ off' = off + at')
    (hB : ∀ i, i < B.length → w.cell? ⟨g, off + i, none⟩ = some (.int .u8 ((B.getD i 0 : Nat) : Int))) (cap : Nat) :
    RowE w' g (.slice (some ⟨g, off', none⟩) nm cap) (l.take m) ∧ Rf w' q g (l.drop m) false ∧ Only q w w' := by
  subst hs hnm
  have hB' : ∀ i, i < B.length → w'.cell? ⟨g, off + i, none⟩ = some (.int .u8 ((B.getD i 0 : Nat) : Int)) := fun i hi => by
    rw [ho.cell (q := ⟨g, off + i, none⟩) hne hlt]; exact hB i hi
  have hlen : (l.take nm).length = nm := by rw [hl, List.length_take, List.length_drop]; omega
  refine ⟨.inr ⟨off', cap, by rw [hlen], fun i hi => ?_⟩, ⟨hne, Nat.lt_of_lt_of_le hlt ho.size, some ⟨g, off, none⟩, n, c, at' + nm, B, hq, hn, hat, hn1, hnc, fun (h : false = true) => by simp at h, fun _ => by rw [hl, List.drop_drop], .inr ⟨off, rfl, hB'⟩⟩, ho⟩
  rw [hlen] at hi
  obtain rfl : off' = off + at' := by omega
  rw [Nat.add_assoc, hB' (at' + i) (by omega), hl]
  simp [List.getD, hi]

theorem take_ok (q g : Nat) (l : List Nat) (m : Nat) (w : World) (h : Rf w q g l false) (hm : m ≤ l.length) :
    Calls Try.prog 47 #[.pointer (some ⟨q, 0, none⟩), .int .i64 (m : Int)] w fun e w' => ∃ v, e = .returned (.tuple #[v, .bool true]) ∧ RowE w' g v (l.take m) ∧ Rf w' q g (l.drop m) false ∧ Only q w w' := by
  obtain ⟨hne, hlt, a, n, c, at', B, hq, hn, hat, hn1, hnc, h1, h2, hB⟩ := h
  obtain ⟨c0, c1, c2, f0, f1, f2⟩ := cell_three hq
  have hll := h2 rfl
  have hlen : m ≤ n - at' := by rw [hll] at hm; simp at hm; omega
  have HQ := Lib.hid hq
  have HN := Lib.hid hn
  have HL := Lib.hid hll
  clear hq hn h1 h2 hm hll
  have w1 : IntKind.i64.wrap ((n : Int) - (at' : Int)) = (n : Int) - (at' : Int) := IntWalk.i64_in _ (by omega)
  have k1 : ¬ (n : Int) - (at' : Int) < (m : Int) := by omega
  have w2 : IntKind.i64.wrap (((at' + m : Nat) : Int) - (m : Int)) = (at' : Int) := by rw [IntWalk.i64_in _ (by omega)]; omega
  rcases hB with rfl | ⟨off, rfl, hcell⟩
  · obtain rfl : n = 0 := by rw [HN.out]; rfl
    obtain rfl : at' = 0 := by omega
    obtain rfl : m = 0 := by omega
    have z1 : IntKind.i64.wrap 0 = 0 := by decide
    go_enter Try.func47, Try.ntmps47
    go_wp2_with fail
    go_quiet (fail)
    go_wp2_with fail
    have hb1 := set_block (j := 1) (u := .int .i64 0) (show (w.drewN nq).heap[q]? = _ from HQ.out)
    have ho1 := ((Only.refl q w).drewN nq).setCell 1 (.int .i64 0)
    generalize ((w.drewN nq).setCell ⟨q, 1, none⟩ (.int .i64 0)) = W at *
    have hb1 : W.heap[q]? = some (.cells #[.slice a 0 c, .int .i64 ((0 : Nat) : Int), .bool false] 72 (0, 0)) := hb1
    obtain ⟨d0, d1, d2, _, _, _⟩ := cell_three hb1
    have HB1 := Lib.hid hb1
    clear hb1 c0 c1 c2 f0 f1 f2
    have hfin : ∀ (v : Value) (k : Nat), (∃ a' c', v = .slice a' 0 c') → RowE (W.drewN k) g v (l.take 0) ∧ Rf (W.drewN k) q g (l.drop 0) false ∧ Only q w (W.drewN k) := by
      intro v k hv
      obtain ⟨a', c', rfl⟩ := hv
      exact ⟨.inl ⟨a', c', rfl, by simp⟩, ⟨hne, Nat.lt_of_lt_of_le hlt ho1.size, a, 0, c, 0, [], HB1.out, rfl, by omega, by omega, by omega, fun (h : false = true) => by simp at h, fun _ => by rw [HL.out]; simp, .inl rfl⟩, ho1.drewN k⟩
    have HF := Lib.hid hfin
    clear hfin
    by_cases hc0 : c = 0
    · subst hc0
      go_quiet (fail)
      go_wp2_with fail
      go_ret2
      exact ⟨_, rfl, HF.out _ _ ⟨_, _, rfl⟩⟩
    · have hc1 : 0 < c := by omega
      clear hc0
      go_quiet (fail)
      go_wp2_with fail
      go_ret2
      exact ⟨_, rfl, HF.out _ _ ⟨_, _, rfl⟩⟩
  · have HC := Lib.hid hcell
    clear hcell
    go_enter Try.func47, Try.ntmps47
    go_wp2_with fail
    go_quiet (fail)
    go_wp2_with fail
    rw [show ((at' : Int) + (m : Int)) = ((at' + m : Nat) : Int) from by omega]
    have hb1 := set_block (j := 1) (u := .int .i64 ((at' + m : Nat) : Int)) (show (w.drewN nq).heap[q]? = _ from HQ.out)
    have ho1 := ((Only.refl q w).drewN nq).setCell 1 (.int .i64 ((at' + m : Nat) : Int))
    generalize ((w.drewN nq).setCell ⟨q, 1, none⟩ (.int .i64 ((at' + m : Nat) : Int))) = W at *
    have hb1 : W.heap[q]? = some (.cells #[.slice (some ⟨g, off, none⟩) n c, .int .i64 ((at' + m : Nat) : Int), .bool false] 72 (0, 0)) := hb1
    obtain ⟨d0, d1, d2, _, _, _⟩ := cell_three hb1
    have HB1 := Lib.hid hb1
    clear hb1 c0 c1 c2 f0 f1 f2
    have s1 : at' + m ≤ n := by omega
    have s2 : (0 : Int) ≤ (at' : Int) := by omega
    have s3 : (at' : Int) ≤ ((at' + m : Nat) : Int) := by omega
    have s4 : ((at' + m : Nat) : Int) ≤ (c : Int) := by omega
    generalize hs : at' + m = s at *
    have HS := Lib.hid hs
    clear hs
    by_cases hac : c = at'
    · subst hac
      obtain rfl : m = 0 := by omega
      go_quiet (fail)
      go_wp2_with fail
      go_ret2
      have hs := HS.out
      exact ⟨_, rfl, rf_done hne hlt (ho1.drewN _) (show W.heap[q]? = _ from HB1.out) hs (by omega) HN.out s1 hn1 hnc HL.out (by omega) HC.out _⟩
    · have hac' : at' < c := by omega
      clear hac
      go_quiet (fail)
      go_wp2_with fail
      go_ret2
      have hs := HS.out
      exact ⟨_, rfl, rf_done hne hlt (ho1.drewN _) (show W.heap[q]? = _ from HB1.out) hs (by omega) HN.out s1 hn1 hnc HL.out (by omega) HC.out _⟩

/-- Take, in the words of the other reader -/
theorem take_any (q g : Nat) (l : List Nat) (bad : Bool) (m : Nat) (w : World) (h : Rf w q g l bad) (hbad : bad = true → l = []) :
    Calls Try.prog 47 #[.pointer (some ⟨q, 0, none⟩), .int .i64 (m : Int)] w fun e w' => ∃ v, e = .returned (.tuple #[v, .bool (!bad && decide (m ≤ l.length))]) ∧ RowE w' g v (nx m l) ∧ Rf w' q g (rdL m l) (rdB m l bad) ∧ Only q w w' := by
  cases bad with
  | true =>
    obtain rfl : l = [] := hbad rfl
    refine (take_bad q g [] m w h).mono fun e w' ⟨h1, h2, h3⟩ => ⟨_, h1, .inl ⟨none, 0, rfl, by unfold nx; split <;> simp⟩, ?_, h3⟩
    have e1 : rdL m [] = [] := by unfold rdL; split <;> simp
    have e2 : rdB m [] true = true := by unfold rdB; split <;> rfl
    rw [e1, e2]
    exact h2
  | false =>
    by_cases hm : m ≤ l.length
    · rw [show nx m l = l.take m from if_pos hm, show rdL m l = l.drop m from if_pos hm, show rdB m l false = false from if_pos hm, show decide (m ≤ l.length) = true from by simpa using hm]
      exact take_ok q g l m w h hm
    · rw [show nx m l = [] from if_neg hm, show rdL m l = [] from if_neg hm, show rdB m l false = true from if_neg hm, show decide (m ≤ l.length) = false from by simpa using hm]
      exact (take_short q g l m w h (by omega)).mono fun e w' ⟨h1, h2, h3⟩ => ⟨_, h1, .inl ⟨none, 0, rfl, rfl⟩, h2, h3⟩

theorem rdB_bad {m : Nat} {l : List Nat} {bad : Bool} (h : bad = true → l = []) : rdB m l bad = true → rdL m l = [] := by
  unfold rdB rdL
  split
  · intro hb
    rw [h hb]
    simp
  · intro _; rfl

theorem number_any (q g : Nat) (l : List Nat) (bad : Bool) (m : Nat) (w : World) (h : Rf w q g l bad) (hbad : bad = true → l = []) (hm : 0 < m) (hm8 : m ≤ 8) (hb : ∀ n ∈ l, n < 256) :
    Calls Try.prog 32 #[.pointer (some ⟨q, 0, none⟩), .int .i64 (m : Int)] w fun e w' => e = .returned (.int .u64 (rdN m l : Int)) ∧ Rf w' q g (rdL m l) (rdB m l bad) ∧ Only q w w' := by
  by_cases hok : (!bad && decide (m ≤ l.length)) = true
  · have hml : m ≤ l.length := by simp at hok; exact hok.2
    have e1 : rdN m l = num (nx m l) := by unfold rdN nx; rw [if_pos hml, if_pos hml]
    rw [e1]
    have hnx : (nx m l).length ≤ 8 := by unfold nx; rw [if_pos hml, List.length_take]; omega
    have HOK := Lib.hid hok
    clear hok e1
    go_enter Try.func32, Try.ntmps32
    go_wp2_with fail
    refine (take_any q g l bad m w h hbad).mono ?_
    rintro e w1 ⟨v, rfl, hv, hr, ho⟩
    rw [HOK.out]
    go_wp2_with fail
    refine (value_any g v _ w1 (nx_lt m hb) hnx hv).mono ?_
    rintro e w2 ⟨rfl, rfl⟩
    go_wp2_with fail
    go_ret
    exact ⟨rfl, hr, ho⟩
  · have e1 : rdN m l = 0 := by
      unfold rdN
      split
      · rename_i hml
        cases bad with
        | true =>
          have := hbad rfl
          subst this
          simp at hml
          omega
        | false => simp [hml] at hok
      · rfl
    rw [e1]
    have hok : (!bad && decide (m ≤ l.length)) = false := by simpa using hok
    have HOK := Lib.hid hok
    clear hok e1
    go_enter Try.func32, Try.ntmps32
    go_wp2_with fail
    refine (take_any q g l bad m w h hbad).mono ?_
    rintro e w1 ⟨v, rfl, hv, hr, ho⟩
    rw [HOK.out]
    go_wp2_with fail
    go_ret
    exact ⟨rfl, hr, ho⟩

theorem reftext_any (q g : Nat) (l : List Nat) (bad : Bool) (w : World) (h : Rf w q g l bad) (hbad : bad = true → l = []) (hb : ∀ n ∈ l, n < 256) :
    Calls Try.prog 29 #[.pointer (some ⟨q, 0, none⟩)] w fun e w' => e = .returned (.string (str (txS l))) ∧ Rf w' q g (txL l) (txB l bad) ∧ Only q w w' := by
  have hn := rdN_lt 2 hb
  have hb2 := rdL_lt 2 hb
  have hbd := rdB_bad (m := 2) hbad
  have HBD := Lib.hid hbd
  clear hbd
  go_enter Try.func29, Try.ntmps29
  go_wp2_with fail
  refine (number_any q g l bad 2 w h hbad (by omega) (by omega) hb).mono ?_
  rintro e w1 ⟨rfl, hr, ho⟩
  go_wp2_with fail
  refine (take_any q g _ _ (rdN 2 l) w1 hr HBD.out).mono ?_
  rintro e w2 ⟨v, rfl, hv, hr2, ho2⟩
  have hcv := conv_rowE hv (nx_lt _ hb2)
  go_wp2_with fail
  go_ret
  exact ⟨rfl, hr2, ho.trans ho2⟩

theorem refleft_any (q g : Nat) (l : List Nat) (bad : Bool) (w : World) (h : Rf w q g l bad) :
    Calls Try.prog 30 #[.pointer (some ⟨q, 0, none⟩)] w fun e w' => e = .returned (.int .i64 (l.length : Int)) ∧ ∃ k, w' = w.drewN k := by
  obtain ⟨hne, hlt, a, n, c, at', B, hq, hn, hat, hn1, hnc, h1, h2, hB⟩ := h
  obtain ⟨c0, c1, c2, f0, f1, f2⟩ := cell_three hq
  clear hq hB
  have HN := Lib.hid hn
  clear hn
  cases bad with
  | true =>
    have hll := h1 rfl
    clear h1 h2
    subst hll
    go_enter Try.func30, Try.ntmps30
    go_wp2_with fail
    go_ret
    exact ⟨rfl, 0, rfl⟩
  | false =>
    have hll : (l.length : Int) = (n : Int) - (at' : Int) := by rw [h2 rfl, List.length_drop]; have := HN.out; omega
    have HL := Lib.hid hll
    clear h1 h2 hll
    have w1 : IntKind.i64.wrap ((n : Int) - (at' : Int)) = (n : Int) - (at' : Int) := IntWalk.i64_in _ (by omega)
    go_enter Try.func30, Try.ntmps30
    go_wp2_with fail
    go_quiet (fail)
    go_wp2_with fail
    go_ret
    exact ⟨ret_eq HL.out.symm, _, rfl⟩
theorem byte_one (x : Nat) : #[Value.int IntKind.u8 ((x : Int) % 256)] = (([x % 256] : List Nat).map fun (n : Nat) => Value.int .u8 (n : Int)).toArray := by simp

theorem refnum_any (N m : Nat) (w : World) (hN : N < 18446744073709551616) (hm : m ≤ 8) :
    Calls Try.prog 42 #[.int .u64 (N : Int), .int .i64 (m : Int)] w fun e w' => Owned w.heap.size (le N m) w e w' := by
  go_enter Try.func42, Try.ntmps42
  go_wp2_with fail
  go_loopw [0, 5, 6] (fun v s i wr => ∃ k : Nat, k ≤ m ∧ i = .int .i64 k ∧ v = .int .u64 ((N / 2 ^ (8 * k) : Nat) : Int) ∧ ∃ a' n' c', s = .slice a' n' c' ∧ wr.ownsRow w.heap.size 5 1 (.slice a' n' c') n' (bytesV (le N k)) ∧ n' ≤ k ∧ Below w.heap.size w wr) (fun _ _ i _ => m - (intOf i).toNat)
  case atStart => exact ⟨0, by omega, rfl, by simp, none, 0, 0, rfl, World.ownsRow_nil _ _ _ _, by omega, Below.refl _ _⟩
  case round =>
    obtain ⟨k, hk, rfl, rfl, a', n', c', rfl, hown, hle, hnx⟩ := hrel
    have hsz := hnx.size
    by_cases hlt : k < m
    · have hsc := le_succ N k
      have hdv : N / 2 ^ (8 * k) / 256 = N / 2 ^ (8 * (k + 1)) := by rw [Nat.div_div_eq_div_mul, show 8 * (k + 1) = 8 * k + 8 from by omega, Nat.pow_add]
      have hxl : N / 2 ^ (8 * k) < 18446744073709551616 := Nat.lt_of_le_of_lt (Nat.div_le_self _ _) hN
      have HD := Lib.hid hdv
      have HS := Lib.hid hsc
      clear hdv hsc
      generalize N / 2 ^ (8 * k) = x at *
      go_wp2_with (at_builtin; refine wpList_append_bytes rfl (.tmp 12) (.tmp 16) rfl w.heap.size (.slice a' n' c') n' (le N k) rfl (hown.alloc _) (some ⟨wr.heap.size, 0, none⟩) 1 1 [x % 256] rfl rfl (by simp) (row_list _ _ _ _ _ (byte_one x)) (le N k ++ [x % 256]) rfl (by omega) (by simp; omega) ?_; intro a2 n2 c2 w2 hown2 Hn2 hle2 _ _ hb2)
      go_roundw
      case rel => exact ⟨k + 1, by omega, by go_num, by rw [← HD.out]; go_num, a2, n2, c2, rfl, by rw [HS.out]; exact hown2, by omega, (hnx.alloc (by omega) _).trans hb2⟩
      case measure => simp [intOf]; omega
    · obtain rfl : m = k := by omega
      go_wp2_with fail
      go_ret
      exact ⟨a', n', c', rfl, hown, hnx⟩

theorem reft_any (s : ByteArray) (w : World) (hs : s.size ≤ 65535) :
    Calls Try.prog 41 #[.string s] w fun e w' => ∃ a' n' c', e = .returned (.tuple #[.slice a' n' c', .bool true]) ∧ w'.ownsRow w.heap.size 5 1 (.slice a' n' c') n' (bytesV (le s.size 2 ++ sb s)) ∧ Below w.heap.size w w' := by
  go_enter Try.func41, Try.ntmps41
  go_wp2_with fail
  refine (refnum_any s.size 2 w (by omega) (by omega)).mono ?_
  rintro e w1 ⟨a1, n1, c1, rfl, hown1, hb1⟩
  have hn1 : n1 ≤ 2 := by have := hown1.1; rw [bytesV_length, le_length] at this; omega
  go_wp2_with (at_builtin; refine wpList_append_str rfl (.tmp 10) (.tmp 11) rfl w.heap.size (.slice a1 n1 c1) n1 (le s.size 2) rfl hown1 s rfl (by omega) hb1.size ?_; intro a3 n3 c3 w3 hown3 hle3 hb3)
  go_ret2
  exact ⟨a3, n3, c3, rfl, hown3, hb1.trans hb3⟩

theorem reft_long (s : ByteArray) (w : World) (hs : 65535 < s.size) :
    Calls Try.prog 41 #[.string s] w fun e w' => e = .returned (.tuple #[.slice none 0 0, .bool false]) ∧ w = w' := by
  go_enter Try.func41, Try.ntmps41
  go_wp2_with fail
  go_ret2
  exact ⟨rfl, rfl⟩
theorem Rd.only {w w' : World} {p g r : Nat} {l : List Nat} {bad : Bool} (h : Rd w p g l bad) (ho : Only r w w') (h1 : p ≠ r) (h2 : g ≠ r) : Rd w' p g l bad := by
  obtain ⟨hne, hlt, v, hp, hv⟩ := h
  exact ⟨hne, Nat.lt_of_lt_of_le hlt ho.size, v, by rw [ho.block p (lt_of_block hp) h1]; exact hp, hv.only ho h2 hlt⟩

theorem Rf.only {w w' : World} {q g r : Nat} {l : List Nat} {bad : Bool} (h : Rf w q g l bad) (ho : Only r w w') (h1 : q ≠ r) (h2 : g ≠ r) : Rf w' q g l bad := by
  obtain ⟨hne, hlt, a, n, c, at', B, hq, hn, hat, hn1, hnc, e1, e2, hB⟩ := h
  refine ⟨hne, Nat.lt_of_lt_of_le hlt ho.size, a, n, c, at', B, by rw [ho.block q (lt_of_block hq) h1]; exact hq, hn, hat, hn1, hnc, e1, e2, ?_⟩
  rcases hB with h | ⟨off, e, hc⟩
  · exact .inl h
  · exact .inr ⟨off, e, fun i hi => by rw [ho.cell (q := ⟨g, off + i, none⟩) h2 hlt]; exact hc i hi⟩

theorem Rd.drewN {w : World} {p g : Nat} {l : List Nat} {bad : Bool} (h : Rd w p g l bad) (k : Nat) : Rd (w.drewN k) p g l bad := ⟨h.ne, h.lt, h.cells⟩
theorem Rf.drewN {w : World} {p g : Nat} {l : List Nat} {bad : Bool} (h : Rf w p g l bad) (k : Nat) : Rf (w.drewN k) p g l bad := ⟨h.ne, h.lt, h.cells⟩

theorem Row.take {w : World} {a : Option Addr} {l : List Nat} (h : Row w a l) (k : Nat) : Row w a (l.take k) := by
  rcases h with rfl | ⟨b, off, h1, h2, h3⟩
  · exact .inl (by simp)
  · refine .inr ⟨b, off, h1, h2, fun i hi => ?_⟩
    have hi2 : i < k ∧ i < l.length := by simp at hi; omega
    rw [h3 i hi2.2]
    simp [List.getD, hi2.1]

theorem num_le (k : Nat) : ∀ v, num (le v k) = v % 2 ^ (8 * k) := by
  induction k with
  | zero => intro v; simp [le, num, Nat.mod_one]
  | succ k ih =>
    intro v
    rw [le_succ, num_snoc, ih, le_length, show 8 * (k + 1) = 8 * k + 8 from by omega, Nat.pow_add, Nat.mod_mul, show (2 : Nat) ^ 8 = 256 from rfl, Nat.mul_comm (2 ^ (8 * k))]

theorem rd_le (k v : Nat) (r : List Nat) : rdN k (le v k ++ r) = v % 2 ^ (8 * k) ∧ rdL k (le v k ++ r) = r ∧ ∀ bad, rdB k (le v k ++ r) bad = bad := by
  have h : k ≤ (le v k ++ r).length := by simp [le_length]
  refine ⟨?_, ?_, fun bad => if_pos h⟩
  · unfold rdN
    rw [if_pos h, List.take_append_of_le_length (by rw [le_length]; exact Nat.le_refl _), List.take_of_length_le (by rw [le_length]; exact Nat.le_refl _), num_le]
  · unfold rdL
    rw [if_pos h, List.drop_append_of_le_length (by rw [le_length]; exact Nat.le_refl _), List.drop_of_length_le (by rw [le_length]; exact Nat.le_refl _)]
    rfl

theorem tx_le (s : ByteArray) (r : List Nat) (hs : s.size ≤ 65535) : txS (le s.size 2 ++ sb s ++ r) = sb s ∧ txL (le s.size 2 ++ sb s ++ r) = r ∧ ∀ bad, txB (le s.size 2 ++ sb s ++ r) bad = bad := by
  rw [List.append_assoc]
  obtain ⟨h1, h2, h3⟩ := rd_le 2 s.size (sb s ++ r)
  have hm : s.size % 2 ^ (8 * 2) = s.size := Nat.mod_eq_of_lt (by omega)
  rw [hm] at h1
  have hl : s.size ≤ (sb s ++ r).length := by simp [sb_length]
  refine ⟨?_, ?_, fun bad => ?_⟩
  · unfold txS
    rw [h1, h2]
    unfold nx
    rw [if_pos hl, ← sb_length s, List.take_left]
  · unfold txL
    rw [h1, h2]
    unfold rdL
    rw [if_pos hl, ← sb_length s, List.drop_left]
  · unfold txB
    rw [h1, h2, h3]
    exact if_pos hl

end Go.Proofs.Ytofdnbddpageoaa.Pk
