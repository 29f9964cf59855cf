/-
  SLICES OF BYTES AS LISTS OF NUMBERS; append OF BYTES onto a row of the call's own.
-/
import Derived.Test.YtfmelhcpccghdaaGreatRows
import Derived.WalkKit
import Derived.WalkLawsBesides
import Derived.Laws.BitsAllLaws
import Derived.Lib.Hide
import Derived.Lib.SlBytesConst
import Derived.Lib.AppendStr
import Derived.OpenShut
import Derived.Laws.AppendOwnNone
import Derived.Laws.CopyOwn
import Derived.OneCell
namespace Go.Proofs.YtfmelhcpccghdaaGreat.Pk
open Go.RowKit

theorem ret_eq {k : IntKind} {a b : Int} (h : a = b) : Ending.returned (.int k a) = .returned (.int k b) := by rw [h]
theorem val_eq {k : IntKind} {a b : Int} (h : a = b) : Value.int k a = Value.int k b := by rw [h]

/-- a slice's value reads as these bytes -/
def Row (w : World) (a : Option Addr) (l : List Nat) : Prop :=
  l = [] ∨ ∃ b off, a = some ⟨b, off, none⟩ ∧ b < w.heap.size ∧ ∀ i, i < l.length → w.cell? ⟨b, off + i, none⟩ = some (.int .u8 ((l.getD i 0 : Nat) : Int))

theorem Row.below {w w' : World} {a : Option Addr} {l : List Nat} (h : Row w a l) (hb : Below w.heap.size w w') : Row w' a l := by
  rcases h with h | ⟨b, off, h1, h2, h3⟩
  · exact .inl h
  · exact .inr ⟨b, off, h1, Nat.lt_of_lt_of_le h2 hb.size, fun i hi => by rw [hb.cell (p := ⟨b, off + i, none⟩) h2]; exact h3 i hi⟩

theorem below_alloc (w : World) (o : Obj) : Below w.heap.size w (w.alloc o) := (Below.refl _ _).alloc (Nat.le_refl _) _

theorem cell_new (w : World) (v : Value) (t : TypeId) : (w.alloc (.cells #[v] t)).cell? ⟨w.heap.size, 0, none⟩ = some v := by
  rw [World.cell?_alloc_at _ _ _ _ rfl]; rfl

theorem row_mark (w : World) (C : Array Value) (t : TypeId) (fr : Nat × Nat) (l : List Nat) (h : ∀ i, i < l.length → C[i]? = some (.int .u8 ((l.getD i 0 : Nat) : Int))) :
    Row (w.alloc (.cells C t fr)) (some ⟨w.heap.size, 0, none⟩) l := by
  refine .inr ⟨_, _, rfl, by simp, fun i hi => ?_⟩
  rw [Nat.zero_add, World.cell?_alloc_mark]
  exact h i hi

theorem row_list (w : World) (l : List Nat) (C : Array Value) (t : TypeId) (fr : Nat × Nat) (hC : C = (l.map fun (n : Nat) => Value.int .u8 (n : Int)).toArray) :
    Row (w.alloc (.cells C t fr)) (some ⟨w.heap.size, 0, none⟩) l := by
  subst hC
  refine row_mark _ _ _ _ _ fun i hi => ?_
  simp [hi]

def IsRow (k : IntKind) (w : World) (a : Option Addr) (len cap : Nat) (zs : List Int) : Prop :=
  (a = none ∧ len = 0 ∧ cap = 0 ∧ zs = []) ∨
  ∃ x, a = some x ∧ len ≤ cap ∧ cap ≤ maxLen ∧ zs.length = cap ∧ (∀ i, i < zs.length → w.cell? (x.add i) = some (.int k (zs.getD i 0))) ∧ ∀ n ∈ zs, (Lit.int k n).wf = true

theorem lt_of_cell {w : World} {p : Addr} {v : Value} (h : w.cell? p = some v) : p.block < w.heap.size := by
  rcases Nat.lt_or_ge p.block w.heap.size with h' | h'
  · exact h'
  · simp [World.cell?, Array.getElem?_eq_none h'] at h

theorem u8_bounds {n : Int} (h : (Lit.int .u8 n).wf = true) : 0 ≤ n ∧ n ≤ 255 := by
  simpa [Lit.wf, IntKind.min, IntKind.max, IntKind.signed, IntKind.bits] using h

theorem u16_bounds {n : Int} (h : (Lit.int .u16 n).wf = true) : 0 ≤ n ∧ n ≤ 65535 := by
  simpa [Lit.wf, IntKind.min, IntKind.max, IntKind.signed, IntKind.bits] using h

theorem u32_bounds {n : Int} (h : (Lit.int .u32 n).wf = true) : 0 ≤ n ∧ n ≤ 4294967295 := by
  simpa [Lit.wf, IntKind.min, IntKind.max, IntKind.signed, IntKind.bits] using h

theorem nil_of {k : IntKind} {w : World} {a : Option Addr} {len cap : Nat} {zs : List Int} (h : IsRow k w a len cap zs) : a = none → cap = 0 := by
  rcases h with ⟨_, _, h, _⟩ | ⟨x, rfl, _⟩
  · exact fun _ => h
  · exact fun e => by cases e

theorem cap_of {k : IntKind} {w : World} {a : Option Addr} {len cap : Nat} {zs : List Int} (h : IsRow k w a len cap zs) : len ≤ cap := by
  rcases h with ⟨_, h, h', _⟩ | ⟨x, _, h, _⟩
  · omega
  · exact h

theorem bytes_of {w : World} {a : Option Addr} {len cap : Nat} {zs : List Int} (h : IsRow .u8 w a len cap zs) :
    ∃ l : List Nat, len = l.length ∧ (∀ n ∈ l, n < 256) ∧ Row w a l := by
  rcases h with ⟨_, h1, _, _⟩ | ⟨x, rfl, h1, _, h3, h4, h5⟩
  · exact ⟨[], h1, by simp, .inl rfl⟩
  · have hl : len = ((zs.take len).map Int.toNat).length := by simp; omega
    refine ⟨(zs.take len).map Int.toNat, hl, ?_, ?_⟩
    · intro n hn
      obtain ⟨z, hz, rfl⟩ := List.mem_map.1 hn
      have := u8_bounds (h5 z (List.mem_of_mem_take hz))
      omega
    · by_cases hp : 0 < zs.length
      · obtain ⟨b, off, rfl, hc⟩ := ints_at h4 hp
        refine .inr ⟨b, off, rfl, lt_of_cell (hc 0 hp), fun i hi => ?_⟩
        have hi2 : i < len := by rw [hl]; exact hi
        rw [hc i (by omega)]
        have hz : i < zs.length := by omega
        have hb := u8_bounds (h5 zs[i] (by simp))
        have e : zs.getD i 0 = zs[i] := by simp [List.getD, hz]
        have e2 : ((zs.take len).map Int.toNat).getD i 0 = zs[i].toNat := by simp [List.getD, hi2, hz]
        rw [e, e2]
        congr 2
        omega
      · refine .inl ?_
        have : zs = [] := List.eq_nil_of_length_eq_zero (by omega)
        simp [this]

def bytesV (l : List Nat) : List Value := l.map fun (n : Nat) => Value.int .u8 (n : Int)

theorem bytesV_append (a b : List Nat) : bytesV (a ++ b) = bytesV a ++ bytesV b := by simp [bytesV]
theorem bytesV_length (l : List Nat) : (bytesV l).length = l.length := by simp [bytesV]

theorem info5 : (Tryz.prog.info? 5).map (fun i => (i.zero, i.size, i.bytes)) = some (some (.int .u8 0), 1, 1) := by kernel_rfl

theorem row_cells {w : World} {x : Addr} {l : List Nat} (h : Row w (some x) l) : ∀ j u, (bytesV l)[j]? = some u → w.cell? (x.add j) = some u := by
  intro j u hu
  unfold bytesV at hu
  rw [List.getElem?_map] at hu
  obtain ⟨n, hn, rfl⟩ := Option.map_eq_some_iff.1 hu
  have hj : j < l.length := by
    rcases Nat.lt_or_ge j l.length with h | h
    · exact h
    · rw [List.getElem?_eq_none h] at hn; cases hn
  rcases h with rfl | ⟨b, off, e, _, hc⟩
  · simp at hj
  · cases e
    rw [Go.WideShapes.add_plain, hc j hj]
    simp [List.getD, hn]

/-- what an append to a row of the call's own leaves of what was there ahead -/
theorem below_grown {w w' : World} {base : Nat} {v : Value} {n : Nat} {xs : List Value} (hown : w.ownsRow base 5 1 v n xs) (hg : w.grownBy w' v.ownBlock) (hb : base ≤ w.heap.size) : Below base w w' :=
  (Below.refl _ _).grown hg hb fun k hk => (hown.lt k hk).1

theorem wpList_append_bytes0 {w : World} {ops : Array Oper} {rest : List Oper} {o : Oper} {a : Act} {Q : Exit → Act → World → Prop} (hgd : o.guard = none) (s x : Operand)
    (ho : o.op = .call { callee := .builtin .append, args := #[s, x], argTypes := #[31, 31] })
    (base : Nat) (v : Value) (n : Nat) (xs : List Nat) (hs : a.eval s = v) (hown : w.ownsRow base 5 1 v n (bytesV xs))
    (ad : Option Addr) (m c : Nat) (l : List Nat) (hx : a.eval x = .slice ad m c) (hm : m = l.length) (hnil : ad = none → c = 0) (hrow : Row w ad l)
    (hbytes : n + m ≤ 140737488351232) (hbase : base ≤ w.heap.size)
    (h : ∀ v' w', w'.ownsRow base 5 1 v' (n + m) (bytesV (xs ++ l)) → Below base w w' → wpList Tryz.prog ops Q rest (a.put o.dst v') w') : wpList Tryz.prog ops Q (o :: rest) a w := by
  obtain ⟨i0, hi, hz0, hz1, hz2⟩ := info_parts info5
  cases ad with
  | none =>
    have hl : l = [] := by
      rcases hrow with h | ⟨_, _, e, _⟩
      · exact h
      · cases e
    subst hl
    obtain rfl : c = 0 := hnil rfl
    obtain rfl : m = 0 := hm
    refine wpList_append_own_none hgd s x 31 ho base 5 i0 1 Tryz.underlying31 hi v n (bytesV xs) hs hown hx ?_
    refine h v w ?_ (Below.refl _ _)
    simpa using hown
  | some ad =>
    refine wpList_append_own w hgd s x 31 ho base 5 i0 (.int .u8 0) 1 1 Tryz.underlying31 hi hz0 hz1 hz2 rfl (by decide) v n (bytesV xs) hs hown ad m c (bytesV l) hx (by rw [bytesV_length]; omega) (row_cells hrow) ?_ (by unfold maxLen; omega) (by omega) hbase ?_
    · intro u hu
      unfold bytesV at hu
      obtain ⟨k, _, rfl⟩ := List.mem_map.1 hu
      rfl
    · intro v' w' h1 h2 _
      exact h v' w' (by rw [bytesV_append]; exact h1) (below_grown hown h2 hbase)

/-- what is owned reads as its bytes -/
theorem row_owned {w : World} {base : Nat} {v : Value} {n : Nat} {xs : List Nat} (h : w.ownsRow base 5 1 v n (bytesV xs)) :
    ∃ a cap, v = .slice a n cap ∧ n = xs.length ∧ Row w a xs ∧ (a = none → cap = 0) := by
  have hn : n = xs.length := by have := h.1; rw [bytesV_length] at this; omega
  rcases h.2 with ⟨rfl, rfl⟩ | ⟨g, cap, cur, rfl, hb, hg, hle, _, hsz, htake⟩
  · exact ⟨none, 0, rfl, hn, .inl (List.eq_nil_of_length_eq_zero hn.symm), fun _ => rfl⟩
  · refine ⟨some ⟨g, 0, none⟩, cap, rfl, hn, .inr ⟨g, 0, rfl, (Array.getElem?_eq_some_iff.1 hg).1, fun i hi => ?_⟩, fun e => by cases e⟩
    have hc := h.cells (g := g) rfl i (.int .u8 ((xs.getD i 0 : Nat) : Int)) (by simp [bytesV, hi])
    rw [Go.WideShapes.add_plain] at hc
    exact hc

/-- the same, its end in the walk's own form: a value of three parts, its length a number of its own -/
theorem wpList_append_bytes {w : World} {ops : Array Oper} {rest : List Oper} {o : Oper} {a : Act} {Q : Exit → Act → World → Prop} (hgd : o.guard = none) (s x : Operand)
    (ho : o.op = .call { callee := .builtin .append, args := #[s, x], argTypes := #[31, 31] })
    (base : Nat) (v : Value) (n : Nat) (xs : List Nat) (hs : a.eval s = v) (hown : w.ownsRow base 5 1 v n (bytesV xs))
    (ad : Option Addr) (m c : Nat) (l : List Nat) (hx : a.eval x = .slice ad m c) (hm : m = l.length) (hnil : ad = none → c = 0) (hrow : Row w ad l)
    (ys : List Nat) (hys : xs ++ l = ys) (hbytes : n + m ≤ 140737488351232) (hbase : base ≤ w.heap.size)
    (h : ∀ a' n' c' w', w'.ownsRow base 5 1 (.slice a' n' c') n' (bytesV ys) → Hid (n' = ys.length) → n' ≤ n + m → Row w' a' ys → Hid (a' = none → c' = 0) → Below base w w' → wpList Tryz.prog ops Q rest (a.put o.dst (.slice a' n' c')) w') : wpList Tryz.prog ops Q (o :: rest) a w := by
  subst hys
  refine wpList_append_bytes0 hgd s x ho base v n xs hs hown ad m c l hx hm hnil hrow hbytes hbase fun v' w' h1 h2 => ?_
  obtain ⟨a', c', rfl, hn, hr, hc⟩ := row_owned h1
  exact h a' (n + m) c' w' h1 hn (Nat.le_refl _) hr hc h2

theorem owns_made (w : World) (base : Nat) (hb : base ≤ w.heap.size) : (w.alloc (.cells #[] 5)).ownsRow base 5 1 (.slice (some ⟨w.heap.size, 0, none⟩) 0 0) 0 (bytesV []) :=
  World.ownsRow_made w #[] 0 hb (by unfold maxLen; omega) rfl

theorem app_lt {a b : List Nat} (ha : ∀ n ∈ a, n < 256) (hb : ∀ n ∈ b, n < 256) : ∀ n ∈ a ++ b, n < 256 := fun n hn => by
  rcases List.mem_append.1 hn with h | h
  · exact ha n h
  · exact hb n h

theorem cell_keep {w : World} {p : Addr} {v : Value} (h : w.cell? p = some v) (o : Obj) : (w.alloc o).cell? p = some v := by
  rw [← h]
  exact (below_alloc w o).cell (lt_of_cell h)

theorem Row.drew {w : World} {a : Option Addr} {l : List Nat} (h : Row w a l) : Row w.drew a l := by
  rcases h with h | ⟨b, off, h1, h2, h3⟩
  · exact .inl h
  · exact .inr ⟨b, off, h1, h2, h3⟩

theorem Row.alloc {w : World} {a : Option Addr} {l : List Nat} (h : Row w a l) (o : Obj) : Row (w.alloc o) a l := h.below (below_alloc _ _)

theorem below_step {w W w1 : World} (hb : Below W.heap.size W w1) (h : Below w.heap.size w W) : Below w.heap.size w w1 := h.trans (hb.mono h.size)

theorem below_al {w W : World} (h : Below w.heap.size w W) (o : Obj) : Below w.heap.size w (W.alloc o) := h.alloc h.size _

theorem u64_bounds {n : Int} (h : (Lit.int .u64 n).wf = true) : 0 ≤ n ∧ n ≤ 18446744073709551615 := by
  simpa [Lit.wf, IntKind.min, IntKind.max, IntKind.signed, IntKind.bits] using h

theorem getD_lt {l : List Nat} (h : ∀ n ∈ l, n < 256) (k : Nat) : l.getD k 0 < 256 := by
  by_cases hk : k < l.length
  · have := h l[k] (by simp)
    simpa [List.getD, hk] using this
  · simp [List.getD, List.getElem?_eq_none (Nat.le_of_not_lt hk)]

theorem take_lt {l : List Nat} (hl : ∀ n ∈ l, n < 256) (k : Nat) : ∀ n ∈ l.take k, n < 256 := fun n hn => hl n (List.mem_of_mem_take hn)

theorem take_snoc {l : List Nat} {k : Nat} (h : k < l.length) : l.take (k + 1) = l.take k ++ [l.getD k 0] := by
  rw [List.take_add_one]
  simp [h]
end Go.Proofs.YtfmelhcpccghdaaGreat.Pk

/-! pack's PUTTING, WALKED. -/
namespace Go.Proofs.YtfmelhcpccghdaaGreat.Pk
open Go.RowKit

set_option maxRecDepth 100000 in
theorem len64_32 (w : World) : Calls Tryz.prog 84 #[.int .u64 4294967295] w fun e w' => e = .returned (.int .i64 32) ∧ w = w' := by
  go_enter Tryz.func84, Tryz.ntmps84
  go_wp2
  go_ret
  exact ⟨ret_eq (by decide +kernel), rfl⟩

theorem width32 (w : World) : Calls Tryz.prog 74 #[] w fun e w' => e = .returned (.int .i64 4) ∧ w = w' := by
  have hsg : IntKind.u32.signed = false := rfl
  have hx : bits BinOp.xor IntKind.u32 IntKind.u32.max 0 = 4294967295 := by decide +kernel
  go_enter Tryz.func74, Tryz.ntmps74
  go_wp2_with fail
  refine (len64_32 _).mono ?_
  rintro e w1 ⟨rfl, rfl⟩
  go_wp2_with fail
  go_ret
  exact ⟨rfl, rfl⟩

theorem row_cells' {w : World} {a : Option Addr} {l : List Nat} (h : Row w a l) : 0 < (bytesV l).length → ∃ ad, a = some ad ∧ ∀ j v, (bytesV l)[j]? = some v → w.cell? (ad.add j) = some v := by
  intro hp
  rcases h with rfl | ⟨b, off, h1, h2, h3⟩
  · simp [bytesV] at hp
  · exact ⟨_, h1, row_cells (h1 ▸ (.inr ⟨b, off, h1, h2, h3⟩))⟩

theorem made_list (n : Nat) : ∃ Z : List Value, madeCells #[.int .u8 0] n = Z.toArray ∧ Z.length = n :=
  ⟨(madeCells #[.int .u8 0] n).toList, by simp, by simp [size_madeCells]⟩

theorem one_bytes (l : List Nat) : ∀ v ∈ bytesV l, v.oneCell' = true := by
  intro u hu
  unfold bytesV at hu
  obtain ⟨k, _, rfl⟩ := List.mem_map.1 hu
  rfl

/-- what copy(own, b) leaves where own was just made: b's bytes -/
theorem copy_made {w : World} {a : Option Addr} {n cap k : Nat} {C Z : List Value} (hC : C.length = n) (hZ : Z.length = n + k)
    (hcs : 0 < C.length → ∃ ad, a = some ad ∧ ∀ j v, C[j]? = some v → w.cell? (ad.add j) = some v) (hone : ∀ v ∈ C, v.oneCell' = true) :
    ∃ w2, (Builtin.copy_ #[31, 31] 3 #[.slice (some ⟨w.heap.size, 0, none⟩) n (n + k), .slice a n cap]).run Tryz.prog (w.alloc (.cells Z.toArray 5)) = .ok (goInt n) w2 ∧
      w2.heap[w.heap.size]? = some (.cells (splice Z 0 C).toArray 5 (0, 0)) ∧ Below w.heap.size w w2 := by
  obtain ⟨i0, hi, hz0, hz1, hz2⟩ := info_parts info5
  have hsz : (Tryz.prog.info? 5).map (·.size) = some 1 := by rw [hi]; simp [hz1]
  by_cases h0 : n = 0
  · subst h0
    obtain rfl : C = [] := List.eq_nil_of_length_eq_zero hC
    exact ⟨_, run_copy_none (P := Tryz.prog) _ 31 31 3 5 _ _ _ _ _ _ Tryz.underlying31 hsz rfl, by simpa [splice] using heap_alloc_new w (.cells Z.toArray 5), below_alloc _ _⟩
  · obtain ⟨ad, rfl, hc⟩ := hcs (by omega)
    refine ⟨_, ?_, setRow_heap (w.alloc (.cells Z.toArray 5)) w.heap.size Z.toArray _ 5 _ (heap_alloc_new w _), below_setRow (below_alloc _ _) (Nat.le_refl _) _⟩
    have h := run_copy_row (P := Tryz.prog) (w.alloc (.cells Z.toArray 5)) 31 31 3 5 w.heap.size 0 n (n + k) ad n cap Z.toArray 5 C Tryz.underlying31 hsz (heap_alloc_new w _) (by rw [hC]; exact (Nat.min_self n).symm) (fun j v hj => cell_keep (hc j v hj) _) (by simp; omega) hone
    rw [h, hC]
    simp [splice, hC]

theorem withRoom_any (a : Option Addr) (n cap : Nat) (l : List Nat) (r : Nat) (w : World)
    (hn : Hid (n = l.length)) (hrow : Row w a l) (hlen : n ≤ 1000000) (hr : r ≤ 1000000) :
    Calls Tryz.prog 73 #[.slice a n cap, .int .i64 (r : Int)] w fun e w' => e = .returned (.slice (some ⟨w.heap.size, 0, none⟩) n (n + r)) ∧ w'.ownsRow w.heap.size 5 1 (.slice (some ⟨w.heap.size, 0, none⟩) n (n + r)) n (bytesV l) ∧ Below w.heap.size w w' := by
  obtain ⟨i0, hi, hz0, hz1, hz2⟩ := info_parts info5
  have hmk := run_make (P := Tryz.prog) w 31 5 i0 (.int .u8 0) Tryz.underlying31 hi hz0 .i64 .i64 (n : Int) ((n : Int) + (r : Int)) (by omega) (by omega) (by rw [hz2]; omega) (by omega)
  rw [show ((n : Int) + (r : Int)).toNat = n + r from by omega, Int.toNat_natCast, hz1, Nat.mul_one, show (Value.int .u8 0).cells = #[.int .u8 0] from rfl] at hmk
  obtain ⟨Z, hZ, hZl⟩ := made_list (n + r)
  rw [hZ] at hmk
  have hbl : (bytesV l).length = n := by rw [bytesV_length]; exact hn.out.symm
  have hcs := row_cells' hrow
  have hone := one_bytes l
  obtain ⟨w2, hcp, hg2, hb2⟩ := copy_made (cap := cap) hbl hZl hcs hone
  generalize bytesV l = C at *
  have HZ := Lib.hid hZl
  have HC := Lib.hid hbl
  have HG := Lib.hid hg2
  clear hbl hZl hZ hcs hone hg2 hi hz0 hz1 hz2
  go_enter Tryz.func73, Tryz.ntmps73
  go_wp2_with fail
  go_ret
  refine ⟨rfl, ?_, hb2⟩
  have e1 := HC.out
  have e2 := HZ.out
  refine ⟨by omega, .inr ⟨_, _, _, rfl, Nat.le_refl _, HG.out, by omega, by unfold maxLen; omega, ?_, ?_⟩⟩
  · rw [List.size_toArray, length_splice _ _ _ (by omega)]
    omega
  · simp [splice, ← e1]

theorem withRoom_int (a : Option Addr) (n cap : Nat) (l : List Nat) (R : Int) (r : Nat) (w : World) (hR : R = (r : Int))
    (hn : Hid (n = l.length)) (hrow : Row w a l) (hlen : n ≤ 1000000) (hr : r ≤ 1000000) :
    Calls Tryz.prog 73 #[.slice a n cap, .int .i64 R] w fun e w' => e = .returned (.slice (some ⟨w.heap.size, 0, none⟩) n (n + r)) ∧ w'.ownsRow w.heap.size 5 1 (.slice (some ⟨w.heap.size, 0, none⟩) n (n + r)) n (bytesV l) ∧ Below w.heap.size w w' := by
  subst hR
  exact withRoom_any a n cap l r w hn hrow hlen hr

/-- a number's lowest k bytes, the lowest first -/
def le (n k : Nat) : List Nat := (List.range k).map fun i => n / 2 ^ (8 * i) % 256

theorem le_succ (n k : Nat) : le n (k + 1) = le n k ++ [n / 2 ^ (8 * k) % 256] := by simp [le, List.range_succ]
theorem le_length (n k : Nat) : (le n k).length = k := by simp [le]
theorem le_lt (n k : Nat) : ∀ x ∈ le n k, x < 256 := by
  intro x hx
  obtain ⟨i, _, rfl⟩ := List.mem_map.1 hx
  exact Nat.mod_lt _ (by omega)

theorem byte_form (v k : Nat) : #[Value.int IntKind.u8 ((v : Int) / 2 ^ (8 * k) % 256)] = (([v / 2 ^ (8 * k) % 256] : List Nat).map fun (n : Nat) => Value.int .u8 (n : Int)).toArray := by
  simp

/-- the end of a call that hands back a row of its own -/
def Owned (base : Nat) (xs : List Nat) (w : World) (e : Ending) (w' : World) : Prop :=
  ∃ a' n' c', e = .returned (.slice a' n' c') ∧ w'.ownsRow base 5 1 (.slice a' n' c') n' (bytesV xs) ∧ Below base w w'

theorem put32_any (base : Nat) (a : Option Addr) (n c : Nat) (xs : List Nat) (v : Nat) (w : World) (_hv : v < 4294967296) (hown : w.ownsRow base 5 1 (.slice a n c) n (bytesV xs)) (hn : n ≤ 100000000) (hbase : base ≤ w.heap.size) :
    Calls Tryz.prog 72 #[.slice a n c, .int .u32 (v : Int)] w fun e w' => Owned base (xs ++ le v 4) w e w' := by
  have hm : xs.length = n := by have := hown.1; rw [bytesV_length] at this; omega
  have Hm := Lib.hid hm
  clear hm
  go_enter Tryz.func72, Tryz.ntmps72
  go_wp2_with fail
  refine (width32 _).mono ?_
  rintro e w1 ⟨rfl, rfl⟩
  go_wp2_with fail
  go_loopw [0, 7] (fun s i wr => ∃ k : Nat, k ≤ 4 ∧ i = .int .i64 k ∧ ∃ a' n' c', s = .slice a' n' c' ∧ wr.ownsRow base 5 1 (.slice a' n' c') n' (bytesV (xs ++ le v k)) ∧ n' ≤ n + k ∧ Below base w wr) (fun _ i _ => 4 - (intOf i).toNat)
  case atStart => exact ⟨0, by omega, rfl, a, n, c, rfl, by simpa [le] using hown, by omega, Below.refl _ _⟩
  case round =>
    obtain ⟨k, hk, rfl, a', n', c', rfl, hown', hle, hnx⟩ := hrel
    have hsz := hnx.size
    by_cases hlt : k < 4
    · have hsc := le_succ v k
      have HS := Lib.hid hsc
      clear hsc
      go_wp2_with (at_builtin; refine wpList_append_bytes rfl (.tmp 10) (.tmp 16) rfl base (.slice a' n' c') n' (xs ++ le v k) rfl (hown'.alloc _) (some ⟨wr.heap.size, 0, none⟩) 1 1 [v / 2 ^ (8 * k) % 256] rfl rfl (by simp) (row_list _ _ _ _ _ (byte_form v k)) (xs ++ le v k ++ [v / 2 ^ (8 * k) % 256]) rfl (by omega) (by simp; omega) ?_; intro a2 n2 c2 w2 hown2 Hn2 hle2 _ _ hb2)
      go_roundw
      case rel => exact ⟨k + 1, by omega, by go_num, a2, n2, c2, rfl, by rw [HS.out, ← List.append_assoc]; exact hown2, by omega, (hnx.alloc (by omega) _).trans hb2⟩
      case measure => simp [intOf]; omega
    · obtain rfl : k = 4 := by omega
      go_wp2_with fail
      go_ret
      exact ⟨a', n', c', rfl, hown', hnx⟩

theorem owns_mono {w : World} {b b' : Nat} {v : Value} {n : Nat} {xs : List Value} (h : w.ownsRow b 5 1 v n xs) (hb : b' ≤ b) : w.ownsRow b' 5 1 v n xs := by
  refine ⟨h.1, ?_⟩
  rcases h.2 with h | ⟨g, cap, cur, h1, h2, h3⟩
  · exact .inl h
  · exact .inr ⟨g, cap, cur, h1, by omega, h3⟩

theorem u32_any (a : Option Addr) (n c : Nat) (l : List Nat) (v : Nat) (w : World) (hv : v < 4294967296)
    (hn : Hid (n = l.length)) (hrow : Row w a l) (hlen : n ≤ 1000000) :
    Calls Tryz.prog 52 #[.slice a n c, .int .u32 (v : Int)] w fun e w' => Owned w.heap.size (l ++ le v 4) w e w' := by
  go_enter Tryz.func52, Tryz.ntmps52
  go_wp2_with fail
  refine (width32 _).mono ?_
  rintro e w1 ⟨rfl, rfl⟩
  go_wp2_with fail
  refine (withRoom_any a n c l 4 w hn hrow hlen (by omega)).mono ?_
  rintro e w1 ⟨rfl, hown, hb1⟩
  go_wp2_with fail
  refine (put32_any w.heap.size _ _ _ l v w1 hv hown (by omega) hb1.size).mono ?_
  rintro e w2 ⟨a', n', c', rfl, hown2, hb2⟩
  go_wp2_with fail
  go_ret
  exact ⟨a', n', c', rfl, hown2, hb1.trans hb2⟩

end Go.Proofs.YtfmelhcpccghdaaGreat.Pk

/-! pack's READER, WALKED. -/
namespace Go.Proofs.YtfmelhcpccghdaaGreat.Pk
open Go.RowKit

/-- a slice's value whose cells lie in block g -/
def RowG (w : World) (g : Nat) (v : Value) (l : List Nat) : Prop :=
  (v = .slice none 0 0 ∧ l = []) ∨
  ∃ off c, v = .slice (some ⟨g, off, none⟩) l.length c ∧ l.length ≤ c ∧ ∀ i, i < l.length → w.cell? ⟨g, off + i, none⟩ = some (.int .u8 ((l.getD i 0 : Nat) : Int))

/-- a reader at block p, its bytes in block g -/
structure Rd (w : World) (p g : Nat) (l : List Nat) (bad : Bool) : Prop where
  ne : g ≠ p
  lt : g < w.heap.size
  cells : ∃ v, w.heap[p]? = some (.cells #[v, .bool bad] 116 (0, 0)) ∧ RowG w g v l

/-- nothing that was there has turned but block p -/
structure Only (p : Nat) (w w' : World) : Prop where
  os : w'.os = w.os
  tape : w'.tape = w.tape
  output : w'.output = w.output
  size : w.heap.size ≤ w'.heap.size
  block : ∀ k, k < w.heap.size → k ≠ p → w'.heap[k]? = w.heap[k]?

theorem Only.below {p B : Nat} {w w' : World} (h : Only p w w') (hB : B ≤ p) (hs : B ≤ w.heap.size) : Below B w w' :=
  ⟨h.os, h.tape, h.output, h.size, fun k hk => h.block k (by omega) (by omega)⟩

theorem Only.refl (p : Nat) (w : World) : Only p w w := ⟨rfl, rfl, rfl, Nat.le_refl _, fun _ _ _ => rfl⟩

theorem Only.trans {p : Nat} {a b c : World} (h : Only p a b) (k : Only p b c) : Only p a c :=
  ⟨k.os.trans h.os, k.tape.trans h.tape, k.output.trans h.output, Nat.le_trans h.size k.size, fun i hi hne => (k.block i (Nat.lt_of_lt_of_le hi h.size) hne).trans (h.block i hi hne)⟩

theorem cell_two {w : World} {p : Nat} {u v : Value} {t : TypeId} (h : w.heap[p]? = some (.cells #[u, v] t (0, 0))) :
    w.cell? ⟨p, 0, none⟩ = some u ∧ w.cell? ⟨p, 1, none⟩ = some v ∧ w.frozen? ⟨p, 0, none⟩ = false ∧ w.frozen? ⟨p, 1, none⟩ = false := by
  simp [World.cell?, World.frozen?, h]

theorem set_block {w : World} {p j : Nat} {C : Array Value} {u : Value} {t : TypeId} (h : w.heap[p]? = some (.cells C t (0, 0))) :
    (w.setCell ⟨p, j, none⟩ u).heap[p]? = some (.cells (C.setIfInBounds j u) t (0, 0)) := by
  have hlt := lt_of_block h
  have h' : w.heap[p] = .cells C t (0, 0) := by simpa [Array.getElem?_eq_getElem hlt] using h
  show (w.heap.modify p _)[p]? = _
  rw [Array.getElem?_eq_getElem (by simpa using hlt), Array.getElem_modify_self, h']
  rfl

theorem Only.setCell {p : Nat} {a w : World} (h : Only p a w) (j : Nat) (u : Value) : Only p a (w.setCell ⟨p, j, none⟩ u) :=
  h.trans ⟨rfl, rfl, rfl, by simp [World.setCell], fun k _ hne => Below.heap_setCell _ _ _ _ hne⟩

theorem Only.cell {p : Nat} {w w' : World} (h : Only p w w') {q : Addr} (h1 : q.block ≠ p) (h2 : q.block < w.heap.size) : w'.cell? q = w.cell? q := by
  unfold World.cell?
  rw [h.block _ h2 h1]

theorem RowG.only {p g : Nat} {w w' : World} {v : Value} {l : List Nat} (h : RowG w g v l) (ho : Only p w w') (h1 : g ≠ p) (h2 : g < w.heap.size) : RowG w' g v l := by
  rcases h with h | ⟨off, c, e, hc, hcell⟩
  · exact .inl h
  · exact .inr ⟨off, c, e, hc, fun i hi => by rw [ho.cell (q := ⟨g, off + i, none⟩) h1 h2]; exact hcell i hi⟩

theorem RowG.take {w : World} {g off c : Nat} {l : List Nat} (hcell : ∀ i, i < l.length → w.cell? ⟨g, off + i, none⟩ = some (.int .u8 ((l.getD i 0 : Nat) : Int))) (k : Nat) (hk : k ≤ l.length) (hc : l.length ≤ c) :
    RowG w g (.slice (some ⟨g, off, none⟩) k c) (l.take k) := by
  refine .inr ⟨off, c, by rw [List.length_take, Nat.min_eq_left hk], by rw [List.length_take]; omega, fun i hi => ?_⟩
  have hi2 : i < k ∧ i < l.length := by simp at hi; omega
  rw [hcell i hi2.2]
  simp [List.getD, hi2.1]

theorem new_any (a : Option Addr) (n c : Nat) (l : List Nat) (w : World) (hn : Hid (n = l.length)) (hrow : Row w a l) (hlen : n ≤ 1000000) :
    Calls Tryz.prog 69 #[.slice a n c] w fun e w' => ∃ p, w.heap.size < p ∧ e = .returned (.pointer (some ⟨p, 0, none⟩)) ∧ Rd w' p w.heap.size l false ∧ Below w.heap.size w w' := by
  go_enter Tryz.func69, Tryz.ntmps69
  go_wp2_with fail
  refine (withRoom_int a n c l _ 0 w rfl hn hrow hlen (by omega)).mono ?_
  rintro e w1 ⟨rfl, hown, hb⟩
  go_wp2_with fail
  go_ret
  have hlt := (hown.lt w.heap.size rfl).2
  refine ⟨w1.heap.size, hlt, rfl, ⟨by omega, by simp; omega, _, heap_alloc_new w1 _, .inr ⟨0, n, by rw [hn.out], by rw [hn.out]; exact Nat.le_refl _, fun i hi => ?_⟩⟩, hb.alloc hb.size _⟩
  have h2 := hown.cellAt i (by rw [hn.out]; omega)
  rw [Nat.zero_add]
  refine cell_keep (h2.trans ?_) _
  simp [bytesV, hi]

theorem next_nil (m : Int) (w : World) : Calls Tryz.prog 94 #[.pointer none, .int .i64 m] w fun e w' => e = .returned (.slice none 0 0) ∧ w = w' := by
  go_enter Tryz.func94, Tryz.ntmps94
  go_wp2_with fail
  go_ret
  exact ⟨rfl, rfl⟩

theorem next_end {w : World} {p g : Nat} {v : Value} {bad : Bool} (hne : g ≠ p) (hlt : g < w.heap.size) (hp : w.heap[p]? = some (.cells #[v, .bool bad] 116 (0, 0))) :
    Rd ((w.setCell ⟨p, 0, none⟩ (.slice none 0 0)).setCell ⟨p, 1, none⟩ (.bool true)) p g [] true ∧ Only p w ((w.setCell ⟨p, 0, none⟩ (.slice none 0 0)).setCell ⟨p, 1, none⟩ (.bool true)) :=
  ⟨⟨hne, by simp [World.setCell]; exact hlt, _, set_block (set_block hp), .inl ⟨rfl, rfl⟩⟩, ((Only.refl p w).setCell _ _).setCell _ _⟩

theorem next_short (p g : Nat) (l : List Nat) (bad : Bool) (m : Nat) (w : World) (h : Rd w p g l bad) (hm : l.length < m) :
    Calls Tryz.prog 94 #[.pointer (some ⟨p, 0, none⟩), .int .i64 (m : Int)] w fun e w' => e = .returned (.slice none 0 0) ∧ Rd w' p g [] true ∧ Only p w w' := by
  obtain ⟨hne, hlt, v, hp, hv⟩ := h
  obtain ⟨c0, c1, f0, f1⟩ := cell_two hp
  have HP := Lib.hid hp
  clear hp
  rcases hv with ⟨rfl, rfl⟩ | ⟨off, c, rfl, hc, hcell⟩
  · have hm' : (0 : Int) < (m : Int) := by simpa using hm
    go_enter Tryz.func94, Tryz.ntmps94
    go_wp2_with fail
    go_ret
    exact ⟨rfl, next_end hne hlt HP.out⟩
  · have hm' : (l.length : Int) < (m : Int) := by omega
    clear hcell
    go_enter Tryz.func94, Tryz.ntmps94
    go_wp2_with fail
    go_ret
    exact ⟨rfl, next_end hne hlt HP.out⟩

theorem next_fin {w : World} {p g off off' c c' m n' : Nat} {l : List Nat} {v : Value} {bad : Bool} (hne : g ≠ p) (hlt : g < w.heap.size) (hp : w.heap[p]? = some (.cells #[v, .bool bad] 116 (0, 0)))
    (hcell : ∀ i, i < l.length → w.cell? ⟨g, off + i, none⟩ = some (.int .u8 ((l.getD i 0 : Nat) : Int))) (hm : m ≤ l.length) (hc : l.length ≤ c) (hoff : l.length - m = 0 ∨ off' = off + m) (hc' : l.length - m ≤ c') (hn' : n' = l.length - m) :
    RowG (w.setCell ⟨p, 0, none⟩ (.slice (some ⟨g, off', none⟩) n' c')) g (.slice (some ⟨g, off, none⟩) m c) (l.take m) ∧
      Rd (w.setCell ⟨p, 0, none⟩ (.slice (some ⟨g, off', none⟩) n' c')) p g (l.drop m) bad ∧ Only p w (w.setCell ⟨p, 0, none⟩ (.slice (some ⟨g, off', none⟩) n' c')) := by
  subst hn'
  have ho := (Only.refl p w).setCell 0 (.slice (some ⟨g, off', none⟩) (l.length - m) c')
  refine ⟨(RowG.take hcell m hm hc).only ho hne hlt, ⟨hne, by simp [World.setCell]; exact hlt, _, set_block hp, ?_⟩, ho⟩
  refine .inr ⟨off', c', by simp, by rw [List.length_drop]; exact hc', fun i hi => ?_⟩
  have hi2 : i < l.length - m := by simpa using hi
  obtain rfl : off' = off + m := by omega
  rw [ho.cell (q := ⟨g, off + m + i, none⟩) hne hlt, Nat.add_assoc, hcell (m + i) (by omega)]
  simp [List.getD]

theorem next_ok (p g : Nat) (l : List Nat) (bad : Bool) (m : Nat) (w : World) (h : Rd w p g l bad) (hm : m ≤ l.length) (hl : l.length ≤ 1000000) :
    Calls Tryz.prog 94 #[.pointer (some ⟨p, 0, none⟩), .int .i64 (m : Int)] w fun e w' => ∃ v, e = .returned v ∧ RowG w' g v (l.take m) ∧ Rd w' p g (l.drop m) bad ∧ Only p w w' := by
  obtain ⟨hne, hlt, v, hp, hv⟩ := h
  obtain ⟨c0, c1, f0, f1⟩ := cell_two hp
  have HP := Lib.hid hp
  clear hp
  rcases hv with ⟨rfl, rfl⟩ | ⟨off, c, rfl, hc, hcell⟩
  · obtain rfl : m = 0 := by simpa using hm
    go_enter Tryz.func94, Tryz.ntmps94
    go_wp2_with fail
    go_ret
    exact ⟨_, rfl, .inl ⟨rfl, by simp⟩, ⟨hne, by simp [World.setCell]; exact hlt, _, set_block HP.out, .inl ⟨rfl, by simp⟩⟩, (Only.refl p w).setCell _ _⟩
  · have HC := Lib.hid hcell
    clear hcell
    have hm' : ¬ (l.length : Int) < (m : Int) := by omega
    by_cases hmc : m = c
    · subst hmc
      go_enter Tryz.func94, Tryz.ntmps94
      go_wp2_with fail
      go_ret
      exact ⟨_, rfl, next_fin hne hlt HP.out HC.out hm hc (by omega) (by omega) (by omega)⟩
    · have hmc' : m < c := by omega
      clear hmc
      go_enter Tryz.func94, Tryz.ntmps94
      go_wp2_with fail
      go_ret
      exact ⟨_, rfl, next_fin hne hlt HP.out HC.out hm hc (by omega) (by omega) (by omega)⟩

/-- the number of bytes, the lowest first -/
def num : List Nat → Nat
  | [] => 0
  | x :: l => x + 256 * num l

theorem num_lt : ∀ (l : List Nat), (∀ n ∈ l, n < 256) → num l < 2 ^ (8 * l.length)
  | [], _ => by simp [num]
  | x :: l, h => by
    have h1 := num_lt l (fun n hn => h n (by simp [hn]))
    have h2 := h x (by simp)
    simp only [num, List.length_cons]
    rw [show 8 * (l.length + 1) = 8 * l.length + 8 from by omega, Nat.pow_add]
    omega

theorem num_snoc (l : List Nat) (x : Nat) : num (l ++ [x]) = num l + x * 2 ^ (8 * l.length) := by
  induction l with
  | nil => simp [num]
  | cons y l ih =>
    simp only [List.cons_append, num, ih, List.length_cons]
    rw [show 8 * (l.length + 1) = 8 * l.length + 8 from by omega, Nat.pow_add, Nat.mul_add]
    rw [← Nat.mul_assoc x, Nat.mul_comm 256 (x * _)]
    omega

theorem or_snoc (l : List Nat) (x : Nat) (hl : ∀ n ∈ l, n < 256) : num l ||| x * 2 ^ (8 * l.length) = num (l ++ [x]) := by
  rw [num_snoc, Nat.or_comm, nat_join (8 * l.length) _ _ (Nat.mul_mod_left _ _) (num_lt l hl), Nat.add_comm]

theorem or_room {n x k W : Nat} (hn : n < 2 ^ (8 * k)) (hx : x < 256) (hk : 8 * k + 8 ≤ W) : n < 2 ^ W ∧ x * 2 ^ (8 * k) < 2 ^ W := by
  have h1 : 2 ^ (8 * k + 8) ≤ 2 ^ W := Nat.pow_le_pow_right (by omega) hk
  rw [Nat.pow_add] at h1
  have h2 : x * 2 ^ (8 * k) < 256 * 2 ^ (8 * k) := (Nat.mul_lt_mul_right (Nat.two_pow_pos _)).2 hx
  omega

theorem or_walk_u32 {n x k : Nat} (hn : n < 2 ^ (8 * k)) (hx : x < 256) (hk : k < 4) : bits BinOp.or IntKind.u32 (n : Int) ((x : Int) * 2 ^ (8 * k) % 4294967296) = ((n ||| x * 2 ^ (8 * k) : Nat) : Int) := by
  obtain ⟨h1, h2⟩ := or_room hn hx (show 8 * k + 8 ≤ 32 by omega)
  have e : (x : Int) * 2 ^ (8 * k) % 4294967296 = ((x * 2 ^ (8 * k) : Nat) : Int) := by
    have : ((x * 2 ^ (8 * k) : Nat) : Int) = (x : Int) * 2 ^ (8 * k) := by push_cast; rfl
    rw [← this]
    generalize x * 2 ^ (8 * k) = q at *
    omega
  rw [e, u32_or_nat n _ (by omega) (by omega)]

theorem take_succ {t : List Nat} {k : Nat} (h : k < t.length) : t.take (k + 1) = t.take k ++ [t.getD k 0] := take_snoc h

theorem take32_short (p g : Nat) (l : List Nat) (bad : Bool) (w : World) (h : Rd w p g l bad) (hm : l.length < 4) :
    Calls Tryz.prog 83 #[.pointer (some ⟨p, 0, none⟩)] w fun e w' => e = .returned (.int .u32 0) ∧ Rd w' p g [] true ∧ Only p w w' := by
  go_enter Tryz.func83, Tryz.ntmps83
  go_wp2_with fail
  refine (width32 _).mono ?_
  rintro e w1 ⟨rfl, rfl⟩
  go_wp2_with fail
  refine (next_short p g l bad 4 w h hm).mono ?_
  rintro e w1 ⟨rfl, hr, ho⟩
  go_wp2_with fail
  refine wp_loop_rounds 1 ?_
  rw [rounds_succ]
  go_wp2_with fail
  go_ret
  exact ⟨rfl, hr, ho⟩

theorem take32_nil (w : World) :
    Calls Tryz.prog 83 #[.pointer none] w fun e w' => e = .returned (.int .u32 0) ∧ w = w' := by
  go_enter Tryz.func83, Tryz.ntmps83
  go_wp2_with fail
  refine (width32 _).mono ?_
  rintro e w1 ⟨rfl, rfl⟩
  go_wp2_with fail
  refine (next_nil 4 w).mono ?_
  rintro e w1 ⟨rfl, rfl⟩
  go_wp2_with fail
  refine wp_loop_rounds 1 ?_
  rw [rounds_succ]
  go_wp2_with fail
  go_ret
  exact ⟨rfl, rfl⟩

theorem take32_ok (p g : Nat) (l : List Nat) (bad : Bool) (w : World) (h : Rd w p g l bad) (hm : 4 ≤ l.length) (hl : l.length ≤ 1000000) (hb : ∀ n ∈ l, n < 256) :
    Calls Tryz.prog 83 #[.pointer (some ⟨p, 0, none⟩)] w fun e w' => e = .returned (.int .u32 (num (l.take 4) : Int)) ∧ Rd w' p g (l.drop 4) bad ∧ Only p w w' := by
  go_enter Tryz.func83, Tryz.ntmps83
  go_wp2_with fail
  refine (width32 _).mono ?_
  rintro e w1 ⟨rfl, rfl⟩
  go_wp2_with fail
  refine (next_ok p g l bad 4 w h hm hl).mono ?_
  rintro e w1 ⟨v, rfl, hv, hr, ho⟩
  have hlen : (l.take 4).length = 4 := by simp; omega
  have hbt := take_lt hb 4
  generalize ht : l.take 4 = t at *
  have HT := Lib.hid ht
  clear ht
  rcases hv with ⟨rfl, rfl⟩ | ⟨off, c, rfl, hc, hcell⟩
  · simp at hlen
  · have HC := Lib.hid hcell
    clear hcell
    rw [hlen] at hc
    rw [hlen]
    have HL := Lib.hid hlen
    clear hlen
    go_wp2_with fail
    go_loop [3, 11] (fun v i => ∃ k : Nat, k ≤ 4 ∧ i = .int .i64 k ∧ v = .int .u32 ((num (t.take k) : Nat) : Int)) (fun _ i => 4 - (intOf i).toNat)
    case atStart => exact ⟨0, by omega, rfl, rfl⟩
    case round =>
      obtain ⟨k, hk, rfl, rfl⟩ := hrel
      by_cases hlt : k < 4
      · have hkl : k < t.length := by rw [HL.out]; exact hlt
        have hcell := HC.out k hkl
        have hx := getD_lt hbt k
        have hor := or_snoc (t.take k) (t.getD k 0) (take_lt hbt k)
        rw [← take_succ hkl, List.length_take, Nat.min_eq_left (by omega)] at hor
        have hn := num_lt (t.take k) (take_lt hbt k)
        rw [List.length_take, Nat.min_eq_left (by omega)] at hn
        generalize num (t.take k) = n at *
        generalize t.getD k 0 = x at *
        have HO := Lib.hid hor
        have HN := Lib.hid hn
        clear hor hn
        go_wp2_with fail
        go_round
        case rel => exact ⟨k + 1, by omega, by go_num, val_eq (by rw [or_walk_u32 HN.out hx (by omega), HO.out])⟩
        case measure => simp [intOf]; omega
      · obtain rfl : k = 4 := by omega
        rw [List.take_of_length_le (by rw [HL.out]; exact Nat.le_refl _)]
        go_wp2_with fail
        go_ret
        exact ⟨ret_eq (by rw [HT.out]), hr, ho⟩

end Go.Proofs.YtfmelhcpccghdaaGreat.Pk

/-! pack's READER's METHODS, WALKED. -/
namespace Go.Proofs.YtfmelhcpccghdaaGreat.Pk
open Go.RowKit

/-- what a number of k bytes is read as, what is left, and whether there was not enough -/
def rdN (k : Nat) (l : List Nat) : Nat := if k ≤ l.length then num (l.take k) else 0
def rdL (k : Nat) (l : List Nat) : List Nat := if k ≤ l.length then l.drop k else []
def rdB (k : Nat) (l : List Nat) (bad : Bool) : Bool := if k ≤ l.length then bad else true

theorem rdN_lt (k : Nat) {l : List Nat} (hb : ∀ n ∈ l, n < 256) : rdN k l < 2 ^ (8 * k) := by
  unfold rdN
  split
  · have := num_lt (l.take k) (take_lt hb k)
    rwa [List.length_take, Nat.min_eq_left (by assumption)] at this
  · exact Nat.two_pow_pos _

theorem drop_lt {l : List Nat} (hl : ∀ n ∈ l, n < 256) (k : Nat) : ∀ n ∈ l.drop k, n < 256 := fun n hn => hl n (List.mem_of_mem_drop hn)

theorem rdL_lt (k : Nat) {l : List Nat} (hb : ∀ n ∈ l, n < 256) : ∀ n ∈ rdL k l, n < 256 := by
  unfold rdL
  split
  · exact drop_lt hb k
  · simp

theorem rdL_le (k : Nat) (l : List Nat) : (rdL k l).length ≤ l.length := by
  unfold rdL
  split <;> simp

/-- the bytes that come next, and what is left -/
def nx (k : Nat) (l : List Nat) : List Nat := if k ≤ l.length then l.take k else []

theorem nx_lt (k : Nat) {l : List Nat} (hb : ∀ n ∈ l, n < 256) : ∀ n ∈ nx k l, n < 256 := by
  unfold nx
  split
  · exact take_lt hb k
  · simp

theorem u32r_any (p g : Nat) (l : List Nat) (bad : Bool) (w : World) (h : Rd w p g l bad) (hl : l.length ≤ 1000000) (hb : ∀ n ∈ l, n < 256) :
    Calls Tryz.prog 70 #[.pointer (some ⟨p, 0, none⟩)] w fun e w' => e = .returned (.int .u32 (rdN 4 l : Int)) ∧ Rd w' p g (rdL 4 l) (rdB 4 l bad) ∧ Only p w w' := by
  by_cases hm : 4 ≤ l.length
  · have e1 : rdN 4 l = num (l.take 4) := if_pos hm
    have e2 : rdL 4 l = l.drop 4 := if_pos hm
    have e3 : rdB 4 l bad = bad := if_pos hm
    rw [e1, e2, e3]
    clear e1 e2 e3
    go_enter Tryz.func70, Tryz.ntmps70
    go_wp2_with fail
    refine (take32_ok p g l bad w h hm hl hb).mono ?_
    rintro e w1 ⟨rfl, hr, ho⟩
    go_wp2_with fail
    go_ret
    exact ⟨rfl, hr, ho⟩
  · have e1 : rdN 4 l = 0 := if_neg hm
    have e2 : rdL 4 l = [] := if_neg hm
    have e3 : rdB 4 l bad = true := if_neg hm
    rw [e1, e2, e3]
    clear e1 e2 e3
    go_enter Tryz.func70, Tryz.ntmps70
    go_wp2_with fail
    refine (take32_short p g l bad w h (by omega)).mono ?_
    rintro e w1 ⟨rfl, hr, ho⟩
    go_wp2_with fail
    go_ret
    exact ⟨rfl, hr, ho⟩

end Go.Proofs.YtfmelhcpccghdaaGreat.Pk
