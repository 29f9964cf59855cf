/-
  THE YtdijpoemimebmaaS OF A MAP, SORTED (slices.Sorted of maps.Keys): the kit's contracts at this dump; a map of texts to numbers.
-/
import Derived.Shelf.SlIter.Nil
import Derived.Shelf.SortM.Plain
import Derived.Shelf.SortM.SortNone
import Derived.StringKeys
import Derived.Maps.OwnSet
import Derived.Maps.RangeWalk
import Derived.Test.YtdijpoemimebmaaFdOwn
namespace Go.Proofs.Ytdijpoemimebmaa.Rn
open Go.RowKit Go.Maps Go.Sort Go.Shelf
def shkeys53ren : Go.Shelf.Ren := ⟨fun | 7 => 53 | 10 => 73 | n => n, fun | 23 => 87 | 26 => 9 | 3 => 3 | 28 => 91 | 0 => 0 | 27 => 90 | 33 => 107 | 4 => 4 | n => n, fun | n => n⟩
theorem shkeys53 : Go.Proofs.SlLaysZ.n7 Try.prog shkeys53ren := {
  mixed := by kernel_rfl
  f7 := ⟨Try.f53.name, by decide, Try.func53.trans (congrArg some (by kernel_rfl))⟩
  f10 := ⟨Try.f73.name, by decide, Try.func73.trans (congrArg some (by kernel_rfl))⟩
  t0 := Try.underlying0
  a0 := Try.isAgg0
  z0 := Try.sizeOf0
  v0 := Try.zeroValue0
  t4 := Try.underlying4
  a4 := Try.isAgg4
  z4 := Try.sizeOf4
  v4 := Try.zeroValue4
  t23 := Try.underlying87
  a23 := Try.isAgg87
  z23 := Try.sizeOf87
  v23 := Try.zeroValue87
  t26 := Try.underlying9
  a26 := Try.isAgg9
  z26 := Try.sizeOf9
  v26 := Try.zeroValue9
  t27 := Try.underlying90
  a27 := Try.isAgg90
  z27 := Try.sizeOf90
  v27 := Try.zeroValue90
  t28 := Try.underlying91
  a28 := Try.isAgg91
  z28 := Try.sizeOf91
  v28 := Try.zeroValue91
  t33 := Try.underlying107
  a33 := Try.isAgg107
  z33 := Try.sizeOf107
  v33 := Try.zeroValue107 }
def shsorted52ren : Go.Shelf.Ren := ⟨fun | 6 => 52 | 8 => 71 | 9 => 72 | 11 => 80 | 13 => 82 | 12 => 81 | 23 => 94 | 24 => 77 | 14 => 85 | 15 => 86 | 16 => 87 | 17 => 88 | 18 => 89 | 19 => 90 | 20 => 91 | 21 => 92 | 22 => 93 | 25 => 95 | 26 => 96 | 27 => 97 | 28 => 98 | 29 => 99 | 30 => 100 | 31 => 101 | n => n, fun | 26 => 9 | 28 => 91 | 24 => 88 | 0 => 0 | 3 => 3 | 37 => 118 | 48 => 71 | 50 => 66 | 4 => 4 | 40 => 121 | 39 => 120 | 45 => 126 | 5 => 5 | 9 => 9 | 51 => 130 | 55 => 133 | 57 => 135 | 58 => 136 | 33 => 107 | n => n, fun | n => n⟩
theorem shsorted52 : Go.Proofs.SlLaysZ.n6 Try.prog shsorted52ren := {
  mixed := by kernel_rfl
  f6 := ⟨Try.f52.name, by decide, Try.func52.trans (congrArg some (by kernel_rfl))⟩
  f8 := ⟨Try.f71.name, by decide, Try.func71.trans (congrArg some (by kernel_rfl))⟩
  f11 := ⟨Try.f80.name, by decide, Try.func80.trans (congrArg some (by kernel_rfl))⟩
  t0 := Try.underlying0
  a0 := Try.isAgg0
  z0 := Try.sizeOf0
  v0 := Try.zeroValue0
  t24 := Try.underlying88
  a24 := Try.isAgg88
  z24 := Try.sizeOf88
  v24 := Try.zeroValue88
  t26 := Try.underlying9
  a26 := Try.isAgg9
  z26 := Try.sizeOf9
  v26 := Try.zeroValue9
  t28 := Try.underlying91
  a28 := Try.isAgg91
  z28 := Try.sizeOf91
  v28 := Try.zeroValue91
  i26 := by kernel_rfl }
def shsort72ren : Go.Shelf.Ren := ⟨fun | 6 => 72 | 8 => 82 | 9 => 81 | 19 => 94 | 20 => 77 | 21 => 85 | 22 => 86 | 23 => 87 | 24 => 88 | 25 => 89 | 26 => 90 | 27 => 91 | 28 => 92 | 29 => 93 | 36 => 95 | 31 => 96 | 32 => 97 | 37 => 98 | 38 => 99 | 39 => 100 | 41 => 101 | n => n, fun | 27 => 88 | 29 => 9 | 3 => 3 | 32 => 118 | 26 => 88 | 0 => 0 | 44 => 71 | 46 => 66 | 4 => 4 | 36 => 121 | 35 => 120 | 41 => 126 | 5 => 5 | 9 => 9 | 53 => 130 | 57 => 133 | 63 => 135 | 64 => 136 | n => n, fun | n => n⟩
theorem shsort72 : Go.Proofs.SlLaysM.n6 Try.prog shsort72ren := {
  mixed := by kernel_rfl
  f6 := ⟨Try.f72.name, by decide, Try.func72.trans (congrArg some (by kernel_rfl))⟩
  f8 := Try.func82.trans (congrArg some (by kernel_rfl))
  f9 := ⟨Try.f81.name, by decide, Try.func81.trans (congrArg some (by kernel_rfl))⟩
  f19 := Try.func94.trans (congrArg some (by kernel_rfl))
  f20 := Try.func77.trans (congrArg some (by kernel_rfl))
  f21 := ⟨Try.f85.name, by decide, Try.func85.trans (congrArg some (by kernel_rfl))⟩
  f22 := ⟨Try.f86.name, by decide, Try.func86.trans (congrArg some (by kernel_rfl))⟩
  f23 := ⟨Try.f87.name, by decide, Try.func87.trans (congrArg some (by kernel_rfl))⟩
  f24 := ⟨Try.f88.name, by decide, Try.func88.trans (congrArg some (by kernel_rfl))⟩
  f25 := ⟨Try.f89.name, by decide, Try.func89.trans (congrArg some (by kernel_rfl))⟩
  f26 := ⟨Try.f90.name, by decide, Try.func90.trans (congrArg some (by kernel_rfl))⟩
  f27 := ⟨Try.f91.name, by decide, Try.func91.trans (congrArg some (by kernel_rfl))⟩
  f28 := ⟨Try.f92.name, by decide, Try.func92.trans (congrArg some (by kernel_rfl))⟩
  f29 := ⟨Try.f93.name, by decide, Try.func93.trans (congrArg some (by kernel_rfl))⟩
  f31 := Try.func96.trans (congrArg some (by kernel_rfl))
  f32 := Try.func97.trans (congrArg some (by kernel_rfl))
  f36 := ⟨Try.f95.name, by decide, Try.func95.trans (congrArg some (by kernel_rfl))⟩
  f37 := ⟨Try.f98.name, by decide, Try.func98.trans (congrArg some (by kernel_rfl))⟩
  f38 := ⟨Try.f99.name, by decide, Try.func99.trans (congrArg some (by kernel_rfl))⟩
  f39 := ⟨Try.f100.name, by decide, Try.func100.trans (congrArg some (by kernel_rfl))⟩
  f41 := ⟨Try.f101.name, by decide, Try.func101.trans (congrArg some (by kernel_rfl))⟩
  t0 := Try.underlying0
  a0 := Try.isAgg0
  z0 := Try.sizeOf0
  v0 := Try.zeroValue0
  t3 := Try.underlying3
  a3 := Try.isAgg3
  z3 := Try.sizeOf3
  v3 := Try.zeroValue3
  t4 := Try.underlying4
  a4 := Try.isAgg4
  z4 := Try.sizeOf4
  v4 := Try.zeroValue4
  t5 := Try.underlying5
  a5 := Try.isAgg5
  z5 := Try.sizeOf5
  v5 := Try.zeroValue5
  t9 := Try.underlying9
  a9 := Try.isAgg9
  z9 := Try.sizeOf9
  v9 := Try.zeroValue9
  t26 := Try.underlying88
  a26 := Try.isAgg88
  z26 := Try.sizeOf88
  v26 := Try.zeroValue88
  t27 := Try.underlying88
  a27 := Try.isAgg88
  z27 := Try.sizeOf88
  v27 := Try.zeroValue88
  t29 := Try.underlying9
  a29 := Try.isAgg9
  z29 := Try.sizeOf9
  v29 := Try.zeroValue9
  t32 := Try.underlying118
  a32 := Try.isAgg118
  z32 := Try.sizeOf118
  v32 := Try.zeroValue118
  t35 := Try.underlying120
  a35 := Try.isAgg120
  z35 := Try.sizeOf120
  v35 := Try.zeroValue120
  t36 := Try.underlying121
  a36 := Try.isAgg121
  z36 := Try.sizeOf121
  v36 := Try.zeroValue121
  t41 := Try.underlying126
  a41 := Try.isAgg126
  z41 := Try.sizeOf126
  v41 := Try.zeroValue126
  t44 := Try.underlying71
  a44 := Try.isAgg71
  z44 := Try.sizeOf71
  v44 := Try.zeroValue71
  t46 := Try.underlying66
  a46 := Try.isAgg66
  z46 := Try.sizeOf66
  v46 := Try.zeroValue66
  t53 := Try.underlying130
  a53 := Try.isAgg130
  z53 := Try.sizeOf130
  v53 := Try.zeroValue130
  t57 := Try.underlying133
  a57 := Try.isAgg133
  z57 := Try.sizeOf133
  v57 := Try.zeroValue133
  t63 := Try.underlying135
  a63 := Try.isAgg135
  z63 := Try.sizeOf135
  v63 := Try.zeroValue135
  t64 := Try.underlying136
  a64 := Try.isAgg136
  z64 := Try.sizeOf136
  v64 := Try.zeroValue136 }

theorem shsorts52 (m : Nat) : AnyZ.SortsIn Try.prog shsorted52ren Fence.wide m :=
  ⟨fun blk off cap ss W hH hblk hsz => callsIn_wide.2 (AnyM.slices_Sort_string shsort72 blk off cap ss W hH hblk hsz),
   fun p cap W => callsIn_wide.2 (AnyM.slices_Sort_string_none shsort72 p cap W)⟩

theorem mkeys_c (mb : Option Nat) (W : World) : CallsIn Fence.wide 5 Try.prog 53 #[.map mb] W fun e w' => e = .returned (.func (.func 73) #[] #[.pointer (some ⟨W.heap.size, 0, Option.none⟩)]) ∧ w' = W.alloc (.cells #[.map mb] 87) :=
  AnyZ.keys_in shkeys53 Fence.wide 5 trivial rfl mb W

set_option maxHeartbeats 1000000 in
theorem msorted_c {H : Type} (b nn : Nat) (D0 : DataW H) (R : Value → Option (DataW H × List MemPlace)) (w : World) (hown : w.ownsMap Try.prog 9 R b nn D0) (hmax : Maps.size D0 ≤ maxLen) (hbytes : Maps.size D0 * 16 ≤ 140737488355328) :
    CallsIn Fence.wide 5 Try.prog 52 #[.func (.func 73) #[] #[.pointer (some ⟨w.heap.size, 0, Option.none⟩)]] (w.alloc (.cells #[.map (some b)] 87)) fun e w' => ∃ (v : Value) (ss : List (List UInt8)), e = .returned v ∧ ss.Perm (strKeys D0) ∧
      w'.ownsRow (w.alloc (.cells #[.map (some b)] 87)).heap.size 9 1 v ss.length ((ss.mergeSort (fun x y => decide (x ≤ y))).map encStr) ∧ (v = .slice Option.none 0 0 ↔ ss = []) ∧ Below (w.alloc (.cells #[.map (some b)] 87)).heap.size (w.alloc (.cells #[.map (some b)] 87)) w' := by
  have hbl := hown.lt
  have hseq : SeqGives Fence.wide 2 Try.prog 73 #[.pointer (some ⟨w.heap.size, 0, Option.none⟩)] encStr (fun ss => ss.Perm (strKeys D0)) (Maps.size D0) (w.alloc (.cells #[.map (some b)] 87)) :=
    AnyZ.keys_gives (ρ := shkeys53ren) { shkeys53 with } Fence.wide _ trivial rfl (by omega) w.heap.size b nn D0 _ (by simp) (by simp) (by
      obtain ⟨es, clock, hb, Ft, hs, hD⟩ := hown
      exact ⟨es, clock, (Below.heap_alloc _ _ b hbl).trans hb, Ft, hs, hD⟩)
  exact AnyZ.sorted_in shsorted52 Fence.wide 5 trivial trivial trivial trivial rfl (by omega) (shsorts52 _) (enters_of Try.func72 (by kernel_rfl) rfl) 73 #[.pointer (some ⟨w.heap.size, 0, Option.none⟩)] trivial (enters_of Try.func73 (by kernel_rfl) rfl) _ _ hmax hbytes _ hseq

/-! ### a map of texts to numbers -/
abbrev DW := DataW Unit
abbrev Bs := List UInt8
def bsOf (s : ByteArray) : Bs := s.data.toList
def mkS (l : Bs) : ByteArray := ⟨l.toArray⟩
theorem mkS_of (s : ByteArray) : mkS (bsOf s) = s := Lib.mk_data s
theorem of_mkS (l : Bs) : bsOf (mkS l) = l := rfl
theorem mkS_size (l : Bs) : (mkS l).size = l.length := by rw [Lib.size_eq]; rfl
theorem bsOf_len (s : ByteArray) : (bsOf s).length = s.size := by rw [← mkS_size, mkS_of]
theorem bsOf_inj {a b : ByteArray} (h : bsOf a = bsOf b) : a = b := by rw [← mkS_of a, h, mkS_of]

def upd {A B : Type} [DecidableEq A] (f : A → B) (a : A) (b : B) : A → B := fun x => if x = a then b else f x
theorem upd_same {A B : Type} [DecidableEq A] (f : A → B) (a : A) (b : B) : upd f a b a = b := if_pos rfl
theorem upd_other {A B : Type} [DecidableEq A] (f : A → B) {a x : A} (b : B) (h : x ≠ a) : upd f a b x = f x := if_neg h

def intE : Value → Option (DW × List MemPlace)
  | .int .i64 z => some (.lit (.int .i64 z), [])
  | _ => Option.none
theorem intE_inv {v : Value} {z : DW × List MemPlace} (h : intE v = some z) : ∃ i, v = .int .i64 i ∧ z = (.lit (.int .i64 i), []) := by
  unfold intE at h
  split at h
  · cases h; exact ⟨_, rfl, rfl⟩
  · cases h
def elD : Option Nat → DW
  | Option.none => .lit (.int .i64 0)
  | some i => .lit (.int .i64 i)

theorem law9 : Keyed Try.prog 9 := string_keyed Try.underlying9
theorem zero3 (w : World) : (zeroValue 3).run Try.prog w = .ok (.int .i64 0) w := by kernel_rfl

theorem keyS {l : Bs} (h : l.length ≤ maxLen) : keyOf Try.prog 9 (.string (mkS l)) = some (.string l) := WideMaps.keyOf_string_mk Try.underlying9 (by rw [mkS_size]; exact h)

/-- block m is a map of at most n texts to numbers -/
def Mi (w : World) (n m : Nat) (f : Bs → Option Nat) : Prop :=
  ∃ D : DW, w.ownsMap Try.prog 9 intE m n D ∧ (∀ l, Maps.has D (.string l) = (f l).isSome) ∧ ∀ l, D.atKey (.string l) (.lit (.int .i64 0)) = elD (f l)

section
variable {w w' : World} {n n' m : Nat} {f : Bs → Option Nat}
theorem Mi.lt (h : Mi w n m f) : m < w.heap.size := by obtain ⟨D, h, _⟩ := h; exact h.lt
theorem Mi.map (h : Mi w n m f) : ∃ es c, w.heap[m]? = some (.map es c) := by obtain ⟨D, ⟨es, c, h, _⟩, _⟩ := h; exact ⟨es, c, h⟩
theorem Mi.kept (h : Mi w n m f) (hb : w'.heap[m]? = w.heap[m]?) : Mi w' n m f := by
  obtain ⟨D, ⟨es, c, hm, r1, r2, r3⟩, r⟩ := h
  exact ⟨D, ⟨es, c, hb.trans hm, r1, r2, r3⟩, r⟩
theorem Mi.made (w : World) : Mi (w.alloc (.map #[] 0)) 0 w.heap.size (fun _ => Option.none) :=
  ⟨.map [], World.ownsMap_made _ _ _ _, fun _ => rfl, fun _ => rfl⟩

theorem Mi.look (h : Mi w n m f) {l : Bs} {i : Nat} (hl : l.length ≤ maxLen) (hf : f l = some i) :
    (Instr.lookup 87 (.map (some m)) (.string (mkS l)) false).run Try.prog w = .ok (.int .i64 (i : Int)) w := by
  obtain ⟨D, hD, _, hat⟩ := h
  obtain ⟨v, ps, hrun, hv⟩ := hD.lookup law9 Try.underlying87 (zero3 w) (zd := .lit (.int .i64 0)) (zp := []) rfl (keyS hl)
  obtain ⟨o, rfl, ho⟩ := intE_inv hv
  rw [hat, hf] at ho
  have : o = (i : Int) := by
    have := congrArg Prod.fst ho
    simp [elD] at this
    exact this.symm
  rw [← this]
  exact hrun

theorem Mi.put (h : Mi w n m f) (hn : n < maxLen) {l : Bs} (hl : l.length ≤ maxLen) (i : Nat) :
    ∃ w', (Instr.mapUpdate 87 (.map (some m)) (.string (mkS l)) (.int .i64 (i : Int))).run Try.prog w = .ok () w' ∧ Mi w' (n + 1) m (upd f l (some i)) ∧ w.grownBy w' (some m) ∧ w'.heap.size = w.heap.size := by
  obtain ⟨D, hD, hhas, hat⟩ := h
  obtain ⟨w', hrun, ho, ht⟩ := hD.store law9 Try.underlying87 hn (val := .int .i64 (i : Int)) (d := .lit (.int .i64 i)) (ps := []) (keyS hl) rfl
  have hk : WideAt.IsKeyLit (.string l) := law9.key (keyS hl)
  refine ⟨w', hrun, ⟨_, ho, fun x => ?_, fun x => ?_⟩, ht.grown, ?_⟩
  · by_cases hx : x = l
    · subst hx; rw [has_put_same hD.isMap hk, upd_same]; rfl
    · rw [has_put_other (by intro e; cases e; exact hx rfl), upd_other _ _ hx, hhas]
  · by_cases hx : x = l
    · subst hx; rw [atKey_put_same hD.isMap hk, upd_same]; rfl
    · rw [atKey_put_other (by intro e; cases e; exact hx rfl), upd_other _ _ hx, hat]
  · obtain ⟨es, c, es', c', _, rfl⟩ := ht
    simp [Go.ChangeMaps.setBlock]

theorem Mi.len (h : Mi w n m f) : ∃ k : Nat, k ≤ n ∧ ∀ ty, (Builtin.len_ #[87] ty #[.map (some m)]).run Try.prog w = .ok (.int .i64 k) w := by
  obtain ⟨D, hD, _⟩ := h
  exact ⟨_, hD.size_le, fun ty => hD.len Try.underlying87 ty⟩

/-- which keys -/
theorem keys_of {D : DW} (hown : w.ownsMap Try.prog 9 intE m n D) (hh : ∀ l, Maps.has D (.string l) = (f l).isSome) {ns : List Bs} (hp : ns.Perm (strKeys D)) :
    ns.Nodup ∧ (∀ x, x ∈ ns ↔ (f x).isSome = true) ∧ (∀ x ∈ ns, x.length ≤ maxLen) ∧ ns.length ≤ n := by
  have hle := strKeys_le hown Try.underlying9
  have hsz := hown.size_le
  obtain ⟨es, hD, hpw, _⟩ := hown.entries law9
  obtain ⟨es', hD', hko⟩ := hown.keysOf
  obtain rfl : es = es' := by rw [hD] at hD'; simpa using hD'
  subst hD
  have hk : ∀ p ∈ es, ∃ x, p.1 = .string x := fun p hp => by obtain ⟨v, hv⟩ := hko p hp; obtain ⟨x, _, hx, _⟩ := Maps.keyOf_str Try.underlying9 hv; exact ⟨x, hx⟩
  have hnd : (strKeys (.map es)).Nodup := by
    show (es.map fun p => strOf p.1).Nodup
    refine List.pairwise_map.2 (hpw.imp_of_mem fun {p q} hp' hq' hne e => hne ?_)
    obtain ⟨a, ha⟩ := hk p hp'
    obtain ⟨b, hb⟩ := hk q hq'
    rw [ha, hb] at e ⊢
    exact congrArg _ e
  refine ⟨hp.nodup_iff.2 hnd, fun x => ?_, fun x hx => hle x (hp.mem_iff.1 hx), ?_⟩
  · rw [hp.mem_iff, ← hh x, has_eq, List.any_eq_true]
    show x ∈ es.map (fun p => strOf p.1) ↔ _
    rw [List.mem_map]
    constructor
    · rintro ⟨p, hp', rfl⟩
      obtain ⟨a, ha⟩ := hk p hp'
      exact ⟨p, hp', by rw [ha]; simp [Lit.sameKey, strOf]⟩
    · rintro ⟨p, hp', hs⟩
      obtain ⟨a, ha⟩ := hk p hp'
      rw [ha] at hs
      exact ⟨p, hp', by rw [ha]; simpa [Lit.sameKey, strOf] using hs⟩
  · rw [hp.length_eq]
    simpa [strKeys, Maps.size] using hsz
end
end Go.Proofs.Ytdijpoemimebmaa.Rn
