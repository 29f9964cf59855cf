/-
  THE NAMES OF A MAP, SORTED; A MAP CLONED: the kit's contracts at this dump.
-/
import Derived.Shelf.SlIter.Nil
import Derived.Shelf.SortM.Plain
import Derived.Shelf.SortM.SortNone
import Derived.Shelf.SlMaps.Clone
import Derived.Test.YtdgfnhgkncfmpaaSmall
namespace Go.Proofs.Ytdgfnhgkncfmpaa
open Go.RowKit Go.Maps Go.Sort Go.Shelf
def shkeys35ren : Go.Shelf.Ren := ⟨fun | 7 => 55 | 10 => 89 | n => n, fun | 23 => 87 | 26 => 9 | 3 => 82 | 28 => 101 | 0 => 0 | 27 => 100 | 33 => 121 | 4 => 4 | n => n, fun | n => n⟩
theorem shkeys35 : Go.Proofs.SlLaysZ.n7 Try.prog shkeys35ren := {
  mixed := by kernel_rfl
  f7 := ⟨Try.f55.name, by decide, Try.func55.trans (congrArg some (by kernel_rfl))⟩
  f10 := ⟨Try.f89.name, by decide, Try.func89.trans (congrArg some (by kernel_rfl))⟩
  t0 := Try.underlying0
  a0 := Try.isAgg0
  z0 := Try.sizeOf0
  v0 := Try.zeroValue0
  t4 := Try.underlying4
  a4 := Try.isAgg4
  z4 := Try.sizeOf4
  v4 := Try.zeroValue4
  t23 := Try.underlying87
  a23 := Try.isAgg87
  z23 := Try.sizeOf87
  v23 := Try.zeroValue87
  t26 := Try.underlying9
  a26 := Try.isAgg9
  z26 := Try.sizeOf9
  v26 := Try.zeroValue9
  t27 := Try.underlying100
  a27 := Try.isAgg100
  z27 := Try.sizeOf100
  v27 := Try.zeroValue100
  t28 := Try.underlying101
  a28 := Try.isAgg101
  z28 := Try.sizeOf101
  v28 := Try.zeroValue101
  t33 := Try.underlying121
  a33 := Try.isAgg121
  z33 := Try.sizeOf121
  v33 := Try.zeroValue121 }
def shsorted34ren : Go.Shelf.Ren := ⟨fun | 6 => 54 | 8 => 87 | 9 => 88 | 11 => 99 | 13 => 101 | 12 => 100 | 23 => 119 | 24 => 102 | 14 => 110 | 15 => 111 | 16 => 112 | 17 => 113 | 18 => 114 | 19 => 115 | 20 => 116 | 21 => 117 | 22 => 118 | 25 => 127 | 26 => 128 | 27 => 129 | 28 => 130 | 29 => 131 | 30 => 132 | 31 => 138 | n => n, fun | 26 => 9 | 28 => 101 | 24 => 48 | 0 => 0 | 3 => 3 | 37 => 140 | 48 => 104 | 50 => 107 | 4 => 4 | 40 => 152 | 39 => 151 | 45 => 156 | 5 => 5 | 9 => 9 | 51 => 168 | 55 => 172 | 57 => 177 | 58 => 178 | 33 => 121 | n => n, fun | n => n⟩
theorem shsorted34 : Go.Proofs.SlLaysZ.n6 Try.prog shsorted34ren := {
  mixed := by kernel_rfl
  f6 := ⟨Try.f54.name, by decide, Try.func54.trans (congrArg some (by kernel_rfl))⟩
  f8 := ⟨Try.f87.name, by decide, Try.func87.trans (congrArg some (by kernel_rfl))⟩
  f11 := ⟨Try.f99.name, by decide, Try.func99.trans (congrArg some (by kernel_rfl))⟩
  t0 := Try.underlying0
  a0 := Try.isAgg0
  z0 := Try.sizeOf0
  v0 := Try.zeroValue0
  t24 := Try.underlying48
  a24 := Try.isAgg48
  z24 := Try.sizeOf48
  v24 := Try.zeroValue48
  t26 := Try.underlying9
  a26 := Try.isAgg9
  z26 := Try.sizeOf9
  v26 := Try.zeroValue9
  t28 := Try.underlying101
  a28 := Try.isAgg101
  z28 := Try.sizeOf101
  v28 := Try.zeroValue101
  i26 := by kernel_rfl }
def shsort53ren : Go.Shelf.Ren := ⟨fun | 6 => 88 | 8 => 101 | 9 => 100 | 19 => 119 | 20 => 102 | 21 => 110 | 22 => 111 | 23 => 112 | 24 => 113 | 25 => 114 | 26 => 115 | 27 => 116 | 28 => 117 | 29 => 118 | 36 => 127 | 31 => 128 | 32 => 129 | 37 => 130 | 38 => 131 | 39 => 132 | 41 => 138 | n => n, fun | 27 => 48 | 29 => 9 | 3 => 3 | 32 => 140 | 26 => 48 | 0 => 0 | 44 => 104 | 46 => 107 | 4 => 4 | 36 => 152 | 35 => 151 | 41 => 156 | 5 => 5 | 9 => 9 | 53 => 168 | 57 => 172 | 63 => 177 | 64 => 178 | n => n, fun | n => n⟩
theorem shsort53 : Go.Proofs.SlLaysM.n6 Try.prog shsort53ren := {
  mixed := by kernel_rfl
  f6 := ⟨Try.f88.name, by decide, Try.func88.trans (congrArg some (by kernel_rfl))⟩
  f8 := Try.func101.trans (congrArg some (by kernel_rfl))
  f9 := ⟨Try.f100.name, by decide, Try.func100.trans (congrArg some (by kernel_rfl))⟩
  f19 := Try.func119.trans (congrArg some (by kernel_rfl))
  f20 := Try.func102.trans (congrArg some (by kernel_rfl))
  f21 := ⟨Try.f110.name, by decide, Try.func110.trans (congrArg some (by kernel_rfl))⟩
  f22 := ⟨Try.f111.name, by decide, Try.func111.trans (congrArg some (by kernel_rfl))⟩
  f23 := ⟨Try.f112.name, by decide, Try.func112.trans (congrArg some (by kernel_rfl))⟩
  f24 := ⟨Try.f113.name, by decide, Try.func113.trans (congrArg some (by kernel_rfl))⟩
  f25 := ⟨Try.f114.name, by decide, Try.func114.trans (congrArg some (by kernel_rfl))⟩
  f26 := ⟨Try.f115.name, by decide, Try.func115.trans (congrArg some (by kernel_rfl))⟩
  f27 := ⟨Try.f116.name, by decide, Try.func116.trans (congrArg some (by kernel_rfl))⟩
  f28 := ⟨Try.f117.name, by decide, Try.func117.trans (congrArg some (by kernel_rfl))⟩
  f29 := ⟨Try.f118.name, by decide, Try.func118.trans (congrArg some (by kernel_rfl))⟩
  f31 := Try.func128.trans (congrArg some (by kernel_rfl))
  f32 := Try.func129.trans (congrArg some (by kernel_rfl))
  f36 := ⟨Try.f127.name, by decide, Try.func127.trans (congrArg some (by kernel_rfl))⟩
  f37 := ⟨Try.f130.name, by decide, Try.func130.trans (congrArg some (by kernel_rfl))⟩
  f38 := ⟨Try.f131.name, by decide, Try.func131.trans (congrArg some (by kernel_rfl))⟩
  f39 := ⟨Try.f132.name, by decide, Try.func132.trans (congrArg some (by kernel_rfl))⟩
  f41 := ⟨Try.f138.name, by decide, Try.func138.trans (congrArg some (by kernel_rfl))⟩
  t0 := Try.underlying0
  a0 := Try.isAgg0
  z0 := Try.sizeOf0
  v0 := Try.zeroValue0
  t3 := Try.underlying3
  a3 := Try.isAgg3
  z3 := Try.sizeOf3
  v3 := Try.zeroValue3
  t4 := Try.underlying4
  a4 := Try.isAgg4
  z4 := Try.sizeOf4
  v4 := Try.zeroValue4
  t5 := Try.underlying5
  a5 := Try.isAgg5
  z5 := Try.sizeOf5
  v5 := Try.zeroValue5
  t9 := Try.underlying9
  a9 := Try.isAgg9
  z9 := Try.sizeOf9
  v9 := Try.zeroValue9
  t26 := Try.underlying48
  a26 := Try.isAgg48
  z26 := Try.sizeOf48
  v26 := Try.zeroValue48
  t27 := Try.underlying48
  a27 := Try.isAgg48
  z27 := Try.sizeOf48
  v27 := Try.zeroValue48
  t29 := Try.underlying9
  a29 := Try.isAgg9
  z29 := Try.sizeOf9
  v29 := Try.zeroValue9
  t32 := Try.underlying140
  a32 := Try.isAgg140
  z32 := Try.sizeOf140
  v32 := Try.zeroValue140
  t35 := Try.underlying151
  a35 := Try.isAgg151
  z35 := Try.sizeOf151
  v35 := Try.zeroValue151
  t36 := Try.underlying152
  a36 := Try.isAgg152
  z36 := Try.sizeOf152
  v36 := Try.zeroValue152
  t41 := Try.underlying156
  a41 := Try.isAgg156
  z41 := Try.sizeOf156
  v41 := Try.zeroValue156
  t44 := Try.underlying104
  a44 := Try.isAgg104
  z44 := Try.sizeOf104
  v44 := Try.zeroValue104
  t46 := Try.underlying107
  a46 := Try.isAgg107
  z46 := Try.sizeOf107
  v46 := Try.zeroValue107
  t53 := Try.underlying168
  a53 := Try.isAgg168
  z53 := Try.sizeOf168
  v53 := Try.zeroValue168
  t57 := Try.underlying172
  a57 := Try.isAgg172
  z57 := Try.sizeOf172
  v57 := Try.zeroValue172
  t63 := Try.underlying177
  a63 := Try.isAgg177
  z63 := Try.sizeOf177
  v63 := Try.zeroValue177
  t64 := Try.underlying178
  a64 := Try.isAgg178
  z64 := Try.sizeOf178
  v64 := Try.zeroValue178 }
def shclone27ren : Go.Shelf.Ren := ⟨fun | 5 => 45 | 7 => 82 | n => n, fun | 23 => 87 | 25 => 9 | 3 => 82 | 4 => 4 | 20 => 20 | n => n, fun | n => n⟩
theorem shclone27 : Go.Proofs.SlLaysW.n5 Try.prog shclone27ren := {
  mixed := by kernel_rfl
  f5 := ⟨Try.f45.name, by decide, Try.func45.trans (congrArg some (by kernel_rfl))⟩
  f7 := Try.func82.trans (congrArg some (by kernel_rfl))
  t4 := Try.underlying4
  a4 := Try.isAgg4
  z4 := Try.sizeOf4
  v4 := Try.zeroValue4
  t20 := Try.underlying20
  a20 := Try.isAgg20
  z20 := Try.sizeOf20
  v20 := Try.zeroValue20
  t23 := Try.underlying87
  a23 := Try.isAgg87
  z23 := Try.sizeOf87
  v23 := Try.zeroValue87 }

theorem shsorts34 (m : Nat) : AnyZ.SortsIn Try.prog shsorted34ren Fence.wide m :=
  ⟨fun blk off cap ss W hH hblk hsz => callsIn_wide.2 (AnyM.slices_Sort_string shsort53 blk off cap ss W hH hblk hsz),
   fun p cap W => callsIn_wide.2 (AnyM.slices_Sort_string_none shsort53 p cap W)⟩

theorem mkeys_c (mb : Option Nat) (W : World) : CallsIn Fence.wide 5 Try.prog 55 #[.map mb] W fun e w' => e = .returned (.func (.func 89) #[] #[.pointer (some ⟨W.heap.size, 0, none⟩)]) ∧ w' = W.alloc (.cells #[.map mb] 87) :=
  AnyZ.keys_in shkeys35 Fence.wide 5 trivial rfl mb W

set_option maxHeartbeats 1000000 in
theorem msorted_c {H : Type} (b nn : Nat) (D0 : DataW H) (R : Value → Option (DataW H × List MemPlace)) (w : World) (hown : w.ownsMap Try.prog 9 R b nn D0) (hmax : Maps.size D0 ≤ maxLen) (hbytes : Maps.size D0 * 16 ≤ 140737488355328) :
    CallsIn Fence.wide 5 Try.prog 54 #[.func (.func 89) #[] #[.pointer (some ⟨w.heap.size, 0, none⟩)]] (w.alloc (.cells #[.map (some b)] 87)) fun e w' => ∃ (v : Value) (ss : List (List UInt8)), e = .returned v ∧ ss.Perm (strKeys D0) ∧
      w'.ownsRow (w.alloc (.cells #[.map (some b)] 87)).heap.size 9 1 v ss.length ((ss.mergeSort (fun x y => decide (x ≤ y))).map encStr) ∧ (v = .slice none 0 0 ↔ ss = []) ∧ Below (w.alloc (.cells #[.map (some b)] 87)).heap.size (w.alloc (.cells #[.map (some b)] 87)) w' := by
  have hbl := hown.lt
  have hseq : SeqGives Fence.wide 2 Try.prog 89 #[.pointer (some ⟨w.heap.size, 0, none⟩)] encStr (fun ss => ss.Perm (strKeys D0)) (Maps.size D0) (w.alloc (.cells #[.map (some b)] 87)) :=
    AnyZ.keys_gives (ρ := shkeys35ren) { shkeys35 with } Fence.wide _ trivial rfl (by omega) w.heap.size b nn D0 _ (by simp) (by simp) (by
      obtain ⟨es, clock, hb, Ft, hs, hD⟩ := hown
      exact ⟨es, clock, (Below.heap_alloc _ _ b hbl).trans hb, Ft, hs, hD⟩)
  exact AnyZ.sorted_in shsorted34 Fence.wide 5 trivial trivial trivial trivial rfl (by omega) (shsorts34 _) (enters_of Try.func88 (by kernel_rfl) rfl) 89 #[.pointer (some ⟨w.heap.size, 0, none⟩)] trivial (enters_of Try.func89 (by kernel_rfl) rfl) _ _ hmax hbytes _ hseq

theorem mclone_c {n m : Nat} {f : List UInt8 → Option Nat} {w : World} (h : Dir w n m f) :
    Calls Try.prog 45 #[.map (some m)] w fun e w' => e = .returned (.map (some w.heap.size)) ∧ Dir w' n w.heap.size f ∧ Below w.heap.size w w' := by
  obtain ⟨D, hD, h1, h2⟩ := h
  refine (AnyW.maps_Clone_owns shclone27 9 fileE m n D w hD).mono ?_
  rintro e w' ⟨rfl, ho, _, hb⟩
  exact ⟨rfl, ⟨D, ho, h1, h2⟩, hb⟩

/-! ### which keys -/
theorem keys_of {w : World} {n m : Nat} {f : List UInt8 → Option Nat} {D : DW} (hown : w.ownsMap Try.prog 9 fileE m n D) (hh : ∀ l, Maps.has D (.string l) = (f l).isSome) {ns : List (List UInt8)} (hp : ns.Perm (strKeys D)) :
    ns.Nodup ∧ (∀ x, x ∈ ns ↔ (f x).isSome = true) ∧ (∀ x ∈ ns, x.length ≤ maxLen) ∧ ns.length ≤ n := by
  have hle := strKeys_le hown Try.underlying9
  have hsz := hown.size_le
  obtain ⟨es, hD, hpw, _⟩ := hown.entries law9
  obtain ⟨es', hD', hko⟩ := hown.keysOf
  obtain rfl : es = es' := by rw [hD] at hD'; simpa using hD'
  subst hD
  have hk : ∀ p ∈ es, ∃ x, p.1 = .string x := fun p hp => by obtain ⟨v, hv⟩ := hko p hp; obtain ⟨x, _, hx, _⟩ := Maps.keyOf_str Try.underlying9 hv; exact ⟨x, hx⟩
  have hnd : (strKeys (.map es)).Nodup := by
    show (es.map fun p => strOf p.1).Nodup
    refine List.pairwise_map.2 (hpw.imp_of_mem fun {p q} hp' hq' hne e => hne ?_)
    obtain ⟨a, ha⟩ := hk p hp'
    obtain ⟨b, hb⟩ := hk q hq'
    rw [ha, hb] at e ⊢
    exact congrArg _ e
  refine ⟨hp.nodup_iff.2 hnd, fun x => ?_, fun x hx => hle x (hp.mem_iff.1 hx), ?_⟩
  · rw [hp.mem_iff, ← hh x, has_eq, List.any_eq_true]
    show x ∈ es.map (fun p => strOf p.1) ↔ _
    rw [List.mem_map]
    constructor
    · rintro ⟨p, hp', rfl⟩
      obtain ⟨a, ha⟩ := hk p hp'
      exact ⟨p, hp', by rw [ha]; simp [Lit.sameKey, strOf]⟩
    · rintro ⟨p, hp', hs⟩
      obtain ⟨a, ha⟩ := hk p hp'
      rw [ha] at hs
      exact ⟨p, hp', by rw [ha]; simpa [Lit.sameKey, strOf] using hs⟩
  · rw [hp.length_eq]
    simpa [strKeys, Maps.size] using hsz

theorem encStr_mk (l : List UInt8) : encStr l = .string (mk l) := rfl

variable {X : Nat → Prop} {K : Nat} {w : World} {p : Nat} {q : Pl} {d : Ds}

set_option maxHeartbeats 2000000 in
theorem names_at (h : DkAt X K w p q d) (hu : d.up = true) (hK : K ≤ 1000) : Calls Try.prog 21 #[.pointer (some ⟨p, 0, none⟩)] w fun e w' => ∃ v ns, e = .returned v ∧
    w'.ownsRow w.heap.size 9 1 v ns.length (strV ns) ∧ (ns.Nodup ∧ (∀ x, x ∈ ns ↔ (d.now x).isSome = true) ∧ (∀ x ∈ ns, x.length ≤ maxLen) ∧ ns.length ≤ K) ∧ Below w.heap.size w w' := by
  have hdn := down_at h
  rw [hu] at hdn
  obtain ⟨_, _, _, _, _, c5, _, _⟩ := h.cells
  obtain ⟨n, hn, D, hown, hh, _⟩ := h.now
  have hsz := hown.size_le
  have hkeys := fun (ns : List (List UInt8)) (hp : ns.Perm (strKeys D)) => keys_of hown hh hp
  have hnf := Lib.hid hn
  have hK' := Lib.hid hK
  have HK := Lib.hid hkeys
  have s1 : Maps.size D ≤ maxLen := by unfold maxLen; omega
  have s2 : Maps.size D * 16 ≤ 140737488355328 := by omega
  clear h hh hn hkeys hK hsz
  refine (callsIn_wide (n := 6)).1 ?_
  have hfK : Fence.wide.fn 55 := trivial
  have hfS : Fence.wide.fn 54 := trivial
  have hfD : Fence.wide.fn 53 := trivial
  refine callsIn_of_wp Try.func21 rfl trivial ?_ rfl
  simp only [Try.ntmps21, List.size_toArray, List.length_cons, List.length_nil, Nat.reduceAdd, Nat.reduceSub, Array.replicate_succ, Array.replicate_zero, List.push_toArray, List.append_toArray, List.nil_append, List.cons_append]
  gi_wp2_with (first
    | (gi_at_call 53; refine (callsIn_wide.2 hdn).mono ?_; rintro e w' ⟨rfl, rfl⟩)
    | (gi_at_call 55; refine (mkeys_c _ _).mono ?_; rintro e w' ⟨rfl, rfl⟩)
    | (gi_at_call 54; refine (msorted_c q.m1 n D fileE w hown s1 s2).mono ?_; rintro e w' ⟨v, ss, rfl, hS, hrow, hnil, hb⟩))
  go_ret
  obtain ⟨k1, k2, k3, k4⟩ := HK.out (ss.mergeSort leB) ((List.mergeSort_perm ss leB).trans hS)
  have hlen : (ss.mergeSort leB).length = ss.length := List.length_mergeSort _
  refine ⟨v, ss.mergeSort leB, rfl, ?_, ⟨k1, k2, k3, by have := hnf.out; omega⟩, ((Below.refl _ w).alloc (Nat.le_refl _) _).trans (hb.mono (by simp))⟩
  rw [hlen]
  exact ownsRow_base_a hrow (by simp)

set_option maxHeartbeats 2000000 in
theorem names_down (h : DkAt X K w p q d) (hu : d.up = false) : Calls Try.prog 21 #[.pointer (some ⟨p, 0, none⟩)] w fun e w' => e = .returned (.slice none 0 0) ∧ w = w' := by
  have hdn := down_at h
  rw [hu] at hdn
  clear h
  go_enter Try.func21, Try.ntmps21
  go_wp2_with (go_at_call 53; refine hdn.mono ?_; rintro e w' ⟨rfl, rfl⟩)
  go_ret
  exact ⟨rfl, rfl⟩

set_option maxHeartbeats 2000000 in
theorem names_nil (w : World) : Calls Try.prog 21 #[.pointer none] w fun e w' => e = .returned (.slice none 0 0) ∧ w = w' := by
  go_enter Try.func21, Try.ntmps21
  go_wp2_with (go_at_call 53; refine (down_nil _).mono ?_; rintro e w' ⟨rfl, rfl⟩)
  go_ret
  exact ⟨rfl, rfl⟩
end Go.Proofs.Ytdgfnhgkncfmpaa
