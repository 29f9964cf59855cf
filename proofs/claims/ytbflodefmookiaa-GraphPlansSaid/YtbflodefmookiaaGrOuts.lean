/-
  Outs: all outputs, rising.
-/
import Derived.Test.YtbflodefmookiaaGrKeys
import Derived.Test.YtbflodefmookiaaGrMaker
import Derived.Test.YtbflodefmookiaaGrMkS
namespace Go.Proofs.Ytbflodefmookiaa.Gr
open Go.RowKit Go.Maps Go.Sort Go.Shelf Go.Proofs.Ytbflodefmookiaa Go.Proofs.Ytbflodefmookiaa.Pr

theorem shsortsS (m : Nat) : AnyZ.SortsIn Try.prog shsortedSRen Fence.wide m :=
  ⟨fun blk off cap ss W hH hblk hsz => callsIn_wide.2 (AnyM.slices_Sort_string shsortS blk off cap ss W hH hblk hsz),
   fun p cap W => callsIn_wide.2 (AnyM.slices_Sort_string_none shsortS p cap W)⟩
theorem skeys_c (mb : Option Nat) (W : World) : CallsIn Fence.wide 5 Try.prog 45 #[.map mb] W fun e w' => e = .returned (.func (.func 56) #[] #[.pointer (some ⟨W.heap.size, 0, none⟩)]) ∧ w' = W.alloc (.cells #[.map mb] 68) :=
  AnyZ.keys_in shkeysS Fence.wide 5 trivial rfl mb W
set_option maxHeartbeats 1000000 in
theorem ssort_c {H : Type} (b nn : Nat) (D0 : DataW H) (R : Value → Option (DataW H × List MemPlace)) (w : World) (hown : w.ownsMap Try.prog 9 R b nn D0) (hmax : Maps.size D0 ≤ maxLen) (hbytes : Maps.size D0 * 16 ≤ 140737488355328) :
    CallsIn Fence.wide 5 Try.prog 44 #[.func (.func 56) #[] #[.pointer (some ⟨w.heap.size, 0, none⟩)]] (w.alloc (.cells #[.map (some b)] 68)) fun e w' => ∃ (v : Value) (ss : List (List UInt8)), e = .returned v ∧ ss.Perm (strKeys D0) ∧
      w'.ownsRow (w.alloc (.cells #[.map (some b)] 68)).heap.size 9 1 v ss.length ((ss.mergeSort (fun x y => decide (x ≤ y))).map encStr) ∧ (v = .slice none 0 0 ↔ ss = []) ∧ Below (w.alloc (.cells #[.map (some b)] 68)).heap.size (w.alloc (.cells #[.map (some b)] 68)) w' := by
  have hbl := hown.lt
  have hseq : SeqGives Fence.wide 2 Try.prog 56 #[.pointer (some ⟨w.heap.size, 0, none⟩)] encStr (fun ss => ss.Perm (strKeys D0)) (Maps.size D0) (w.alloc (.cells #[.map (some b)] 68)) :=
    AnyZ.keys_gives (ρ := shkeysSRen) { shkeysS with } Fence.wide _ trivial rfl (by omega) w.heap.size b nn D0 _ (by simp) (by simp) (by
      obtain ⟨es, clock, hb, Ft, hs, hD⟩ := hown
      exact ⟨es, clock, (Below.heap_alloc _ _ b hbl).trans hb, Ft, hs, hD⟩)
  exact AnyZ.sorted_in shsortedS Fence.wide 5 trivial trivial trivial trivial rfl (by omega) (shsortsS _) (enters_of Try.func43 (by kernel_rfl) rfl) 56 #[.pointer (some ⟨w.heap.size, 0, none⟩)] trivial (enters_of Try.func56 (by kernel_rfl) rfl) _ _ hmax hbytes _ hseq
theorem encStr_mk : encStr = fun p => Value.string (mk p) := rfl
theorem skeys_of {w : World} {n m : Nat} {D : DataW Value} {f : Lit → Option Value} (hown : w.ownsMap Try.prog 9 heldR m n D) (hh : ∀ l, Maps.has D l = (f l).isSome) {ns : List Bs} (hp : ns.Perm (strKeys D)) :
    ns.Nodup ∧ (∀ x, x ∈ ns ↔ (f (.string x)).isSome = true) ∧ ns.length ≤ n := by
  have hsz := hown.size_le
  obtain ⟨es, hD, hpw, _⟩ := hown.entries lawS
  obtain ⟨es', hD', hko⟩ := hown.keysOf
  obtain rfl : es = es' := by rw [hD] at hD'; simpa using hD'
  subst hD
  have hk : ∀ p ∈ es, ∃ x, p.1 = .string x := fun p hp => by obtain ⟨v, hv⟩ := hko p hp; obtain ⟨x, _, hx, _⟩ := Maps.keyOf_str Try.underlying9 hv; exact ⟨x, hx⟩
  have hnd : (strKeys (.map es)).Nodup := by
    show (es.map fun p => strOf p.1).Nodup
    refine List.pairwise_map.2 (hpw.imp_of_mem fun {p q} hp' hq' hne e => hne ?_)
    obtain ⟨a, ha⟩ := hk p hp'
    obtain ⟨b, hb⟩ := hk q hq'
    rw [ha, hb] at e ⊢
    exact congrArg _ e
  refine ⟨hp.nodup_iff.2 hnd, fun x => ?_, ?_⟩
  · rw [hp.mem_iff, ← hh, has_eq, List.any_eq_true]
    show x ∈ es.map (fun p => strOf p.1) ↔ _
    rw [List.mem_map]
    constructor
    · rintro ⟨p, hp', rfl⟩
      obtain ⟨a, ha⟩ := hk p hp'
      exact ⟨p, hp', by rw [ha]; simp [Lit.sameKey, strOf]⟩
    · rintro ⟨p, hp', hs⟩
      obtain ⟨a, ha⟩ := hk p hp'
      rw [ha] at hs
      exact ⟨p, hp', by rw [ha]; simpa [Lit.sameKey, strOf] using hs⟩
  · rw [hp.length_eq]
    simpa [strKeys, Maps.size] using hsz
/-- rising, and each once: the one row of these -/
structure Rising (K : List Bs) (p : Bs → Prop) : Prop where
  nd : K.Nodup
  le : K.Pairwise (fun a b => a ≤ b)
  mem : ∀ s, s ∈ K ↔ p s
theorem sorted_rising {ss : List Bs} {p : Bs → Prop} (hnd : ss.Nodup) (hm : ∀ s, s ∈ ss ↔ p s) : Rising (ss.mergeSort (fun x y => decide (x ≤ y))) p := by
  have hp : (ss.mergeSort (fun x y => decide (x ≤ y))).Perm ss := List.mergeSort_perm _ _
  refine ⟨hp.nodup_iff.2 hnd, ?_, fun s => hp.mem_iff.trans (hm s)⟩
  refine (List.pairwise_mergeSort (le := fun x y : Bs => decide (x ≤ y)) (fun a b c h1 h2 => ?_) (fun a b => ?_) ss).imp (fun h => by simpa using h)
  · simp only [decide_eq_true_eq] at *
    exact List.le_trans h1 h2
  · simp only [Bool.or_eq_true, decide_eq_true_eq]
    exact List.le_total a b
theorem Rising.eq {A B : List Bs} {p : Bs → Prop} (hA : Rising A p) (hB : Rising B p) : A = B :=
  List.Perm.eq_of_pairwise (le := fun a b => a ≤ b) (fun _ _ _ _ h1 h2 => List.le_antisymm h1 h2) hA.le hB.le ((List.perm_ext_iff_of_nodup hA.nd hB.nd).2 fun x => (hA.mem x).trans (hB.mem x).symm)

theorem sub_lenB {A B : List Bs} (hA : A.Nodup) (h : ∀ x ∈ A, x ∈ B) : A.length ≤ B.length := by
  induction A generalizing B with
  | nil => simp
  | cons a A ih =>
    obtain ⟨h1, h2⟩ := List.nodup_cons.1 hA
    have ha := h a (by simp)
    have := ih (B := B.erase a) h2 fun x hx => (List.mem_erase_of_ne (fun e => h1 (by rw [← e]; exact hx))).2 (h x (by simp [hx]))
    rw [List.length_erase_of_mem ha] at this
    have hp := List.length_pos_of_mem ha
    rw [List.length_cons]
    omega
set_option maxRecDepth 100000 in
set_option maxHeartbeats 8000000 in
theorem outs_c {w : World} {gp : Nat} {ve vd : Value} {m n : Nat} {L : List Ed} {D : List Bs} {mkr : Bs → Option Nat} (hG : Gph w gp ve vd m n L D mkr) (hm : makers L = some mkr) :
    Calls Try.prog 23 #[.pointer (some ⟨gp, 0, none⟩)] w fun e w' => ∃ v K, e = .returned v ∧ Rising K (fun s => (mkr s).isSome = true) ∧ w'.ownsRow w.heap.size 9 1 v K.length (strV K) ∧ K.length ≤ 10 * L.length ∧ Below w.heap.size w w' := by
  have hor := orNone_c (w := w) (ad := ⟨gp, 0, none⟩)
  obtain ⟨f, ⟨D0, hD, hhas, hat⟩, hf⟩ := id hG.mks
  have hff : ∀ x, (f (.string x)).isSome = (mkr x).isSome := fun x => by
    rw [hf]
    show ((mkr x).map _).isSome = _
    rw [Option.isSome_map]
  have hkey := fun (ns : List Bs) (hp : ns.Perm (strKeys D0)) => skeys_of hD hhas hp
  have hal : (allOuts L).length ≤ 10 * L.length := by
    have h1 : ∀ A : List Ed, (∀ e ∈ A, e.outs.length ≤ 10) → (allOuts A).length ≤ 10 * A.length := fun A => by
      induction A with
      | nil => simp
      | cons a A ih =>
        intro h
        have h2 := ih fun e he => h e (by simp [he])
        have h3 := h a (by simp)
        rw [allOuts, List.flatMap_cons, List.length_append, List.length_cons]
        unfold allOuts at h2
        omega
    exact h1 L fun e he => (hG.small e he).o
  have hkl : ∀ ns : List Bs, ns.Perm (strKeys D0) → ns.length ≤ 10 * L.length := fun ns hp => by
    obtain ⟨h1, h2, _⟩ := hkey ns hp
    exact Nat.le_trans (sub_lenB h1 fun x hx => (makers_out hm x).1 (by rw [← hff]; exact (h2 x).1 hx)) hal
  have hsz : Maps.size D0 ≤ 10000 := by
    have h1 := hkl (strKeys D0) (List.Perm.refl _)
    have h2 := hG.few
    have h3 : (strKeys D0).length = Maps.size D0 := by
      obtain ⟨es, hD2, _⟩ := hD.entries lawS
      rw [hD2]
      simp [strKeys, Maps.size]
    omega
  have hk := (callsIn_wide (n := 5)).1 (skeys_c (some m) w)
  have hso := (callsIn_wide (n := 5)).1 (ssort_c m n D0 heldR w hD (by unfold maxLen; omega) (by omega))
  have cm : w.cell? ⟨gp, 2, none⟩ = some (.map (some m)) := by simp [World.cell?, hG.box]
  have HA := Lib.hid (below_alloc w (.cells #[.map (some m)] 68))
  have HKEY := Lib.hid hkey
  have HFF := Lib.hid hff
  have HKL := Lib.hid hkl
  clear hG hD hhas hat hf hsz hkey hff hal hkl hm
  go_enter Try.func23, Try.ntmps23
  go_wp2_with fail
  refine hor.mono ?_
  rintro e w1 ⟨rfl, rfl⟩
  go_wp2_with fail
  refine hk.mono ?_
  rintro e w1 ⟨rfl, rfl⟩
  go_wp2_with fail
  refine hso.mono ?_
  rintro e w2 ⟨v, ss, rfl, hp, hrow, -, hb⟩
  obtain ⟨hnd, hmem, -⟩ := HKEY.out ss hp
  have hlen := HKL.out ss hp
  have hR := sorted_rising (p := fun s => (mkr s).isSome = true) hnd fun s => by rw [hmem, HFF.out]
  have HR := Lib.hid hR
  have hrow2 : w2.ownsRow w.heap.size 9 1 v (ss.mergeSort (fun x y => decide (x ≤ y))).length (strV (ss.mergeSort (fun x y => decide (x ≤ y)))) := by
    rw [List.length_mergeSort]
    exact ownsRow_base_a hrow HA.out.size
  have HROW := Lib.hid hrow2
  have HB := Lib.hid (HA.out.trans (hb.mono HA.out.size))
  have HLE : Hid ((ss.mergeSort (fun x y => decide (x ≤ y))).length ≤ 10 * L.length) := Lib.hid (by rw [List.length_mergeSort]; exact hlen)
  clear hor hk hso hp hrow hb hnd hmem hlen hR hrow2
  go_wp2_with fail
  go_ret
  exact ⟨v, _, rfl, HR.out, HROW.out, HLE.out, HB.out⟩
end Go.Proofs.Ytbflodefmookiaa.Gr
