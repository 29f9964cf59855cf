/-
  A SET OF NUMBERS; its numbers, sorted (slices.Sorted of maps.Keys).
-/
import Derived.Test.YtbflodefmookiaaGrShelf
import Derived.Test.YtbflodefmookiaaGrNeeded
namespace Go.Proofs.Ytbflodefmookiaa.Gr
open Go.RowKit Go.Maps Go.Sort Go.Shelf Go.Proofs.Ytbflodefmookiaa Go.Proofs.Ytbflodefmookiaa.Pr

theorem shsortsI (m : Nat) : AnyZI.SortsIn Try.prog shsortedIRen Fence.wide m :=
  ⟨fun blk off cap ss W hH hblk hsz => callsIn_wide.2 (AnyM.slices_Sort_int shsortI blk off cap ss W hH hblk hsz),
   fun p cap W => callsIn_wide.2 (AnyM.slices_Sort_int_none shsortI p cap W)⟩
theorem ikeys_c (mb : Option Nat) (W : World) : CallsIn Fence.wide 5 Try.prog 52 #[.map mb] W fun e w' => e = .returned (.func (.func 62) #[] #[.pointer (some ⟨W.heap.size, 0, none⟩)]) ∧ w' = W.alloc (.cells #[.map mb] 98) :=
  AnyZI.keys_in shkeysI Fence.wide 5 trivial rfl mb W
set_option maxHeartbeats 1000000 in
theorem isort_c {H : Type} (b nn : Nat) (D0 : DataW H) (R : Value → Option (DataW H × List MemPlace)) (w : World) (hown : w.ownsMap Try.prog 3 R b nn D0) (hmax : Maps.size D0 ≤ maxLen) (hbytes : Maps.size D0 * 8 ≤ 140737488355328) :
    CallsIn Fence.wide 5 Try.prog 51 #[.func (.func 62) #[] #[.pointer (some ⟨w.heap.size, 0, none⟩)]] (w.alloc (.cells #[.map (some b)] 98)) fun e w' => ∃ (v : Value) (ss : List Int), e = .returned v ∧ ss.Perm (intKeys D0) ∧
      w'.ownsRow (w.alloc (.cells #[.map (some b)] 98)).heap.size 3 1 v ss.length ((ss.mergeSort (fun x y => decide (x ≤ y))).map encZ) ∧ (v = .slice none 0 0 ↔ ss = []) ∧ Below (w.alloc (.cells #[.map (some b)] 98)).heap.size (w.alloc (.cells #[.map (some b)] 98)) w' := by
  have hbl := hown.lt
  have hseq : SeqGives Fence.wide 2 Try.prog 62 #[.pointer (some ⟨w.heap.size, 0, none⟩)] encZ (fun ss => ss.Perm (intKeys D0)) (Maps.size D0) (w.alloc (.cells #[.map (some b)] 98)) :=
    AnyZI.keys_gives (ρ := shkeysIRen) { shkeysI with } Fence.wide _ trivial rfl (by omega) w.heap.size b nn D0 _ (by simp) (by simp) (by
      obtain ⟨es, clock, hb, Ft, hs, hD⟩ := hown
      exact ⟨es, clock, (Below.heap_alloc _ _ b hbl).trans hb, Ft, hs, hD⟩)
  exact AnyZI.sorted_in shsortedI Fence.wide 5 trivial trivial trivial trivial rfl (by omega) (shsortsI _) (enters_of Try.func61 (by kernel_rfl) rfl) 62 #[.pointer (some ⟨w.heap.size, 0, none⟩)] trivial (enters_of Try.func62 (by kernel_rfl) rfl) _ _ hmax hbytes _ hseq

/-- block m is a set of at most n numbers: those of S -/
def Is (w : World) (n m : Nat) (S : List Nat) : Prop := ∃ f, Mv w 3 n m f ∧ (∀ x : Nat, f (.int .i64 (x : Int)) = if x ∈ S then some (.agg #[]) else none) ∧ ∀ l v, f l = some v → ∃ x ∈ S, l = .int .i64 (x : Nat)
section
variable {w w' : World} {n m : Nat} {S : List Nat}
theorem Is.kept (h : Is w n m S) (hb : w'.heap[m]? = w.heap[m]?) : Is w' n m S := by obtain ⟨f, h1, h2⟩ := h; exact ⟨f, h1.kept hb, h2⟩
theorem Is.lt (h : Is w n m S) : m < w.heap.size := by obtain ⟨f, h1, h2⟩ := h; exact h1.lt
theorem Is.map (h : Is w n m S) : ∃ es c, w.heap[m]? = some (.map es c) := by obtain ⟨f, h1, h2⟩ := h; exact h1.map
theorem Is.made (w : World) : Is (w.alloc (.map #[] 0)) 0 w.heap.size [] := ⟨fun _ => none, Mv.made w _, fun x => by rw [if_neg (List.not_mem_nil)], fun l v h => by cases h⟩
theorem Is.look (h : Is w n m S) {x : Nat} (hx : x ≤ 1000000) :
    (Instr.lookup 98 (.map (some m)) (.int .i64 (x : Int)) true).run Try.prog w = .ok (.tuple #[.agg #[], .bool (decide (x ∈ S))]) w := by
  obtain ⟨f, h1, h2, h3⟩ := h
  rw [h1.look lawI Try.underlying98 (zeroA w) (keyI hx), h2]
  by_cases hk : x ∈ S <;> simp [hk]
theorem Is.put (h : Is w n m S) (hn : n < maxLen) {x : Nat} (hx : x ≤ 1000000) :
    ∃ w', (Instr.mapUpdate 98 (.map (some m)) (.int .i64 (x : Int)) (.agg #[])).run Try.prog w = .ok () w' ∧ Is w' (n + 1) m (S ++ [x]) ∧ w.grownBy w' (some m) ∧ w'.heap.size = w.heap.size := by
  obtain ⟨f, h1, h2, h3⟩ := h
  obtain ⟨w', hrun, h4, h5, h6⟩ := h1.put lawI Try.underlying98 hn (keyI hx) (.agg #[])
  refine ⟨w', hrun, ⟨_, h4, fun y => ?_, fun l v hl => ?_⟩, h5, h6⟩
  · by_cases e : y = x
    · subst e
      rw [updL_same, if_pos (by simp)]
    · have hne : Lit.int .i64 (y : Int) ≠ Lit.int .i64 (x : Int) := fun e2 => e (Int.ofNat.inj (show (y : Int) = (x : Int) from congrArg Go.intOf e2))
      rw [updL_ne _ _ hne, h2]
      have : y ∈ S ++ [x] ↔ y ∈ S := by simp [e]
      by_cases hk : y ∈ S
      · rw [if_pos hk, if_pos (this.2 hk)]
      · rw [if_neg hk, if_neg fun h => hk (this.1 h)]
  · by_cases e : l = Lit.int .i64 (x : Int)
    · exact ⟨x, by simp, e⟩
    · rw [updL_ne _ _ e] at hl
      obtain ⟨y, hy, e2⟩ := h3 l v hl
      exact ⟨y, by simp [hy], e2⟩

theorem ikeys_of {D : DataW Value} {f : Lit → Option Value} (hown : w.ownsMap Try.prog 3 heldR m n D) (hh : ∀ l, Maps.has D l = (f l).isSome) {ss : List Int} (hp : ss.Perm (intKeys D)) :
    ss.Nodup ∧ (∀ x : Int, x ∈ ss ↔ (f (.int .i64 x)).isSome = true) ∧ ss.length ≤ n := by
  have hsz := hown.size_le
  obtain ⟨es, hD, hpw, _⟩ := hown.entries lawI
  obtain ⟨es', hD', hko⟩ := hown.keysOf
  obtain rfl : es = es' := by rw [hD] at hD'; simpa using hD'
  subst hD
  have hk : ∀ p ∈ es, ∃ x, p.1 = .int .i64 x := fun p hp => by obtain ⟨v, hv⟩ := hko p hp; obtain ⟨x, _, hx, _⟩ := Maps.keyOf_i64 Try.underlying3 hv; exact ⟨x, hx⟩
  have hnd : (intKeys (.map es)).Nodup := by
    show (es.map fun p => Go.intOf p.1).Nodup
    refine List.pairwise_map.2 (hpw.imp_of_mem fun {p q} hp' hq' hne e => hne ?_)
    obtain ⟨a, ha⟩ := hk p hp'
    obtain ⟨b, hb⟩ := hk q hq'
    rw [ha, hb] at e ⊢
    exact congrArg _ e
  refine ⟨hp.nodup_iff.2 hnd, fun x => ?_, ?_⟩
  · rw [hp.mem_iff, ← hh, has_eq, List.any_eq_true]
    show x ∈ es.map (fun p => Go.intOf p.1) ↔ _
    rw [List.mem_map]
    constructor
    · rintro ⟨p, hp', rfl⟩
      obtain ⟨a, ha⟩ := hk p hp'
      exact ⟨p, hp', by rw [ha]; simp [Lit.sameKey, Go.intOf]⟩
    · rintro ⟨p, hp', hs⟩
      obtain ⟨a, ha⟩ := hk p hp'
      rw [ha] at hs
      exact ⟨p, hp', by rw [ha]; simpa [Lit.sameKey, Go.intOf] using hs.symm⟩
  · rw [hp.length_eq]
    simpa [intKeys, Maps.size] using hsz

/-- the numbers of a set, sorted -/
theorem Is.sorted (h : Is w n m S) (hn : n ≤ 1000000) :
    Calls Try.prog 51 #[.func (.func 62) #[] #[.pointer (some ⟨w.heap.size, 0, none⟩)]] (w.alloc (.cells #[.map (some m)] 98)) fun e w' =>
      ∃ (v : Value) (M : List Nat), e = .returned v ∧ RowI w' w.heap.size v M ∧ M.Pairwise (· < ·) ∧ (∀ x, x ∈ M ↔ x ∈ S) ∧ Below w.heap.size w w' := by
  obtain ⟨f, ⟨D, hD, hhas, hat⟩, h2, h3⟩ := h
  have hsz := hD.size_le
  refine ((callsIn_wide (n := 5)).1 (isort_c m n D heldR w hD (by unfold maxLen; omega) (by omega))).mono ?_
  rintro e w' ⟨v, ss, rfl, hp, hrow, hnil, hb⟩
  obtain ⟨hnd, hmem, hlen⟩ := ikeys_of hD hhas hp
  have hA := below_alloc w (.cells #[.map (some m)] 98)
  have hin : ∀ x : Int, x ∈ ss ↔ ∃ y ∈ S, x = (y : Nat) := fun x => by
    rw [hmem]
    constructor
    · intro hx
      obtain ⟨v, hv⟩ := Option.isSome_iff_exists.1 hx
      obtain ⟨y, hy, e⟩ := h3 _ v hv
      exact ⟨y, hy, show x = (y : Nat) from congrArg Go.intOf e⟩
    · rintro ⟨y, hy, rfl⟩
      rw [h2, if_pos hy]; rfl
  have hpm : (ss.mergeSort (fun x y => decide (x ≤ y))).Perm ss := List.mergeSort_perm _ _
  have htn : ∀ x ∈ ss.mergeSort (fun x y => decide (x ≤ y)), ((x.toNat : Nat) : Int) = x := fun x hx => by
    obtain ⟨y, _, rfl⟩ := (hin x).1 (hpm.mem_iff.1 hx)
    simp
  have hpw : (ss.mergeSort (fun x y => decide (x ≤ y))).Pairwise (fun a b => a ≤ b) := by
    refine (List.pairwise_mergeSort (le := fun x y : Int => decide (x ≤ y)) (fun a b c h1 h2 => ?_) (fun a b => ?_) ss).imp (fun {a b} h => by simpa using h)
    · simp only [decide_eq_true_eq] at *; omega
    · simp only [Bool.or_eq_true, decide_eq_true_eq]; omega
  refine ⟨v, (ss.mergeSort (fun x y => decide (x ≤ y))).map Int.toNat, rfl, ⟨?_, ?_⟩, ?_, ?_, hA.trans (hb.mono hA.size)⟩
  · rw [List.length_map, List.length_mergeSort]
    rcases hrow.2 with ⟨rfl, hz⟩ | ⟨gb, cap, cur, rfl, _⟩
    · exact ⟨none, 0, by rw [hz]⟩
    · exact ⟨_, cap, rfl⟩
  · rw [List.length_map, List.length_mergeSort]
    have e : intV ((ss.mergeSort (fun x y => decide (x ≤ y))).map Int.toNat) = (ss.mergeSort (fun x y => decide (x ≤ y))).map encZ := by
      unfold intV
      rw [List.map_map]
      refine List.map_congr_left fun x hx => ?_
      show Value.int .i64 ((x.toNat : Nat) : Int) = Value.int .i64 x
      rw [htn x hx]
    rw [e]
    exact ownsRow_base_a hrow (by simp)
  · refine List.pairwise_map.2 ?_
    have hnd2 : (ss.mergeSort (fun x y => decide (x ≤ y))).Nodup := hpm.nodup_iff.2 hnd
    refine (hpw.and hnd2).imp_of_mem fun {a b} ha hb2 hab => ?_
    have h1 := htn a ha
    have h2 := htn b hb2
    have h3 := hab.2
    have h4 := hab.1
    omega
  · intro x
    rw [List.mem_map]
    constructor
    · rintro ⟨y, hy, rfl⟩
      obtain ⟨z, hz, rfl⟩ := (hin y).1 (hpm.mem_iff.1 hy)
      simpa using hz
    · intro hx
      exact ⟨(x : Int), hpm.mem_iff.2 ((hin _).2 ⟨x, hx, rfl⟩), by simp⟩
end
end Go.Proofs.Ytbflodefmookiaa.Gr
