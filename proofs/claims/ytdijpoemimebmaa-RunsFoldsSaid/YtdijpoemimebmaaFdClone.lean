/-
  COPIES: of a text, of inputs, of times.
-/
import Derived.Test.YtdijpoemimebmaaFdShelf
import Derived.Test.YtdijpoemimebmaaRnOf
namespace Go.Proofs.Ytdijpoemimebmaa.Rn
open Go.RowKit
open Go.Proofs.Ytdijpoemimebmaa.Cr

theorem cloneS_c (s : ByteArray) (w : World) (h : s.size ≤ 1000000) : Calls Try.prog 74 #[.string s] w fun e w' => e = .returned (.string s) ∧ Below w.heap.size w w' := by
  have hc := shstringsliteClone s w (by omega)
  go_enter Try.func74, Try.ntmps74
  go_wp2_with fail
  refine hc.mono ?_
  rintro e w1 ⟨rfl, hb⟩
  clear hc
  go_wp2_with fail
  go_ret
  exact ⟨rfl, hb⟩

theorem inV_inv (L : List In) : ∀ (j : Nat) (u : Value), (inV L)[j]? = some u → ∃ x, L[j / 2]? = some x ∧ ((j % 2 = 0 ∧ u = .string x.name) ∨ (j % 2 = 1 ∧ u = .int .i64 x.time)) := by
  induction L with
  | nil => intro j u hj; simp [inV] at hj
  | cons z M ih =>
    intro j u hj
    have e : inV (z :: M) = [.string z.name, .int .i64 z.time] ++ inV M := by simp [inV]
    rw [e] at hj
    match j, hj with
    | 0, hj => exact ⟨z, rfl, .inl ⟨rfl, by simpa using hj.symm⟩⟩
    | 1, hj => exact ⟨z, rfl, .inr ⟨rfl, by simpa using hj.symm⟩⟩
    | j + 2, hj =>
      have hj' : (inV M)[j]? = some u := by simpa using hj
      obtain ⟨x, hx, h⟩ := ih j u hj'
      refine ⟨x, ?_, ?_⟩
      · rw [show (j + 2) / 2 = j / 2 + 1 by omega]; simpa using hx
      · rw [show (j + 2) % 2 = j % 2 by omega]; exact h

theorem inV_length (L : List In) : (inV L).length = L.length * 2 := by
  induction L with
  | nil => rfl
  | cons z M ih =>
    have e : inV (z :: M) = [.string z.name, .int .i64 z.time] ++ inV M := by simp [inV]
    rw [e, List.length_append, ih]
    simp
    omega

theorem inV_one (L : List In) : ∀ u ∈ inV L, u.oneCell' = true := fun u hu => by
  unfold inV at hu
  obtain ⟨x, _, h⟩ := List.mem_flatMap.1 hu
  simp at h
  rcases h with rfl | rfl <;> rfl

theorem inV_cells {w : World} {ad : Addr} {n c : Nat} {L : List In} (h : InRow w (.slice (some ad) n c) L) : ∀ j u, (inV L)[j]? = some u → w.cell? (ad.add j) = some u := fun j u hu => by
  obtain ⟨a, c', e, _, _, hr⟩ := h
  cases e
  rcases hr with rfl | ⟨b, off, e2, _, hc⟩
  · simp [inV] at hu
  · cases e2
    rw [Go.WideShapes.add_plain]
    obtain ⟨x, hx, h | h⟩ := inV_inv L j u hu
    · have h1 := h.1
      have := (hc _ x hx).1
      rw [h.2, show off + j = off + j / 2 * 2 by omega]
      exact this
    · have h1 := h.1
      have := (hc _ x hx).2
      rw [h.2, show off + j = off + j / 2 * 2 + 1 by omega]
      exact this

theorem tV_cells {w : World} {ad : Addr} {n c : Nat} {L : List Int} (h : FdRow w (.slice (some ad) n c) L) : ∀ j u, (tV L)[j]? = some u → w.cell? (ad.add j) = some u := fun j u hu => by
  obtain ⟨a, c', e, _, _, hr⟩ := h
  cases e
  rcases hr with rfl | ⟨b, off, e2, _, hc⟩
  · simp [tV] at hu
  · cases e2
    unfold tV at hu
    rw [List.getElem?_map] at hu
    obtain ⟨t, ht, rfl⟩ := Option.map_eq_some_iff.1 hu
    rw [Go.WideShapes.add_plain]
    exact hc j t ht

theorem tV_one (L : List Int) : ∀ u ∈ tV L, u.oneCell' = true := fun u hu => by
  unfold tV at hu
  obtain ⟨t, _, rfl⟩ := List.mem_map.1 hu
  rfl

theorem nilI_yes (w : World) : Sem.run Try.prog (binOp BinOp.eql 31 (.slice Option.none 0 0) (.slice Option.none 0 0)) w = .ok (.bool true) w := by kernel_rfl
theorem nilI_no (w : World) (ad : Addr) (n c : Nat) : Sem.run Try.prog (binOp BinOp.eql 31 (.slice (some ad) n c) (.slice Option.none 0 0)) w = .ok (.bool false) w := by kernel_rfl
theorem nilF_yes (w : World) : Sem.run Try.prog (binOp BinOp.eql 23 (.slice Option.none 0 0) (.slice Option.none 0 0)) w = .ok (.bool true) w := by kernel_rfl
theorem nilF_no (w : World) (ad : Addr) (n c : Nat) : Sem.run Try.prog (binOp BinOp.eql 23 (.slice (some ad) n c) (.slice Option.none 0 0)) w = .ok (.bool false) w := by kernel_rfl

set_option maxRecDepth 100000 in
set_option maxHeartbeats 2000000 in
theorem cloneI_c {w : World} {L : List In} {vi : Value} (hL : L.length ≤ 100000) (hi : InRow w vi L) :
    Calls Try.prog 75 #[vi] w fun e w' => ∃ a k, e = .returned (.slice a L.length k) ∧ w'.ownsRow w.heap.size 59 2 (.slice a L.length k) L.length (inV L) ∧ Below w.heap.size w w' := by
  have hi' := hi
  obtain ⟨a, c, rfl, hnil, hle, hrow⟩ := hi
  cases a with
  | none =>
    obtain rfl : c = 0 := hnil rfl
    obtain rfl : L = [] := List.eq_nil_of_length_eq_zero (by omega)
    have hq := nilI_yes w
    clear hi' hrow hnil hle
    go_enter Try.func75, Try.ntmps75
    go_wp2_with fail
    go_ret
    exact ⟨_, _, rfl, World.ownsRow_nil _ _ _ _, Below.refl _ _⟩
  | some ad =>
    obtain ⟨W0, hW0⟩ : ∃ W, w.alloc (.cells #[] 59) = W := ⟨_, rfl⟩
    have hB0 : Below w.heap.size w W0 := by rw [← hW0]; exact Pk.below_alloc _ _
    have ho0 : W0.ownsRow w.heap.size 59 2 (.slice (some ⟨w.heap.size, 0, Option.none⟩) 0 0) 0 [] := by rw [← hW0]; exact World.ownsRow_made w #[] 0 (Nat.le_refl _) (by unfold maxLen; omega) rfl
    have hcs := inV_cells (hi'.below hB0)
    obtain ⟨i0, hti, hz0, hz1, hz2⟩ := info_parts Oq.infoD
    have hml : 0 + L.length ≤ maxLen := by unfold maxLen; omega
    have hby : (0 + L.length) * 24 ≤ 140737488355328 := by omega
    have hbs := hB0.size
    have HB0 := Lib.hid hB0
    have HCS := Lib.hid hcs
    have hq := nilI_no w ad L.length c
    clear hi' hrow hnil hcs hB0
    go_enter Try.func75, Try.ntmps75
    go_wp2_with (at_builtin; refine wpList_append_own _ rfl (.tmp 5) (.tmp 6) 31 rfl w.heap.size 59 i0 (.agg #[.string ⟨#[]⟩, .int .i64 0]) 2 24 Try.underlying31 hti hz0 hz1 hz2 rfl (by decide) (.slice (some ⟨w.heap.size, 0, Option.none⟩) 0 0) 0 [] rfl ho0 ad L.length c (inV L) rfl (inV_length L) HCS.out (inV_one L) hml hby hbs ?_; intro v9 w9 hown9 hg9 _; rw [Nat.zero_add, List.nil_append] at hown9; obtain ⟨va, vc, rfl⟩ := own_slice hown9; have HO9 := Lib.hid hown9; have HB9 := Lib.hid (HB0.out.trans (Below.grown (Below.refl w.heap.size W0) hg9 hbs (fun k hk => (ho0.lt k hk).1))); clear hown9 hg9 ho0 hW0)
    go_ret
    exact ⟨_, _, rfl, HO9.out, HB9.out⟩

set_option maxRecDepth 100000 in
set_option maxHeartbeats 2000000 in
theorem cloneF_c {w : World} {L : List Int} {vi : Value} (hL : L.length ≤ 100000) (hi : FdRow w vi L) :
    Calls Try.prog 76 #[vi] w fun e w' => ∃ a k, e = .returned (.slice a L.length k) ∧ w'.ownsRow w.heap.size 3 1 (.slice a L.length k) L.length (tV L) ∧ Below w.heap.size w w' := by
  have hi' := hi
  obtain ⟨a, c, rfl, hnil, hle, hrow⟩ := hi
  cases a with
  | none =>
    obtain rfl : c = 0 := hnil rfl
    obtain rfl : L = [] := List.eq_nil_of_length_eq_zero (by omega)
    have hq := nilF_yes w
    clear hi' hrow hnil hle
    go_enter Try.func76, Try.ntmps76
    go_wp2_with fail
    go_ret
    exact ⟨_, _, rfl, World.ownsRow_nil _ _ _ _, Below.refl _ _⟩
  | some ad =>
    obtain ⟨W0, hW0⟩ : ∃ W, w.alloc (.cells #[] 3) = W := ⟨_, rfl⟩
    have hB0 : Below w.heap.size w W0 := by rw [← hW0]; exact Pk.below_alloc _ _
    have ho0 : W0.ownsRow w.heap.size 3 1 (.slice (some ⟨w.heap.size, 0, Option.none⟩) 0 0) 0 [] := by rw [← hW0]; exact World.ownsRow_made w #[] 0 (Nat.le_refl _) (by unfold maxLen; omega) rfl
    have hcs := tV_cells (hi'.below hB0)
    obtain ⟨i0, hti, hz0, hz1, hz2⟩ := info_parts info3
    have hml : 0 + L.length ≤ maxLen := by unfold maxLen; omega
    have hby : (0 + L.length) * 8 ≤ 140737488355328 := by omega
    have hlt : (tV L).length = L.length * 1 := by rw [tV_length]; omega
    have hbs := hB0.size
    have HB0 := Lib.hid hB0
    have HCS := Lib.hid hcs
    have HLT := Lib.hid hlt
    have hq := nilF_no w ad L.length c
    clear hi' hrow hnil hcs hB0 hlt
    go_enter Try.func76, Try.ntmps76
    go_wp2_with (at_builtin; refine wpList_append_own _ rfl (.tmp 5) (.tmp 6) 23 rfl w.heap.size 3 i0 (.int .i64 0) 1 8 Try.underlying23 hti hz0 hz1 hz2 rfl (by decide) (.slice (some ⟨w.heap.size, 0, Option.none⟩) 0 0) 0 [] rfl ho0 ad L.length c (tV L) rfl HLT.out HCS.out (tV_one L) hml hby hbs ?_; intro v9 w9 hown9 hg9 _; rw [Nat.zero_add, List.nil_append] at hown9; obtain ⟨va, vc, rfl⟩ := own_slice hown9; have HO9 := Lib.hid hown9; have HB9 := Lib.hid (HB0.out.trans (Below.grown (Below.refl w.heap.size W0) hg9 hbs (fun k hk => (ho0.lt k hk).1))); clear hown9 hg9 ho0 hW0)
    go_ret
    exact ⟨_, _, rfl, HO9.out, HB9.out⟩
end Go.Proofs.Ytdijpoemimebmaa.Rn
