/-
  THE DOCUMENT's FOLD, BY INSERTION: plain lists.
-/
import Derived.Test.YtdijpoemimebmaaPartM
namespace Go.Proofs.Ytdijpoemimebmaa.Rn
open Go.RowKit
open Go.Proofs.Ytdijpoemimebmaa.Cr

theorem fo_nil : Fo [] [] := ⟨by simp, by simp, by simp, by simp⟩

theorem fo_set {L H : List Run} {r y : Run} {k : Nat} (h : Fo L H) (hy : H[k]? = some y) (he : nmOf y = nmOf r) : Fo (L ++ [r]) (H.set k r) := by
  have hk : k < H.length := (List.getElem?_eq_some_iff.1 hy).1
  have hm : (H.set k r).map nmOf = H.map nmOf := by
    apply List.ext_getElem?
    intro i
    rw [List.getElem?_map, List.getElem?_map, List.getElem?_set]
    by_cases e : k = i
    · subst e; rw [if_pos rfl, if_pos hk, hy]; simp [he]
    · rw [if_neg e]
  refine ⟨by rw [hm]; exact h.nodup, by rw [hm]; exact h.sorted, fun n => ?_, fun x hx => ?_⟩
  · rw [hm, h.mem]
    constructor
    · rintro ⟨x, hx, hn⟩; exact ⟨x, by simp [hx], hn⟩
    · rintro ⟨x, hx, hn⟩
      rcases List.mem_append.1 hx with hx | hx
      · exact ⟨x, hx, hn⟩
      · rw [List.mem_singleton.1 hx] at hn
        exact (h.mem n).1 (List.mem_map.2 ⟨y, List.mem_of_getElem? hy, he.trans hn⟩)
  · obtain ⟨i, hi⟩ := List.mem_iff_getElem?.1 hx
    rw [List.getElem?_set] at hi
    by_cases e : k = i
    · rw [if_pos e, if_pos hk] at hi
      obtain rfl : r = x := by simpa using hi
      exact last_snoc L r
    · rw [if_neg e] at hi
      have hxm := List.mem_of_getElem? hi
      have hne : nmOf r ≠ nmOf x := fun e2 => by
        have h1 : (H.map nmOf)[k]? = some (nmOf x) := by rw [List.getElem?_map, hy]; simp [he, e2]
        have h2 : (H.map nmOf)[i]? = some (nmOf x) := by rw [List.getElem?_map, hi]; rfl
        have hik : i < H.length := (List.getElem?_eq_some_iff.1 hi).1
        obtain ⟨p1, q1⟩ := List.getElem?_eq_some_iff.1 h1
        obtain ⟨p2, q2⟩ := List.getElem?_eq_some_iff.1 h2
        have nd := List.pairwise_iff_getElem.1 h.nodup
        rcases Nat.lt_or_gt_of_ne e with hl | hl
        · exact nd k i p1 p2 hl (q1.trans q2.symm)
        · exact nd i k p2 p1 hl (q2.trans q1.symm)
      rw [lastOf_snoc, if_neg hne]
      exact h.last x hxm

theorem fo_ins {L H : List Run} {r : Run} {k : Nat} (h : Fo L H) (hlo : ∀ x ∈ H.take k, nmOf x < nmOf r) (hhi : ∀ x ∈ H.drop k, nmOf r < nmOf x) : Fo (L ++ [r]) (H.take k ++ r :: H.drop k) := by
  have hp : (H.take k ++ r :: H.drop k).Perm (r :: H) := by
    refine List.perm_middle.trans ?_
    rw [List.take_append_drop]
  have hne : ∀ x ∈ H, nmOf x ≠ nmOf r := fun x hx e => by
    rw [← List.take_append_drop k H] at hx
    rcases List.mem_append.1 hx with hx | hx
    · have := hlo x hx; rw [e] at this; exact List.lt_irrefl _ this
    · have := hhi x hx; rw [e] at this; exact List.lt_irrefl _ this
  refine ⟨?_, ?_, fun n => ?_, fun x hx => ?_⟩
  · rw [(hp.map nmOf).nodup_iff, List.map_cons, List.nodup_cons]
    refine ⟨fun hm => ?_, h.nodup⟩
    obtain ⟨x, hx, e⟩ := List.mem_map.1 hm
    exact hne x hx e
  · have hs := h.sorted
    rw [← List.take_append_drop k H, List.map_append, List.pairwise_append] at hs
    obtain ⟨s1, s2, s3⟩ := hs
    rw [List.map_append, List.map_cons, List.pairwise_append, List.pairwise_cons]
    refine ⟨s1, ⟨fun y hy => ?_, s2⟩, fun a ha b hb => ?_⟩
    · obtain ⟨x, hx, rfl⟩ := List.mem_map.1 hy
      exact List.le_of_lt (hhi x hx)
    · rcases List.mem_cons.1 hb with rfl | hb
      · obtain ⟨x, hx, rfl⟩ := List.mem_map.1 ha
        exact List.le_of_lt (hlo x hx)
      · exact s3 a ha b hb
  · rw [(hp.map nmOf).mem_iff, List.map_cons, List.mem_cons, h.mem]
    constructor
    · rintro (rfl | ⟨x, hx, hn⟩)
      · exact ⟨r, by simp, rfl⟩
      · exact ⟨x, by simp [hx], hn⟩
    · rintro ⟨x, hx, hn⟩
      rcases List.mem_append.1 hx with hx | hx
      · exact .inr ⟨x, hx, hn⟩
      · rw [List.mem_singleton.1 hx] at hn
        exact .inl hn.symm
  · rcases List.mem_cons.1 (hp.mem_iff.1 hx) with rfl | hx
    · exact last_snoc L x
    · rw [lastOf_snoc, if_neg fun e => hne x hx e.symm]
      exact h.last x hx

/-- where the search for a place ends: all behind it are later -/
theorem fo_hi {L H : List Run} {y : Run} {k : Nat} {nm : Bs} (h : Fo L H) (hy : H[k]? = some y) (hle : ¬ nmOf y < nm) (hne : nmOf y ≠ nm) : ∀ x ∈ H.drop k, nm < nmOf x := by
  intro x hx
  have hlt : nm < nmOf y := by
    rcases Classical.em (nm < nmOf y) with h1 | h1
    · exact h1
    · exact absurd (List.le_antisymm (List.not_lt.1 h1) (List.not_lt.1 hle)) hne
  obtain ⟨i, hi⟩ := List.mem_iff_getElem?.1 hx
  rw [List.getElem?_drop] at hi
  rcases Nat.eq_zero_or_pos i with rfl | hp
  · rw [Nat.add_zero, hy] at hi
    cases hi
    exact hlt
  · have h1 : (H.map nmOf)[k]? = some (nmOf y) := by rw [List.getElem?_map, hy]; rfl
    have h2 : (H.map nmOf)[k + i]? = some (nmOf x) := by rw [List.getElem?_map, hi]; rfl
    obtain ⟨p1, q1⟩ := List.getElem?_eq_some_iff.1 h1
    obtain ⟨p2, q2⟩ := List.getElem?_eq_some_iff.1 h2
    have s := List.pairwise_iff_getElem.1 h.sorted k (k + i) p1 p2 (by omega)
    rw [q1, q2] at s
    rcases Classical.em (nm < nmOf x) with h3 | h3
    · exact h3
    · exact absurd (List.lt_of_le_of_lt (List.not_lt.1 h3) hlt) (List.not_lt.2 s)

theorem fo_lo {H : List Run} {nm : Bs} {k : Nat} {y : Run} (h : ∀ x ∈ H.take k, nmOf x < nm) (hy : H[k]? = some y) (hlt : nmOf y < nm) : ∀ x ∈ H.take (k + 1), nmOf x < nm := by
  intro x hx
  rw [List.take_add_one, hy] at hx
  rcases List.mem_append.1 hx with hx | hx
  · exact h x hx
  · have : x = y := by simpa using hx
    rw [this]; exact hlt

/-- all of a fold were there -/
theorem fo_sub {L H : List Run} (h : Fo L H) : ∀ x ∈ H, x ∈ L := fun x hx => (lastOf_mem (h.last x hx)).1
end Go.Proofs.Ytdijpoemimebmaa.Rn
