/-
  OF EACH OUTPUT THE LAST RUN COUNTS: plain lists.
-/
import Derived.Test.YtdijpoemimebmaaFdFold
namespace Go.Proofs.Ytdijpoemimebmaa.Rn
open Go.RowKit
open Go.Proofs.Ytdijpoemimebmaa.Cr

def nmOf (x : Run) : Bs := bsOf x.out
def lastOf (L : List Run) (n : Bs) : Option Run := (lx L L.length n).bind fun i => L[i]?

theorem lx_isSome (L : List Run) (nm : Bs) : ∀ j, j ≤ L.length → ((lx L j nm).isSome = true ↔ ∃ x ∈ L.take j, nmOf x = nm) := by
  intro j
  induction j with
  | zero => intro _; simp [lx]
  | succ j ih =>
    intro hj
    have hx := List.getElem?_eq_getElem (show j < L.length by omega)
    generalize L[j] = x at hx
    have h := ih (by omega)
    rw [lx_next hx, List.take_add_one, hx]
    by_cases e : nm = bsOf x.out
    · rw [e, upd_same]
      simp
      exact .inr rfl
    · rw [upd_other _ _ e, h]
      constructor
      · rintro ⟨y, hy, h⟩
        exact ⟨y, by simp [hy], h⟩
      · rintro ⟨y, hy, h⟩
        have hy' : y ∈ L.take j ∨ y = x := by simpa using hy
        rcases hy' with hy' | rfl
        · exact ⟨y, hy', h⟩
        · exact absurd h.symm e

theorem lastOf_some {L : List Run} {n : Bs} (h : ∃ x ∈ L, nmOf x = n) : ∃ x, lastOf L n = some x ∧ nmOf x = n := by
  have h1 := (lx_isSome L n L.length (Nat.le_refl _)).2 (by rw [List.take_length]; exact h)
  obtain ⟨i, hi⟩ := Option.isSome_iff_exists.1 h1
  obtain ⟨_, x, hx, hn⟩ := lx_spec hi
  exact ⟨x, by unfold lastOf; rw [hi]; exact hx, hn⟩

theorem fm_list {F : Bs → Option Run} : ∀ NS : List Bs, (∀ n ∈ NS, ∃ x, F n = some x ∧ nmOf x = n) → (NS.filterMap F).map nmOf = NS ∧ ∀ x ∈ NS.filterMap F, F (nmOf x) = some x
  | [], _ => ⟨rfl, by simp⟩
  | n :: NS, h => by
    obtain ⟨x, hx, hn⟩ := h n (by simp)
    obtain ⟨h1, h2⟩ := fm_list NS fun m hm => h m (by simp [hm])
    rw [List.filterMap_cons, hx]
    refine ⟨by simp [h1, hn], fun y hy => ?_⟩
    rcases List.mem_cons.1 hy with rfl | hy
    · rw [hn]; exact hx
    · exact h2 y hy

/-- a fold: its names, each once, and each one's last run -/
structure Fo (L H : List Run) : Prop where
  nodup : (H.map nmOf).Nodup
  sorted : (H.map nmOf).Pairwise (fun x y => x ≤ y)
  mem : ∀ n, n ∈ H.map nmOf ↔ ∃ x ∈ L, nmOf x = n
  last : ∀ x ∈ H, lastOf L (nmOf x) = some x

theorem fo_of {L : List Run} {NS : List Bs} {H : List Run} (h1 : NS.Nodup) (h2 : NS.Pairwise (fun x y => x ≤ y)) (h3 : ∀ x, x ∈ NS ↔ (lx L L.length x).isSome = true) (h4 : H = NS.filterMap (lastOf L)) : Fo L H := by
  have h3' : ∀ x, x ∈ NS ↔ ∃ y ∈ L, nmOf y = x := fun x => by
    rw [h3, lx_isSome L x L.length (Nat.le_refl _), List.take_length]
  obtain ⟨e1, e2⟩ := fm_list NS fun n hn => lastOf_some ((h3' n).1 hn)
  rw [← h4] at e1 e2
  refine ⟨by rw [e1]; exact h1, by rw [e1]; exact h2, fun n => by rw [e1]; exact h3' n, e2⟩

theorem fo_len {L : List Run} {r : Run} {H1 H2 : List Run} (h1 : Fo L H1) (h2 : Fo (L ++ [r]) H2) : H2.length = H1.length + (if L.any (fun x => decide (nmOf x = nmOf r)) then 0 else 1) := by
  have e1 : H1.length = (H1.map nmOf).length := by simp
  have e2 : H2.length = (H2.map nmOf).length := by simp
  rw [e1, e2]
  split
  · rename_i hm
    rw [List.any_eq_true] at hm
    obtain ⟨y, hy, he⟩ := hm
    have he : nmOf y = nmOf r := by simpa using he
    refine List.Perm.length_eq ((List.perm_ext_iff_of_nodup h2.nodup h1.nodup).2 fun n => ?_)
    rw [h1.mem, h2.mem]
    constructor
    · rintro ⟨x, hx, hn⟩
      rcases List.mem_append.1 hx with hx | hx
      · exact ⟨x, hx, hn⟩
      · rw [List.mem_singleton.1 hx] at hn
        exact ⟨y, hy, he.trans hn⟩
    · rintro ⟨x, hx, hn⟩
      exact ⟨x, by simp [hx], hn⟩
  · rename_i hm
    have hm' : ∀ x ∈ L, nmOf x ≠ nmOf r := fun x hx e => hm (by rw [List.any_eq_true]; exact ⟨x, hx, by simpa using e⟩)
    have hnd : (nmOf r :: H1.map nmOf).Nodup := by
      rw [List.nodup_cons]
      refine ⟨fun h => ?_, h1.nodup⟩
      obtain ⟨x, hx, hn⟩ := (h1.mem _).1 h
      exact hm' x hx hn
    rw [show (H1.map nmOf).length + 1 = (nmOf r :: H1.map nmOf).length by simp]
    refine List.Perm.length_eq ((List.perm_ext_iff_of_nodup h2.nodup hnd).2 fun n => ?_)
    rw [h2.mem, List.mem_cons, h1.mem]
    constructor
    · rintro ⟨x, hx, hn⟩
      rcases List.mem_append.1 hx with hx | hx
      · exact .inr ⟨x, hx, hn⟩
      · rw [List.mem_singleton.1 hx] at hn
        exact .inl hn.symm
    · rintro (rfl | ⟨x, hx, hn⟩)
      · exact ⟨r, by simp, rfl⟩
      · exact ⟨x, by simp [hx], hn⟩

theorem last_snoc (L : List Run) (r : Run) : lastOf (L ++ [r]) (nmOf r) = some r := by
  have hx : (L ++ [r])[L.length]? = some r := by simp
  unfold lastOf
  rw [show (L ++ [r]).length = L.length + 1 by simp, lx_next hx]
  show Option.bind (upd (lx (L ++ [r]) L.length) (bsOf r.out) (some L.length) (bsOf r.out)) (fun i => (L ++ [r])[i]?) = some r
  rw [upd_same]
  exact hx

theorem fo_same {L : List Run} {r x : Run} {H : List Run} (h : Fo (L ++ [r]) H) (hx : x ∈ H) (he : x.out = r.out) : x = r := by
  have h1 := h.last x hx
  have e : nmOf x = nmOf r := by unfold nmOf; rw [he]
  rw [e, last_snoc] at h1
  exact (Option.some.inj h1).symm

def cnt (r : Run) (H : List Run) : Nat := (H.map nmOf).count (nmOf r)

theorem cnt_next {r x : Run} {H : List Run} {j : Nat} (hx : H[j]? = some x) : cnt r (H.take (j + 1)) = cnt r (H.take j) + (if x.out = r.out then 1 else 0) := by
  unfold cnt
  rw [List.take_add_one, hx]
  simp only [Option.toList_some, List.map_append, List.map_cons, List.map_nil, List.count_append, List.count_singleton]
  by_cases e : x.out = r.out
  · simp [nmOf, e]
  · have : ¬ bsOf x.out = bsOf r.out := fun h => e (bsOf_inj h)
    simp [nmOf, e, this]

theorem cnt_all {L : List Run} {r : Run} {H : List Run} (h : Fo (L ++ [r]) H) : cnt r H = 1 := by
  have hm : nmOf r ∈ H.map nmOf := (h.mem _).2 ⟨r, by simp, rfl⟩
  unfold cnt
  have h1 : (H.map nmOf).count (nmOf r) ≤ 1 := List.nodup_iff_count.1 h.nodup _
  have h2 := List.count_pos_iff.2 hm
  omega

theorem cnt_le (r : Run) (H : List Run) : cnt r H ≤ H.length := by
  unfold cnt
  have := List.count_le_length (l := H.map nmOf) (a := nmOf r)
  simpa using this
theorem sub_len {α : Type} [DecidableEq α] : ∀ (a b : List α), a.Nodup → (∀ x ∈ a, x ∈ b) → a.length ≤ b.length
  | [], _, _, _ => by simp
  | x :: a, b, h, hs => by
    rw [List.nodup_cons] at h
    have hx : x ∈ b := hs x (by simp)
    have ih := sub_len a (b.erase x) h.2 fun y hy => (List.mem_erase_of_ne (fun e => h.1 (by rw [← e]; exact hy))).2 (hs y (by simp [hy]))
    have := List.length_erase_of_mem hx
    have hp : 0 < b.length := List.length_pos_of_mem hx
    simp only [List.length_cons]
    omega
theorem fo_le {L H : List Run} (h : Fo L H) : H.length ≤ L.length := by
  have := sub_len (H.map nmOf) (L.map nmOf) h.nodup fun n hn => by
    obtain ⟨x, hx, e⟩ := (h.mem n).1 hn
    exact List.mem_map.2 ⟨x, hx, e⟩
  simpa using this
end Go.Proofs.Ytdijpoemimebmaa.Rn
