/-
  A FOLD, AND WHAT FOLLOWS IT, IS FOLDED TO THE FOLD OF ALL: plain lists.
-/
import Derived.Test.YtdijpoemimebmaaLastM
namespace Go.Proofs.Ytdijpoemimebmaa.Rn
open Go.RowKit
open Go.Proofs.Ytdijpoemimebmaa.Cr

theorem lx_pre (L M : List Run) : ∀ j, j ≤ L.length → lx (L ++ M) j = lx L j := by
  intro j
  induction j with
  | zero => intro _; rfl
  | succ j ih =>
    intro hj
    have h1 : (L ++ M)[j]? = L[j]? := List.getElem?_append_left (by omega)
    have hx := List.getElem?_eq_getElem (show j < L.length by omega)
    rw [hx] at h1
    rw [lx_next h1, lx_next hx, ih (by omega)]

theorem lastOf_snoc (L : List Run) (r : Run) (n : Bs) : lastOf (L ++ [r]) n = if nmOf r = n then some r else lastOf L n := by
  by_cases e : nmOf r = n
  · rw [if_pos e, ← e]
    exact last_snoc L r
  · rw [if_neg e]
    have hx : (L ++ [r])[L.length]? = some r := by simp
    unfold lastOf
    rw [show (L ++ [r]).length = L.length + 1 by simp, lx_next hx, upd_other _ _ (show n ≠ bsOf r.out from fun h => e h.symm), lx_pre L [r] L.length (Nat.le_refl _)]
    cases h : lx L L.length n with
    | none => rfl
    | some i =>
      have hi := (lx_spec h).1
      show (L ++ [r])[i]? = L[i]?
      exact List.getElem?_append_left hi

theorem lastOf_app (A : List Run) (n : Bs) (B : List Run) : lastOf (A ++ B) n = (lastOf B n).or (lastOf A n) := by
  induction B using snoc_ind with
  | h0 => rw [List.append_nil]; rfl
  | hs B r ih =>
    rw [← List.append_assoc, lastOf_snoc, lastOf_snoc, ih]
    by_cases e : nmOf r = n
    · rw [if_pos e, if_pos e]; rfl
    · rw [if_neg e, if_neg e]

theorem lastOf_isSome (L : List Run) (n : Bs) : (lastOf L n).isSome = true ↔ ∃ x ∈ L, nmOf x = n := by
  constructor
  · intro h
    have : (lx L L.length n).isSome = true := by
      unfold lastOf at h
      cases e : lx L L.length n with
      | none => rw [e] at h; simp at h
      | some i => rfl
    have := (lx_isSome L n L.length (Nat.le_refl _)).1 this
    rwa [List.take_length] at this
  · intro h
    obtain ⟨x, hx, _⟩ := lastOf_some h
    rw [hx]; rfl

theorem lastOf_mem {L : List Run} {n : Bs} {x : Run} (h : lastOf L n = some x) : x ∈ L ∧ nmOf x = n := by
  unfold lastOf at h
  cases e : lx L L.length n with
  | none => rw [e] at h; simp at h
  | some i =>
    rw [e] at h
    have h' : L[i]? = some x := h
    obtain ⟨_, y, hy, hn⟩ := lx_spec e
    rw [h'] at hy
    cases hy
    exact ⟨List.mem_of_getElem? h', hn⟩

/-- a fold tells of each name what all told -/
theorem fo_last {L H : List Run} (h : Fo L H) (n : Bs) : lastOf H n = lastOf L n := by
  cases e : lastOf H n with
  | some x =>
    obtain ⟨hx, hn⟩ := lastOf_mem e
    rw [← hn]
    exact (h.last x hx).symm
  | none =>
    cases e2 : lastOf L n with
    | none => rfl
    | some y =>
      exfalso
      obtain ⟨hy, hn⟩ := lastOf_mem e2
      have hm : n ∈ H.map nmOf := (h.mem n).2 ⟨y, hy, hn⟩
      obtain ⟨z, hz, hzn⟩ := List.mem_map.1 hm
      have := (lastOf_isSome H n).2 ⟨z, hz, hzn⟩
      rw [e] at this
      cases this

theorem sorted_eq : ∀ {a b : List Bs}, a.Nodup → b.Nodup → a.Pairwise (fun x y => x ≤ y) → b.Pairwise (fun x y => x ≤ y) → (∀ x, x ∈ a ↔ x ∈ b) → a = b
  | [], [], _, _, _, _, _ => rfl
  | [], y :: b, _, _, _, _, h => by have := (h y).2 (by simp); simp at this
  | x :: a, [], _, _, _, _, h => by have := (h x).1 (by simp); simp at this
  | x :: a, y :: b, ha, hb, sa, sb, h => by
    rw [List.nodup_cons] at ha hb
    rw [List.pairwise_cons] at sa sb
    have hxy : x = y := by
      rcases List.mem_cons.1 ((h x).1 (by simp)) with e | hx
      · exact e
      · rcases List.mem_cons.1 ((h y).2 (by simp)) with e | hy
        · exact e.symm
        · exact List.le_antisymm (sa.1 y hy) (sb.1 x hx)
    subst hxy
    rw [sorted_eq ha.2 hb.2 sa.2 sb.2 fun z => ?_]
    constructor
    · intro hz
      rcases List.mem_cons.1 ((h z).1 (by simp [hz])) with e | hz'
      · exact absurd (e ▸ hz) ha.1
      · exact hz'
    · intro hz
      rcases List.mem_cons.1 ((h z).2 (by simp [hz])) with e | hz'
      · exact absurd (e ▸ hz) hb.1
      · exact hz'

theorem fo_eq {L M A B : List Run} (ha : Fo L A) (hb : Fo M B) (h : ∀ n, lastOf L n = lastOf M n) : A = B := by
  have hn : A.map nmOf = B.map nmOf := sorted_eq ha.nodup hb.nodup ha.sorted hb.sorted fun n => by
    rw [ha.mem, hb.mem, ← lastOf_isSome, ← lastOf_isSome, h]
  have e1 : A.map some = (A.map nmOf).map (lastOf L) := by
    rw [List.map_map]
    exact List.map_congr_left fun x hx => (ha.last x hx).symm
  have e2 : B.map some = (B.map nmOf).map (lastOf M) := by
    rw [List.map_map]
    exact List.map_congr_left fun x hx => (hb.last x hx).symm
  have e3 : A.map some = B.map some := by
    rw [e1, e2, hn]
    exact List.map_congr_left fun n _ => h n
  exact List.map_inj_right (fun _ _ e => Option.some.inj e) |>.1 e3

theorem parts_eq {L W P A : List Run} {k : Nat} (hw : Fo L W) (hp : Fo (L.take k) P) (ha : Fo (P ++ L.drop k) A) : A = W :=
  fo_eq ha hw fun n => by
    rw [lastOf_app, fo_last hp n]
    conv => rhs; rw [← List.take_append_drop k L, lastOf_app]

/-- in a fold each name is less than the next one -/
theorem fo_rises {L H : List Run} (h : Fo L H) {i : Nat} {x y : Run} (hx : H[i]? = some x) (hy : H[i + 1]? = some y) : ¬ nmOf y ≤ nmOf x := by
  intro hle
  have hx' : (H.map nmOf)[i]? = some (nmOf x) := by rw [List.getElem?_map, hx]; rfl
  have hy' : (H.map nmOf)[i + 1]? = some (nmOf y) := by rw [List.getElem?_map, hy]; rfl
  obtain ⟨h1, e1⟩ := List.getElem?_eq_some_iff.1 hx'
  obtain ⟨h2, e2⟩ := List.getElem?_eq_some_iff.1 hy'
  have s := List.pairwise_iff_getElem.1 h.sorted i (i + 1) h1 h2 (by omega)
  have nd := List.pairwise_iff_getElem.1 h.nodup i (i + 1) h1 h2 (by omega)
  rw [e1, e2] at s nd
  exact nd (List.le_antisymm s hle)
end Go.Proofs.Ytdijpoemimebmaa.Rn
