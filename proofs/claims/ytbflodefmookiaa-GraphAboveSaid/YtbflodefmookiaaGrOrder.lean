/-
  THE ORDER OF A PLAN: of those that wait for nothing any more the least one is the next. No program, no world.
-/
import Derived.Test.YtbflodefmookiaaGrHeap
namespace Go.Proofs.Ytbflodefmookiaa.Gr

section
variable (deps : Nat → List Nat)
/-- for how many needs a number waits still -/
def left (P : List Nat) (n : Nat) : Nat := ((deps n).filter fun d => !P.contains d).length
def rdyB (P : List Nat) (w : Nat → Nat) (n : Nat) : Bool := !P.contains n && w n == 0
/-- those that are ready -/
def rdy (M P : List Nat) (w : Nat → Nat) : List Nat := M.filter (rdyB P w)
/-- the rest of a plan -/
def grd (M : List Nat) : Nat → List Nat → List Nat
  | 0, P => P
  | k + 1, P => match rdy M P (left deps P) with
    | [] => P
    | n :: _ => grd M k (P ++ [n])
/-- the plan of the numbers M -/
def order (M : List Nat) : List Nat := grd deps M M.length []
/-- who waits for a number, once for each need -/
def usersOf (M : List Nat) (n : Nat) : List Nat := M.flatMap fun u => List.replicate ((deps u).count n) u

variable {deps}
theorem count_users {M : List Nat} (hM : M.Nodup) (n u : Nat) (hu : u ∈ M) : (usersOf deps M n).count u = (deps u).count n := by
  unfold usersOf
  induction M with
  | nil => cases hu
  | cons m M ih =>
    rw [List.flatMap_cons, List.count_append, List.count_replicate]
    have hnd := List.nodup_cons.1 hM
    by_cases e : u = m
    · subst e
      have h0 : List.count u (M.flatMap fun u => List.replicate ((deps u).count n) u) = 0 := by
        rw [List.count_eq_zero]
        intro h
        obtain ⟨x, hx, hx2⟩ := List.mem_flatMap.1 h
        have := (List.mem_replicate.1 hx2).2
        subst this
        exact hnd.1 hx
      simp [h0]
    · have e2 : (m == u) = false := by simp; exact fun h => e h.symm
      rw [e2]
      simp only [Bool.false_eq_true, if_false, Nat.zero_add]
      exact ih hnd.2 ((List.mem_cons.1 hu).resolve_left e)
theorem users_mem {M : List Nat} {n u : Nat} (h : u ∈ usersOf deps M n) : u ∈ M ∧ n ∈ deps u := by
  obtain ⟨x, hx, hx2⟩ := List.mem_flatMap.1 h
  obtain ⟨h1, rfl⟩ := List.mem_replicate.1 hx2
  exact ⟨hx, List.count_pos_iff.1 (Nat.pos_of_ne_zero h1)⟩

theorem left_snoc {P : List Nat} {n u : Nat} (hn : n ∉ P) : left deps (P ++ [n]) u + (deps u).count n = left deps P u := by
  unfold left
  induction deps u with
  | nil => simp
  | cons d l ih =>
    rw [List.count_cons, List.filter_cons, List.filter_cons]
    by_cases e : d = n
    · subst e
      have h1 : P.contains d = false := by simpa using hn
      have h2 : (P ++ [d]).contains d = true := by simp
      rw [h1, h2]
      simp only [Bool.not_true, Bool.not_false, Bool.false_eq_true, if_false, if_true, List.length_cons, beq_self_eq_true]
      omega
    · have h2 : (P ++ [n]).contains d = P.contains d := by
        rw [Bool.eq_iff_iff]
        simp [e]
      have h3 : (d == n) = false := by simp [e]
      rw [h2, h3]
      split <;> simp only [List.length_cons, Bool.false_eq_true, if_false] <;> omega

/-- one need less: who has none left comes in -/
theorem rdy_dec {M P : List Nat} {w : Nat → Nat} {u : Nat} (hM : M.Nodup) (hu : u ∈ M) (hP : u ∉ P) (hw : w u = 1) :
    (rdy M P (fun k => if k = u then 0 else w k)).Perm (u :: rdy M P w) := by
  unfold rdy
  induction M with
  | nil => cases hu
  | cons m M ih =>
    have hnd := List.nodup_cons.1 hM
    rw [List.filter_cons, List.filter_cons]
    by_cases e : m = u
    · subst e
      have h1 : rdyB P (fun k => if k = m then 0 else w k) m = true := by simp [rdyB, hP]
      have h2 : rdyB P w m = false := by simp [rdyB, hw]
      rw [h1, h2]
      simp only [if_true, Bool.false_eq_true, if_false]
      have h3 : M.filter (rdyB P fun k => if k = m then 0 else w k) = M.filter (rdyB P w) := List.filter_congr fun x hx => by
        have : x ≠ m := fun h => hnd.1 (h ▸ hx)
        simp [rdyB, this]
      rw [h3]
    · have h1 : rdyB P (fun k => if k = u then 0 else w k) m = rdyB P w m := by simp [rdyB, e]
      have ih2 := ih hnd.2 ((List.mem_cons.1 hu).resolve_left (Ne.symm e))
      rw [h1]
      split
      · exact (ih2.cons m).trans (List.Perm.swap _ _ _)
      · exact ih2
theorem rdy_same {M P : List Nat} {w : Nat → Nat} {u k : Nat} (hw : w u ≠ 0) (hk : k ≠ 0) : rdy M P (fun x => if x = u then k else w x) = rdy M P w := by
  unfold rdy
  refine List.filter_congr fun x _ => ?_
  by_cases e : x = u
  · subst e
    have h1 : (k == 0) = false := by simp [hk]
    have h2 : (w x == 0) = false := by simp [hw]
    simp only [rdyB, if_true, h1, h2]
  · simp [rdyB, e]

/-- the least of those that are ready stands first -/
theorem rdy_head {M P : List Nat} {w : Nat → Nat} {n : Nat} {T : List Nat} (hM : M.Pairwise (· < ·)) (h : rdy M P w = n :: T) : ∀ x ∈ rdy M P w, n ≤ x := by
  have hs : (rdy M P w).Pairwise (· < ·) := List.Pairwise.sublist (List.filter_sublist ..) hM
  rw [h] at hs ⊢
  intro x hx
  rcases List.mem_cons.1 hx with rfl | hx
  · exact Nat.le_refl _
  · exact Nat.le_of_lt ((List.pairwise_cons.1 hs).1 x hx)
theorem rdy_next {M P : List Nat} {w : Nat → Nat} {n : Nat} {T : List Nat} (hM : M.Nodup) (h : rdy M P w = n :: T) : rdy M (P ++ [n]) w = T := by
  have hnd : (rdy M P w).Nodup := hM.sublist (List.filter_sublist ..)
  have h1 : rdy M (P ++ [n]) w = (rdy M P w).filter (fun x => decide (x ≠ n)) := by
    unfold rdy
    rw [List.filter_filter]
    refine List.filter_congr fun x _ => ?_
    unfold rdyB
    by_cases e : x = n
    · subst e; simp
    · have : (P ++ [n]).contains x = P.contains x := by
        rw [Bool.eq_iff_iff]
        simp [e]
      rw [this]
      simp [e]
  rw [h1, h]
  rw [h] at hnd
  rw [List.filter_cons]
  simp only [ne_eq, not_true_eq_false, decide_false, Bool.false_eq_true, if_false]
  rw [List.filter_eq_self]
  intro x hx
  have := (List.nodup_cons.1 hnd).1
  simp only [decide_eq_true_eq]
  rintro rfl
  exact this hx
end
end Go.Proofs.Ytbflodefmookiaa.Gr
