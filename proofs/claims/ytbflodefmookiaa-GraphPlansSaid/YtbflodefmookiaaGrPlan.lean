/-
  WHAT THE TWO LOOPS OF inOrder KEEP. No program, no world.
-/
import Derived.Test.YtbflodefmookiaaGrOrder
namespace Go.Proofs.Ytbflodefmookiaa.Gr
section
variable {deps : Nat → List Nat} {M P : List Nat}
theorem left_nil (n : Nat) : left deps [] n = (deps n).length := by simp [left]
theorem left_pos {n u : Nat} (h : n ∈ deps u) (hn : n ∉ P) : 0 < left deps P u := by
  unfold left
  refine List.length_pos_iff.2 fun e => ?_
  have : n ∈ (deps u).filter fun d => !P.contains d := List.mem_filter.2 ⟨h, by simpa using hn⟩
  rw [e] at this
  cases this
theorem rdy_congr {w w' : Nat → Nat} (h : ∀ u ∈ M, w u = w' u) : rdy M P w = rdy M P w' := by
  unfold rdy
  exact List.filter_congr fun x hx => by simp [rdyB, h x hx]
theorem grd_done {k : Nat} (h : rdy M P (left deps P) = []) : grd deps M k P = P := by
  cases k with
  | zero => rfl
  | succ k => simp [grd, h]

/-- what the second loop keeps -/
structure Pl (deps : Nat → List Nat) (M P H : List Nat) (wf : Nat → Nat) : Prop where
  nd : P.Nodup
  sub : ∀ u ∈ P, u ∈ M
  done : ∀ u ∈ P, left deps P u = 0
  ws : ∀ u ∈ M, wf u = left deps P u
  heap : H.Perm (rdy M P wf)
  rest : grd deps M (M.length - P.length) P = order deps M
theorem Pl.start {wf : Nat → Nat} {H : List Nat} (h : ∀ u ∈ M, wf u = (deps u).length) (hH : H.Perm (M.filter fun n => (deps n).length == 0)) : Pl deps M [] H wf := by
  refine ⟨List.nodup_nil, by simp, by simp, fun u hu => by rw [h u hu, left_nil], ?_, by simp [order]⟩
  refine hH.trans (List.Perm.of_eq ?_)
  unfold rdy
  exact List.filter_congr fun x hx => by simp [rdyB, h x hx]
theorem Pl.fin {wf : Nat → Nat} (h : Pl deps M P [] wf) : order deps M = P := by
  have h1 : rdy M P wf = [] := h.heap.nil_eq.symm
  rw [rdy_congr h.ws] at h1
  rw [← h.rest, grd_done h1]
/-- the same, while the users of n are told -/
structure Pm (deps : Nat → List Nat) (M P : List Nat) (n : Nat) (j : Nat) (H : List Nat) (wf : Nat → Nat) : Prop where
  nd : P.Nodup
  sub : ∀ u ∈ P, u ∈ M
  done : ∀ u ∈ P, left deps P u = 0
  n0 : left deps P n = 0
  nM : n ∈ M
  nP : n ∉ P
  ws : ∀ u ∈ M, wf u + ((usersOf deps M n).take j).count u = left deps P u
  heap : H.Perm (rdy M (P ++ [n]) wf)
  rest : grd deps M (M.length - (P ++ [n]).length) (P ++ [n]) = order deps M
theorem sub_len {A B : List Nat} (hA : A.Nodup) (h : ∀ x ∈ A, x ∈ B) : A.length ≤ B.length := by
  induction A generalizing B with
  | nil => simp
  | cons a A ih =>
    have hn := List.nodup_cons.1 hA
    have ha : a ∈ B := h a (by simp)
    have h1 := ih hn.2 (B := B.erase a) fun x hx => (List.mem_erase_of_ne (fun e => hn.1 (by rw [← e]; exact hx))).2 (h x (by simp [hx]))
    rw [List.length_erase_of_mem ha] at h1
    have := List.length_pos_of_mem ha
    simp only [List.length_cons]
    omega
theorem Pl.pop {wf : Nat → Nat} {H H' : List Nat} {n : Nat} (h : Pl deps M P H wf) (hM : M.Pairwise (· < ·)) (hH : H.Perm (n :: H')) (hmin : ∀ x ∈ H, n ≤ x) : Pm deps M P n 0 H' wf := by
  have hnd : M.Nodup := hM.imp fun h => Nat.ne_of_lt h
  have hp := hH.symm.trans h.heap
  have hmem : n ∈ rdy M P wf := hp.subset (by simp)
  cases hr : rdy M P wf with
  | nil => rw [hr] at hmem; cases hmem
  | cons a T =>
    have hmin2 := rdy_head hM hr
    have ha : a = n := by
      have h1 := hmin2 n hmem
      have h2 := hmin a (h.heap.symm.subset (by rw [hr]; simp))
      omega
    subst ha
    have hT : H'.Perm T := by
      rw [hr] at hp
      exact (List.perm_cons _).1 hp
    obtain ⟨hnM, hb⟩ := List.mem_filter.1 hmem
    simp only [rdyB, Bool.and_eq_true, Bool.not_eq_true', beq_iff_eq] at hb
    have hnP : a ∉ P := by simpa using hb.1
    have hl0 : left deps P a = 0 := by rw [← h.ws a hnM]; exact hb.2
    refine ⟨h.nd, h.sub, h.done, hl0, hnM, hnP, fun u hu => by simp [h.ws u hu], ?_, ?_⟩
    · rw [rdy_next hnd hr]; exact hT
    · have hlt : P.length + 1 ≤ M.length := by
        have := sub_len (A := P ++ [a]) (B := M) (List.nodup_append.2 ⟨h.nd, by simp, fun x hx y hy => by simp at hy; subst hy; rintro rfl; exact hnP hx⟩) (fun x hx => by
          rcases List.mem_append.1 hx with hx | hx
          · exact h.sub x hx
          · simp at hx; subst hx; exact hnM)
        simpa using this
      obtain ⟨k, hk⟩ : ∃ k, M.length - P.length = k + 1 := ⟨M.length - P.length - 1, by omega⟩
      have hk2 : M.length - (P ++ [a]).length = k := by simp; omega
      rw [hk2]
      have h1 := h.rest
      rw [hk] at h1
      have h2 : rdy M P (left deps P) = a :: T := by rw [← hr]; exact (rdy_congr h.ws).symm
      rw [← h1]
      simp [grd, h2]
theorem Pm.lt {n j : Nat} {H : List Nat} {wf : Nat → Nat} (h : Pm deps M P n j H wf) : P.length + 1 ≤ M.length := by
  have := sub_len (A := P ++ [n]) (B := M) (List.nodup_append.2 ⟨h.nd, by simp, fun x hx y hy => by simp at hy; subst hy; rintro rfl; exact h.nP hx⟩) (fun x hx => by
    rcases List.mem_append.1 hx with hx | hx
    · exact h.sub x hx
    · simp at hx; subst hx; exact h.nM)
  simpa using this
theorem Pm.len {n j : Nat} {H : List Nat} {wf : Nat → Nat} (h : Pm deps M P n j H wf) : H.length ≤ M.length := by
  rw [h.heap.length_eq]; exact List.length_filter_le ..
theorem Pl.len {H : List Nat} {wf : Nat → Nat} (h : Pl deps M P H wf) : H.length ≤ M.length := by
  rw [h.heap.length_eq]; exact List.length_filter_le ..
theorem Pl.plen {H : List Nat} {wf : Nat → Nat} (h : Pl deps M P H wf) : P.length ≤ M.length := sub_len h.nd h.sub
theorem count_take_succ {l : List Nat} {j u x : Nat} (h : l[j]? = some u) : (l.take (j + 1)).count x = (l.take j).count x + if u = x then 1 else 0 := by
  rw [List.take_add_one, h, List.count_append]
  by_cases e : u = x
  · subst e; simp
  · simp [e]
theorem count_take_lt {l : List Nat} {j u : Nat} (h : l[j]? = some u) : (l.take j).count u < l.count u := by
  have h1 := count_take_succ (x := u) h
  have h2 : (l.take (j + 1)).count u ≤ l.count u := (List.take_sublist _ _).count_le _
  simp at h1
  omega
theorem Pm.facts {n j u : Nat} {H : List Nat} {wf : Nat → Nat} (h : Pm deps M P n j H wf) (hM : M.Nodup) (hu : (usersOf deps M n)[j]? = some u) : u ∈ M ∧ u ∉ P ++ [n] ∧ 1 ≤ wf u := by
  have hm : u ∈ usersOf deps M n := List.mem_of_getElem? hu
  obtain ⟨h1, h2⟩ := users_mem hm
  have h3 := left_pos (P := P) h2 h.nP
  refine ⟨h1, fun hc => ?_, ?_⟩
  · rcases List.mem_append.1 hc with hc | hc
    · rw [h.done u hc] at h3; omega
    · simp at hc; subst hc; rw [h.n0] at h3; omega
  · have h4 := h.ws u h1
    have h5 := count_take_lt hu
    have h6 := count_users (deps := deps) hM n u h1
    have h7 := left_snoc (deps := deps) (u := u) h.nP
    omega
theorem Pm.zero {n j u : Nat} {H H' : List Nat} {wf : Nat → Nat} (h : Pm deps M P n j H wf) (hM : M.Nodup) (hu : (usersOf deps M n)[j]? = some u) (h1 : wf u = 1) (hH : H'.Perm (u :: H)) : Pm deps M P n (j + 1) H' (fun k => if k = u then 0 else wf k) := by
  obtain ⟨f1, f2, f3⟩ := h.facts hM hu
  refine ⟨h.nd, h.sub, h.done, h.n0, h.nM, h.nP, fun x hx => ?_, ?_, h.rest⟩
  · rw [count_take_succ hu]
    have := h.ws x hx
    by_cases e : x = u
    · subst e; simp; omega
    · rw [if_neg e, if_neg (Ne.symm e)]; omega
  · exact hH.trans ((h.heap.cons u).trans (rdy_dec hM f1 f2 h1).symm)
theorem Pm.more {n j u : Nat} {H : List Nat} {wf : Nat → Nat} (h : Pm deps M P n j H wf) (hM : M.Nodup) (hu : (usersOf deps M n)[j]? = some u) (h1 : wf u ≠ 1) : Pm deps M P n (j + 1) H (fun k => if k = u then wf u - 1 else wf k) := by
  obtain ⟨f1, f2, f3⟩ := h.facts hM hu
  refine ⟨h.nd, h.sub, h.done, h.n0, h.nM, h.nP, fun x hx => ?_, ?_, h.rest⟩
  · rw [count_take_succ hu]
    have := h.ws x hx
    by_cases e : x = u
    · subst e; simp; omega
    · rw [if_neg e, if_neg (Ne.symm e)]; omega
  · rw [rdy_same (by omega) (by omega)]; exact h.heap
theorem Pm.all {n j : Nat} {H : List Nat} {wf : Nat → Nat} (h : Pm deps M P n j H wf) (hM : M.Nodup) (hj : (usersOf deps M n).length ≤ j) : Pl deps M (P ++ [n]) H wf := by
  have hl : ∀ u, left deps (P ++ [n]) u ≤ left deps P u := fun u => by
    have := left_snoc (deps := deps) (u := u) h.nP
    omega
  refine ⟨List.nodup_append.2 ⟨h.nd, by simp, fun x hx y hy => by simp at hy; subst hy; rintro rfl; exact h.nP hx⟩, fun u hu => ?_, fun u hu => ?_, fun u hu => ?_, h.heap, h.rest⟩
  · rcases List.mem_append.1 hu with hu | hu
    · exact h.sub u hu
    · simp at hu; subst hu; exact h.nM
  · have := hl u
    rcases List.mem_append.1 hu with hu | hu
    · have := h.done u hu; omega
    · simp at hu; subst hu; have := h.n0; omega
  · have h1 := h.ws u hu
    rw [List.take_of_length_le hj, count_users hM n u hu] at h1
    have := left_snoc (deps := deps) (u := u) h.nP
    omega
end
end Go.Proofs.Ytbflodefmookiaa.Gr
