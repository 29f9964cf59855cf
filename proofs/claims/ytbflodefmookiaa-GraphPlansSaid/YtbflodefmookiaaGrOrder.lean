/-
  A HEAP OF NUMBERS, as a list: what putting one in and taking the first one out leave. No program, no world.
  THE ORDER OF A PLAN: of those that wait for nothing any more the least one is the next. No program, no world.
-/
import Derived.Lib.IndexLaws
namespace Go.Proofs.Ytbflodefmookiaa.Gr

def par (k : Nat) : Nat := (k - 1) / 2
/-- two places of a list exchanged -/
def sw (l : List Nat) (i j : Nat) : List Nat := (l.set i (l.getD j 0)).set j (l.getD i 0)
theorem sw_len (l : List Nat) (i j : Nat) : (sw l i j).length = l.length := by simp [sw]
theorem getD_set (l : List Nat) (i k v : Nat) (hi : i < l.length) : (l.set i v).getD k 0 = if k = i then v else l.getD k 0 := by
  simp only [List.getD_eq_getElem?_getD, List.getElem?_set]
  by_cases h : i = k
  · subst h; simp [hi]
  · rw [if_neg h, if_neg (Ne.symm h)]
theorem sw_get (l : List Nat) {i j : Nat} (k : Nat) (hi : i < l.length) (hj : j < l.length) : (sw l i j).getD k 0 = if k = j then l.getD i 0 else if k = i then l.getD j 0 else l.getD k 0 := by
  unfold sw
  rw [getD_set _ _ _ _ (by simpa using hj), getD_set _ _ _ _ hi]
theorem sw_perm (l : List Nat) {i j : Nat} (hi : i < l.length) (hj : j < l.length) : (sw l i j).Perm l := by
  unfold sw
  have h1 : l.getD j 0 = l[j] := by simp [hj]
  have h2 : l.getD i 0 = l[i] := by simp [hi]
  rw [h1, h2]
  exact List.set_set_perm hi hj

/-- the first n numbers are a heap -/
def Hp (l : List Nat) (n : Nat) : Prop := ∀ k, 0 < k → k < n → l.getD (par k) 0 ≤ l.getD k 0
theorem Hp.min {l : List Nat} {n : Nat} (h : Hp l n) : ∀ k, k < n → l.getD 0 0 ≤ l.getD k 0 := by
  intro k
  induction k using Nat.strongRecOn with
  | _ k ih =>
    intro hk
    by_cases h0 : k = 0
    · subst h0; exact Nat.le_refl _
    · have hp : par k < k := by unfold par; omega
      exact Nat.le_trans (ih (par k) hp (by omega)) (h k (by omega) hk)

/-! upwards -/
def UpI (l : List Nat) (n j : Nat) : Prop :=
  (∀ k, 0 < k → k < n → k ≠ j → l.getD (par k) 0 ≤ l.getD k 0) ∧ (∀ c, 0 < c → c < n → par c = j → 0 < j → l.getD (par j) 0 ≤ l.getD c 0)
theorem UpI.stop {l : List Nat} {n j : Nat} (h : UpI l n j) (hj : j = 0 ∨ l.getD (par j) 0 ≤ l.getD j 0) : Hp l n := by
  intro k h0 hk
  by_cases e : k = j
  · subst e
    rcases hj with rfl | hj
    · omega
    · exact hj
  · exact h.1 k h0 hk e
theorem UpI.step {l : List Nat} {n j : Nat} (h : UpI l n j) (hn : n = l.length) (hj : 0 < j) (hjn : j < n) (hlt : l.getD j 0 < l.getD (par j) 0) : UpI (sw l (par j) j) n (par j) := by
  have hi : par j < j := by unfold par; omega
  have g := fun k => sw_get l (i := par j) (j := j) k (by omega) (by omega)
  constructor
  · intro k h0 hk hki
    rw [g, g]
    by_cases e : k = j
    · subst e
      rw [if_neg (by omega), if_pos rfl, if_pos rfl]
      omega
    · rw [if_neg e, if_neg hki]
      have hpk : par k < k := by unfold par; omega
      by_cases e2 : par k = j
      · rw [if_pos e2]
        exact h.2 k h0 hk e2 hj
      · rw [if_neg e2]
        by_cases e3 : par k = par j
        · rw [if_pos e3]
          have := h.1 k h0 hk e
          rw [e3] at this
          omega
        · rw [if_neg e3]
          exact h.1 k h0 hk e
  · intro c h0 hc hpc hi0
    have hpi : par (par j) < par j := by unfold par at *; omega
    rw [g, g, if_neg (by omega), if_neg (by omega)]
    have hb := h.1 (par j) hi0 (by omega) (by omega)
    by_cases e : c = j
    · rw [if_pos e]
      exact hb
    · have hcp : par c < c := by unfold par; omega
      rw [if_neg e, if_neg (by omega)]
      have := h.1 c h0 hc e
      rw [hpc] at this
      omega
/-- one put behind a heap -/
theorem UpI.start {l : List Nat} {x : Nat} (h : Hp l l.length) : UpI (l ++ [x]) (l ++ [x]).length l.length := by
  have hlen : (l ++ [x]).length = l.length + 1 := by simp
  have g : ∀ k, k < l.length → (l ++ [x]).getD k 0 = l.getD k 0 := fun k hk => by
    simp only [List.getD_eq_getElem?_getD]
    rw [List.getElem?_append_left hk]
  constructor
  · intro k h0 hk hne
    have hk2 : k < l.length := by omega
    have hp : par k < k := by unfold par; omega
    rw [g _ hk2, g _ (by omega)]
    exact h k h0 hk2
  · intro c h0 hc hpc _
    have hp : par c < c := by unfold par; omega
    omega

/-! downwards -/
def DnI (l : List Nat) (n i : Nat) : Prop :=
  (∀ k, 0 < k → k < n → par k ≠ i → l.getD (par k) 0 ≤ l.getD k 0) ∧ (∀ c, 0 < c → c < n → par c = i → 0 < i → l.getD (par i) 0 ≤ l.getD c 0)
theorem DnI.none {l : List Nat} {n i : Nat} (h : DnI l n i) (hn : n ≤ 2 * i + 1) : Hp l n := by
  intro k h0 hk
  refine h.1 k h0 hk fun e => ?_
  unfold par at e
  omega
/-- the lesser child -/
def Less (l : List Nat) (n i j : Nat) : Prop := (j = 2 * i + 1 ∨ j = 2 * i + 2) ∧ j < n ∧ (2 * i + 1 < n → l.getD j 0 ≤ l.getD (2 * i + 1) 0) ∧ (2 * i + 2 < n → l.getD j 0 ≤ l.getD (2 * i + 2) 0)
theorem child {k i : Nat} (h0 : 0 < k) (e : par k = i) : k = 2 * i + 1 ∨ k = 2 * i + 2 := by unfold par at e; omega
theorem DnI.stop {l : List Nat} {n i j : Nat} (h : DnI l n i) (hL : Less l n i j) (hle : l.getD i 0 ≤ l.getD j 0) : Hp l n := by
  intro k h0 hk
  by_cases e : par k = i
  · rw [e]
    obtain ⟨_, _, h1, h2⟩ := hL
    rcases child h0 e with rfl | rfl
    · have := h1 hk; omega
    · have := h2 hk; omega
  · exact h.1 k h0 hk e
theorem DnI.step {l : List Nat} {n i j : Nat} (h : DnI l n i) (hn : n ≤ l.length) (hL : Less l n i j) (hlt : l.getD j 0 < l.getD i 0) : DnI (sw l i j) n j := by
  obtain ⟨hj, hjn, h1, h2⟩ := hL
  have g := fun k => sw_get l (i := i) (j := j) k (by omega) (by omega)
  have hpj : par j = i := by unfold par; omega
  have hij : i < j := by omega
  constructor
  · intro k h0 hk hne
    have hpk : par k < k := by unfold par; omega
    rw [g, g, if_neg hne]
    by_cases e : k = i
    · subst e
      rw [if_neg (by omega : par k ≠ k), if_neg (by omega : k ≠ j), if_pos rfl]
      exact h.2 j (by omega) hjn hpj h0
    · by_cases e2 : par k = i
      · rw [if_pos e2]
        by_cases e3 : k = j
        · rw [if_pos e3]; omega
        · rw [if_neg e3, if_neg e]
          rcases child h0 e2 with rfl | rfl
          · exact h1 hk
          · exact h2 hk
      · have e3 : k ≠ j := fun e3 => e2 (by rw [e3]; exact hpj)
        rw [if_neg e2, if_neg e3, if_neg e]
        exact h.1 k h0 hk e2
  · intro c h0 hc hpc hj0
    have hpk : par c < c := by unfold par; omega
    rw [g, g, hpj, if_neg (by omega : i ≠ j), if_pos rfl, if_neg (by omega : c ≠ j), if_neg (by omega : c ≠ i)]
    have := h.1 c h0 hc (by omega)
    rw [hpc] at this
    exact this
theorem sw_far {l : List Nat} {i j k n : Nat} (hi : i < n) (hj : j < n) (hn : n ≤ l.length) (hk : n ≤ k) : (sw l i j).getD k 0 = l.getD k 0 := by
  rw [sw_get l k (by omega) (by omega), if_neg (by omega), if_neg (by omega)]
/-- the first and the last exchanged -/
theorem DnI.start {l : List Nat} {n : Nat} (h : Hp l l.length) (hn : l.length = n + 1) : DnI (sw l 0 n) n 0 ∧ (sw l 0 n).getD n 0 = l.getD 0 0 := by
  have g := fun k => sw_get l (i := 0) (j := n) k (by omega) (by omega)
  refine ⟨⟨fun k h0 hk hne => ?_, fun c _ _ _ h => by omega⟩, ?_⟩
  · have hpk : par k < k := by unfold par; omega
    rw [g, g, if_neg (by omega : par k ≠ n), if_neg hne, if_neg (by omega : k ≠ n), if_neg (by omega : k ≠ 0)]
    exact h k h0 (by omega)
  · rw [g, if_pos rfl]
end Go.Proofs.Ytbflodefmookiaa.Gr
namespace Go.Proofs.Ytbflodefmookiaa.Gr

section
variable (deps : Nat → List Nat)
/-- for how many needs a number waits still -/
def left (P : List Nat) (n : Nat) : Nat := ((deps n).filter fun d => !P.contains d).length
def rdyB (P : List Nat) (w : Nat → Nat) (n : Nat) : Bool := !P.contains n && w n == 0
/-- those that are ready -/
def rdy (M P : List Nat) (w : Nat → Nat) : List Nat := M.filter (rdyB P w)
/-- the rest of a plan -/
def grd (M : List Nat) : Nat → List Nat → List Nat
  | 0, P => P
  | k + 1, P => match rdy M P (left deps P) with
    | [] => P
    | n :: _ => grd M k (P ++ [n])
/-- the plan of the numbers M -/
def order (M : List Nat) : List Nat := grd deps M M.length []
/-- who waits for a number, once for each need -/
def usersOf (M : List Nat) (n : Nat) : List Nat := M.flatMap fun u => List.replicate ((deps u).count n) u

variable {deps}
theorem count_users {M : List Nat} (hM : M.Nodup) (n u : Nat) (hu : u ∈ M) : (usersOf deps M n).count u = (deps u).count n := by
  unfold usersOf
  induction M with
  | nil => cases hu
  | cons m M ih =>
    rw [List.flatMap_cons, List.count_append, List.count_replicate]
    have hnd := List.nodup_cons.1 hM
    by_cases e : u = m
    · subst e
      have h0 : List.count u (M.flatMap fun u => List.replicate ((deps u).count n) u) = 0 := by
        rw [List.count_eq_zero]
        intro h
        obtain ⟨x, hx, hx2⟩ := List.mem_flatMap.1 h
        have := (List.mem_replicate.1 hx2).2
        subst this
        exact hnd.1 hx
      simp [h0]
    · have e2 : (m == u) = false := by simp; exact fun h => e h.symm
      rw [e2]
      simp only [Bool.false_eq_true, if_false, Nat.zero_add]
      exact ih hnd.2 ((List.mem_cons.1 hu).resolve_left e)
theorem users_mem {M : List Nat} {n u : Nat} (h : u ∈ usersOf deps M n) : u ∈ M ∧ n ∈ deps u := by
  obtain ⟨x, hx, hx2⟩ := List.mem_flatMap.1 h
  obtain ⟨h1, rfl⟩ := List.mem_replicate.1 hx2
  exact ⟨hx, List.count_pos_iff.1 (Nat.pos_of_ne_zero h1)⟩

theorem left_snoc {P : List Nat} {n u : Nat} (hn : n ∉ P) : left deps (P ++ [n]) u + (deps u).count n = left deps P u := by
  unfold left
  induction deps u with
  | nil => simp
  | cons d l ih =>
    rw [List.count_cons, List.filter_cons, List.filter_cons]
    by_cases e : d = n
    · subst e
      have h1 : P.contains d = false := by simpa using hn
      have h2 : (P ++ [d]).contains d = true := by simp
      rw [h1, h2]
      simp only [Bool.not_true, Bool.not_false, Bool.false_eq_true, if_false, if_true, List.length_cons, beq_self_eq_true]
      omega
    · have h2 : (P ++ [n]).contains d = P.contains d := by
        rw [Bool.eq_iff_iff]
        simp [e]
      have h3 : (d == n) = false := by simp [e]
      rw [h2, h3]
      split <;> simp only [List.length_cons, Bool.false_eq_true, if_false] <;> omega

/-- one need less: who has none left comes in -/
theorem rdy_dec {M P : List Nat} {w : Nat → Nat} {u : Nat} (hM : M.Nodup) (hu : u ∈ M) (hP : u ∉ P) (hw : w u = 1) :
    (rdy M P (fun k => if k = u then 0 else w k)).Perm (u :: rdy M P w) := by
  unfold rdy
  induction M with
  | nil => cases hu
  | cons m M ih =>
    have hnd := List.nodup_cons.1 hM
    rw [List.filter_cons, List.filter_cons]
    by_cases e : m = u
    · subst e
      have h1 : rdyB P (fun k => if k = m then 0 else w k) m = true := by simp [rdyB, hP]
      have h2 : rdyB P w m = false := by simp [rdyB, hw]
      rw [h1, h2]
      simp only [if_true, Bool.false_eq_true, if_false]
      have h3 : M.filter (rdyB P fun k => if k = m then 0 else w k) = M.filter (rdyB P w) := List.filter_congr fun x hx => by
        have : x ≠ m := fun h => hnd.1 (h ▸ hx)
        simp [rdyB, this]
      rw [h3]
    · have h1 : rdyB P (fun k => if k = u then 0 else w k) m = rdyB P w m := by simp [rdyB, e]
      have ih2 := ih hnd.2 ((List.mem_cons.1 hu).resolve_left (Ne.symm e))
      rw [h1]
      split
      · exact (ih2.cons m).trans (List.Perm.swap _ _ _)
      · exact ih2
theorem rdy_same {M P : List Nat} {w : Nat → Nat} {u k : Nat} (hw : w u ≠ 0) (hk : k ≠ 0) : rdy M P (fun x => if x = u then k else w x) = rdy M P w := by
  unfold rdy
  refine List.filter_congr fun x _ => ?_
  by_cases e : x = u
  · subst e
    have h1 : (k == 0) = false := by simp [hk]
    have h2 : (w x == 0) = false := by simp [hw]
    simp only [rdyB, if_true, h1, h2]
  · simp [rdyB, e]

/-- the least of those that are ready stands first -/
theorem rdy_head {M P : List Nat} {w : Nat → Nat} {n : Nat} {T : List Nat} (hM : M.Pairwise (· < ·)) (h : rdy M P w = n :: T) : ∀ x ∈ rdy M P w, n ≤ x := by
  have hs : (rdy M P w).Pairwise (· < ·) := List.Pairwise.sublist (List.filter_sublist ..) hM
  rw [h] at hs ⊢
  intro x hx
  rcases List.mem_cons.1 hx with rfl | hx
  · exact Nat.le_refl _
  · exact Nat.le_of_lt ((List.pairwise_cons.1 hs).1 x hx)
theorem rdy_next {M P : List Nat} {w : Nat → Nat} {n : Nat} {T : List Nat} (hM : M.Nodup) (h : rdy M P w = n :: T) : rdy M (P ++ [n]) w = T := by
  have hnd : (rdy M P w).Nodup := hM.sublist (List.filter_sublist ..)
  have h1 : rdy M (P ++ [n]) w = (rdy M P w).filter (fun x => decide (x ≠ n)) := by
    unfold rdy
    rw [List.filter_filter]
    refine List.filter_congr fun x _ => ?_
    unfold rdyB
    by_cases e : x = n
    · subst e; simp
    · have : (P ++ [n]).contains x = P.contains x := by
        rw [Bool.eq_iff_iff]
        simp [e]
      rw [this]
      simp [e]
  rw [h1, h]
  rw [h] at hnd
  rw [List.filter_cons]
  simp only [ne_eq, not_true_eq_false, decide_false, Bool.false_eq_true, if_false]
  rw [List.filter_eq_self]
  intro x hx
  have := (List.nodup_cons.1 hnd).1
  simp only [decide_eq_true_eq]
  rintro rfl
  exact this hx
end
end Go.Proofs.Ytbflodefmookiaa.Gr
