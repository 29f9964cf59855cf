/-
  A HEAP OF NUMBERS, as a list: what putting one in and taking the first one out leave. No program, no world.
-/
import Derived.Lib.IndexLaws
namespace Go.Proofs.Ytbflodefmookiaa.Gr

def par (k : Nat) : Nat := (k - 1) / 2
/-- two places of a list exchanged -/
def sw (l : List Nat) (i j : Nat) : List Nat := (l.set i (l.getD j 0)).set j (l.getD i 0)
theorem sw_len (l : List Nat) (i j : Nat) : (sw l i j).length = l.length := by simp [sw]
theorem getD_set (l : List Nat) (i k v : Nat) (hi : i < l.length) : (l.set i v).getD k 0 = if k = i then v else l.getD k 0 := by
  simp only [List.getD_eq_getElem?_getD, List.getElem?_set]
  by_cases h : i = k
  · subst h; simp [hi]
  · rw [if_neg h, if_neg (Ne.symm h)]
theorem sw_get (l : List Nat) {i j : Nat} (k : Nat) (hi : i < l.length) (hj : j < l.length) : (sw l i j).getD k 0 = if k = j then l.getD i 0 else if k = i then l.getD j 0 else l.getD k 0 := by
  unfold sw
  rw [getD_set _ _ _ _ (by simpa using hj), getD_set _ _ _ _ hi]
theorem sw_perm (l : List Nat) {i j : Nat} (hi : i < l.length) (hj : j < l.length) : (sw l i j).Perm l := by
  unfold sw
  have h1 : l.getD j 0 = l[j] := by simp [hj]
  have h2 : l.getD i 0 = l[i] := by simp [hi]
  rw [h1, h2]
  exact List.set_set_perm hi hj

/-- the first n numbers are a heap -/
def Hp (l : List Nat) (n : Nat) : Prop := ∀ k, 0 < k → k < n → l.getD (par k) 0 ≤ l.getD k 0
theorem Hp.min {l : List Nat} {n : Nat} (h : Hp l n) : ∀ k, k < n → l.getD 0 0 ≤ l.getD k 0 := by
  intro k
  induction k using Nat.strongRecOn with
  | _ k ih =>
    intro hk
    by_cases h0 : k = 0
    · subst h0; exact Nat.le_refl _
    · have hp : par k < k := by unfold par; omega
      exact Nat.le_trans (ih (par k) hp (by omega)) (h k (by omega) hk)

/-! upwards -/
def UpI (l : List Nat) (n j : Nat) : Prop :=
  (∀ k, 0 < k → k < n → k ≠ j → l.getD (par k) 0 ≤ l.getD k 0) ∧ (∀ c, 0 < c → c < n → par c = j → 0 < j → l.getD (par j) 0 ≤ l.getD c 0)
theorem UpI.stop {l : List Nat} {n j : Nat} (h : UpI l n j) (hj : j = 0 ∨ l.getD (par j) 0 ≤ l.getD j 0) : Hp l n := by
  intro k h0 hk
  by_cases e : k = j
  · subst e
    rcases hj with rfl | hj
    · omega
    · exact hj
  · exact h.1 k h0 hk e
theorem UpI.step {l : List Nat} {n j : Nat} (h : UpI l n j) (hn : n = l.length) (hj : 0 < j) (hjn : j < n) (hlt : l.getD j 0 < l.getD (par j) 0) : UpI (sw l (par j) j) n (par j) := by
  have hi : par j < j := by unfold par; omega
  have g := fun k => sw_get l (i := par j) (j := j) k (by omega) (by omega)
  constructor
  · intro k h0 hk hki
    rw [g, g]
    by_cases e : k = j
    · subst e
      rw [if_neg (by omega), if_pos rfl, if_pos rfl]
      omega
    · rw [if_neg e, if_neg hki]
      have hpk : par k < k := by unfold par; omega
      by_cases e2 : par k = j
      · rw [if_pos e2]
        exact h.2 k h0 hk e2 hj
      · rw [if_neg e2]
        by_cases e3 : par k = par j
        · rw [if_pos e3]
          have := h.1 k h0 hk e
          rw [e3] at this
          omega
        · rw [if_neg e3]
          exact h.1 k h0 hk e
  · intro c h0 hc hpc hi0
    have hpi : par (par j) < par j := by unfold par at *; omega
    rw [g, g, if_neg (by omega), if_neg (by omega)]
    have hb := h.1 (par j) hi0 (by omega) (by omega)
    by_cases e : c = j
    · rw [if_pos e]
      exact hb
    · have hcp : par c < c := by unfold par; omega
      rw [if_neg e, if_neg (by omega)]
      have := h.1 c h0 hc e
      rw [hpc] at this
      omega
/-- one put behind a heap -/
theorem UpI.start {l : List Nat} {x : Nat} (h : Hp l l.length) : UpI (l ++ [x]) (l ++ [x]).length l.length := by
  have hlen : (l ++ [x]).length = l.length + 1 := by simp
  have g : ∀ k, k < l.length → (l ++ [x]).getD k 0 = l.getD k 0 := fun k hk => by
    simp only [List.getD_eq_getElem?_getD]
    rw [List.getElem?_append_left hk]
  constructor
  · intro k h0 hk hne
    have hk2 : k < l.length := by omega
    have hp : par k < k := by unfold par; omega
    rw [g _ hk2, g _ (by omega)]
    exact h k h0 hk2
  · intro c h0 hc hpc _
    have hp : par c < c := by unfold par; omega
    omega

/-! downwards -/
def DnI (l : List Nat) (n i : Nat) : Prop :=
  (∀ k, 0 < k → k < n → par k ≠ i → l.getD (par k) 0 ≤ l.getD k 0) ∧ (∀ c, 0 < c → c < n → par c = i → 0 < i → l.getD (par i) 0 ≤ l.getD c 0)
theorem DnI.none {l : List Nat} {n i : Nat} (h : DnI l n i) (hn : n ≤ 2 * i + 1) : Hp l n := by
  intro k h0 hk
  refine h.1 k h0 hk fun e => ?_
  unfold par at e
  omega
/-- the lesser child -/
def Less (l : List Nat) (n i j : Nat) : Prop := (j = 2 * i + 1 ∨ j = 2 * i + 2) ∧ j < n ∧ (2 * i + 1 < n → l.getD j 0 ≤ l.getD (2 * i + 1) 0) ∧ (2 * i + 2 < n → l.getD j 0 ≤ l.getD (2 * i + 2) 0)
theorem child {k i : Nat} (h0 : 0 < k) (e : par k = i) : k = 2 * i + 1 ∨ k = 2 * i + 2 := by unfold par at e; omega
theorem DnI.stop {l : List Nat} {n i j : Nat} (h : DnI l n i) (hL : Less l n i j) (hle : l.getD i 0 ≤ l.getD j 0) : Hp l n := by
  intro k h0 hk
  by_cases e : par k = i
  · rw [e]
    obtain ⟨_, _, h1, h2⟩ := hL
    rcases child h0 e with rfl | rfl
    · have := h1 hk; omega
    · have := h2 hk; omega
  · exact h.1 k h0 hk e
theorem DnI.step {l : List Nat} {n i j : Nat} (h : DnI l n i) (hn : n ≤ l.length) (hL : Less l n i j) (hlt : l.getD j 0 < l.getD i 0) : DnI (sw l i j) n j := by
  obtain ⟨hj, hjn, h1, h2⟩ := hL
  have g := fun k => sw_get l (i := i) (j := j) k (by omega) (by omega)
  have hpj : par j = i := by unfold par; omega
  have hij : i < j := by omega
  constructor
  · intro k h0 hk hne
    have hpk : par k < k := by unfold par; omega
    rw [g, g, if_neg hne]
    by_cases e : k = i
    · subst e
      rw [if_neg (by omega : par k ≠ k), if_neg (by omega : k ≠ j), if_pos rfl]
      exact h.2 j (by omega) hjn hpj h0
    · by_cases e2 : par k = i
      · rw [if_pos e2]
        by_cases e3 : k = j
        · rw [if_pos e3]; omega
        · rw [if_neg e3, if_neg e]
          rcases child h0 e2 with rfl | rfl
          · exact h1 hk
          · exact h2 hk
      · have e3 : k ≠ j := fun e3 => e2 (by rw [e3]; exact hpj)
        rw [if_neg e2, if_neg e3, if_neg e]
        exact h.1 k h0 hk e2
  · intro c h0 hc hpc hj0
    have hpk : par c < c := by unfold par; omega
    rw [g, g, hpj, if_neg (by omega : i ≠ j), if_pos rfl, if_neg (by omega : c ≠ j), if_neg (by omega : c ≠ i)]
    have := h.1 c h0 hc (by omega)
    rw [hpc] at this
    exact this
theorem sw_far {l : List Nat} {i j k n : Nat} (hi : i < n) (hj : j < n) (hn : n ≤ l.length) (hk : n ≤ k) : (sw l i j).getD k 0 = l.getD k 0 := by
  rw [sw_get l k (by omega) (by omega), if_neg (by omega), if_neg (by omega)]
/-- the first and the last exchanged -/
theorem DnI.start {l : List Nat} {n : Nat} (h : Hp l l.length) (hn : l.length = n + 1) : DnI (sw l 0 n) n 0 ∧ (sw l 0 n).getD n 0 = l.getD 0 0 := by
  have g := fun k => sw_get l (i := 0) (j := n) k (by omega) (by omega)
  refine ⟨⟨fun k h0 hk hne => ?_, fun c _ _ _ h => by omega⟩, ?_⟩
  · have hpk : par k < k := by unfold par; omega
    rw [g, g, if_neg (by omega : par k ≠ n), if_neg hne, if_neg (by omega : k ≠ n), if_neg (by omega : k ≠ 0)]
    exact h k h0 (by omega)
  · rw [g, if_pos rfl]
end Go.Proofs.Ytbflodefmookiaa.Gr
