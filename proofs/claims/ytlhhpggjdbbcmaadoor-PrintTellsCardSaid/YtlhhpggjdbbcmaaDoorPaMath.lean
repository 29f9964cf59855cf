/-
  YtlhhpggjdbbcmaaDoorS OF FILES AS LISTS OF BYTES: parts, and what cleaning leaves of them. No program, no world.
-/
import Derived.Lib.Join
import Derived.Lib.IndexLaws
import Derived.Lib.Bytealg
namespace Go.Proofs.YtlhhpggjdbbcmaaDoor

abbrev Bs := List UInt8

/-- one part more behind the parts that are kept; none: it goes up from nothing -/
def stepP (k : List Bs) (p : Bs) : Option (List Bs) :=
  if p = [] ∨ p = [46] then some k else if p = [46, 46] then (if k = [] then none else some k.dropLast) else some (k ++ [p])

def foldP (o : Option (List Bs)) (ps : List Bs) : Option (List Bs) := ps.foldl (fun o p => o.bind fun k => stepP k p) o

theorem foldP_snoc (o : Option (List Bs)) (ps : List Bs) (p : Bs) : foldP o (ps ++ [p]) = (foldP o ps).bind fun k => stepP k p := by simp [foldP]
theorem foldP_append (o : Option (List Bs)) (a b : List Bs) : foldP o (a ++ b) = foldP (foldP o a) b := by simp [foldP]
theorem foldP_none (ps : List Bs) : foldP none ps = none := by
  induction ps with
  | nil => rfl
  | cons p ps ih => exact ih
theorem foldP_cons (k : List Bs) (p : Bs) (ps : List Bs) : foldP (some k) (p :: ps) = foldP (stepP k p) ps := rfl
theorem foldP_stopped {a b : List Bs} (h : a <+: b) (hn : foldP (some []) a = none) : foldP (some []) b = none := by
  obtain ⟨c, rfl⟩ := h
  rw [foldP_append, hn, foldP_none]

/-- the parts of a text: what stands between its slashes -/
def splitC : Bs → Bs → List Bs
  | cur, [] => [cur]
  | cur, b :: r => if b = 47 then cur :: splitC [] r else splitC (cur ++ [b]) r

theorem splitC_plain : ∀ (l cur : Bs), (∀ b ∈ l, b ≠ 47) → splitC cur l = [cur ++ l]
  | [], cur, _ => by simp [splitC]
  | b :: r, cur, h => by
    have hb : b ≠ 47 := h b (by simp)
    rw [splitC, if_neg hb, splitC_plain r _ fun x hx => h x (by simp [hx])]
    simp

theorem splitC_slash : ∀ (l cur r : Bs), (∀ b ∈ l, b ≠ 47) → splitC cur (l ++ 47 :: r) = (cur ++ l) :: splitC [] r
  | [], cur, r, _ => by simp [splitC]
  | b :: l, cur, r, h => by
    have hb : b ≠ 47 := h b (by simp)
    rw [List.cons_append, splitC, if_neg hb, splitC_slash l _ r fun x hx => h x (by simp [hx])]
    simp

theorem splitC_len : ∀ (l cur : Bs), (splitC cur l).length ≤ l.length + 1
  | [], cur => by simp [splitC]
  | b :: r, cur => by
    rw [splitC]
    split
    · simp only [List.length_cons]; have := splitC_len r []; omega
    · simp only [List.length_cons]; have := splitC_len r (cur ++ [b]); omega

/-- Cut at the first slash -/
theorem cut_none {l : Bs} (h : Lib.indexByte l 47 = -1) : splitC [] l = [l] := by
  rw [splitC_plain]
  · simp
  · intro b hb e
    subst e
    obtain ⟨k, hk, e⟩ := List.mem_iff_getElem.1 hb
    exact Lib.indexByte_none h k (by rw [List.getElem?_eq_getElem hk, e])

theorem cut_some {l : Bs} {o : Nat} (h : Lib.indexByte l 47 = (o : Int)) : o < l.length ∧ splitC [] l = l.take o :: splitC [] (l.drop (o + 1)) := by
  obtain ⟨h1, h2⟩ := Lib.indexByte_some h
  obtain ⟨ho, he⟩ := List.getElem?_eq_some_iff.1 h1
  refine ⟨ho, ?_⟩
  have hl : l = l.take o ++ 47 :: l.drop (o + 1) := by
    rw [← he]
    simp
  conv => lhs; rw [hl]
  rw [splitC_slash]
  · simp
  · intro b hb e
    subst e
    obtain ⟨k, hk, e⟩ := List.mem_iff_getElem.1 hb
    rw [List.length_take] at hk
    exact h2 k (by omega) (by rw [List.getElem?_eq_getElem (by omega), ← e]; simp)

/-! ### BYTE BY BYTE -/
abbrev St := Option (List Bs × Bs)
def stepB : St → UInt8 → St
  | none, _ => none
  | some (k, cur), b => if b = 47 then (stepP k cur).map fun k' => (k', []) else some (k, cur ++ [b])
def run (s : St) (l : Bs) : St := l.foldl stepB s
def fin : St → Option (List Bs)
  | none => none
  | some (k, cur) => stepP k cur

theorem run_append (s : St) (a b : Bs) : run s (a ++ b) = run (run s a) b := by simp [run]
theorem run_none (l : Bs) : run none l = none := by
  induction l with
  | nil => rfl
  | cons b l ih => exact ih
theorem run_cons (s : St) (b : UInt8) (l : Bs) : run s (b :: l) = run (stepB s b) l := rfl
theorem run_snoc (s : St) (l : Bs) (b : UInt8) : run s (l ++ [b]) = stepB (run s l) b := by simp [run]

theorem fin_run : ∀ (l : Bs) (k : List Bs) (cur : Bs), fin (run (some (k, cur)) l) = foldP (some k) (splitC cur l)
  | [], k, cur => by
    rw [splitC, foldP_cons]
    rfl
  | b :: r, k, cur => by
    rw [run_cons, splitC]
    by_cases hb : b = 47
    · rw [if_pos hb, foldP_cons]
      show fin (run (if b = 47 then (stepP k cur).map fun k' => (k', []) else some (k, cur ++ [b])) r) = _
      rw [if_pos hb]
      cases hs : stepP k cur with
      | none => rw [foldP_none]; show fin (run none r) = none; rw [run_none]; rfl
      | some k' => exact fin_run r k' []
    · rw [if_neg hb, ← fin_run r k (cur ++ [b])]
      show fin (run (if b = 47 then _ else some (k, cur ++ [b])) r) = _
      rw [if_neg hb]

/-! ### WHAT CLEANING TELLS -/
def plainB (b : UInt8) : Bool := (97 ≤ b && b ≤ 122) || (65 ≤ b && b ≤ 90) || (48 ≤ b && b ≤ 57) || b == 46 || b == 95 || b == 45 || b == 43 || b == 47

/-- the parts that are left -/
def kept (l : Bs) : List Bs := (foldP (some []) (splitC [] l)).getD []

def joinL (ks : List Bs) : Bs := Lib.join ks [47]

def cleanL (l : Bs) : Bs × Int :=
  if 1000 < l.length then ([], 3)
  else if l.all plainB = false ∨ l.head? = some 47 then ([], 5)
  else if kept l = [] then ([], 5)
  else if 100 < (joinL (kept l)).length then ([], 3)
  else (joinL (kept l), 0)

def rightL (l : Bs) : Bool := decide ((cleanL l).2 = 0) && decide ((cleanL l).1 = l)

/-- A KEPT PART: not empty, no points that mean something, no slash, of the bytes of names. -/
def Good (p : Bs) : Prop := p ≠ [] ∧ p ≠ [46] ∧ p ≠ [46, 46] ∧ (∀ b ∈ p, b ≠ 47 ∧ plainB b = true)

theorem good_step {k : List Bs} {p : Bs} {k' : List Bs} (h : stepP k p = some k') (hk : ∀ q ∈ k, Good q) (hp : ∀ b ∈ p, b ≠ 47 ∧ plainB b = true) : ∀ q ∈ k', Good q := by
  unfold stepP at h
  split at h
  · cases h; exact hk
  · rename_i h1
    split at h
    · split at h
      · cases h
      · cases h
        intro q hq
        exact hk q (List.dropLast_subset k hq)
    · rename_i h2
      cases h
      intro q hq
      rcases List.mem_append.1 hq with hq | hq
      · exact hk q hq
      · rw [List.mem_singleton] at hq
        subst hq
        exact ⟨fun e => h1 (.inl e), fun e => h1 (.inr e), h2, hp⟩

theorem splitC_good : ∀ (l cur : Bs), (∀ b ∈ cur, b ≠ 47 ∧ plainB b = true) → l.all plainB = true → ∀ p ∈ splitC cur l, ∀ b ∈ p, b ≠ 47 ∧ plainB b = true
  | [], cur, hc, _ => by
    intro p hp
    rw [splitC, List.mem_singleton] at hp
    subst hp
    exact hc
  | b :: r, cur, hc, hl => by
    rw [List.all_cons, Bool.and_eq_true] at hl
    intro p hp
    rw [splitC] at hp
    split at hp
    · rcases List.mem_cons.1 hp with rfl | hp
      · exact hc
      · exact splitC_good r [] (by simp) hl.2 p hp
    · rename_i hb
      refine splitC_good r (cur ++ [b]) ?_ hl.2 p hp
      intro x hx
      rcases List.mem_append.1 hx with hx | hx
      · exact hc x hx
      · rw [List.mem_singleton] at hx
        subst hx
        exact ⟨hb, hl.1⟩

theorem good_fold : ∀ (ps : List Bs) (k k' : List Bs), foldP (some k) ps = some k' → (∀ q ∈ k, Good q) → (∀ p ∈ ps, ∀ b ∈ p, b ≠ 47 ∧ plainB b = true) → ∀ q ∈ k', Good q
  | [], k, k', h, hk, _ => by
    cases h
    exact hk
  | p :: ps, k, k', h, hk, hp => by
    rw [foldP_cons] at h
    cases hs : stepP k p with
    | none => rw [hs, foldP_none] at h; cases h
    | some k1 =>
      rw [hs] at h
      exact good_fold ps k1 k' h (good_step hs hk (hp p (by simp))) fun q hq => hp q (by simp [hq])

theorem kept_good {l : Bs} (hl : l.all plainB = true) : ∀ q ∈ kept l, Good q := by
  unfold kept
  cases h : foldP (some []) (splitC [] l) with
  | none => simp
  | some k => exact good_fold _ _ _ h (by simp) (splitC_good l [] (by simp) hl)

/-! ### JOINING, AND PARTING AGAIN -/
theorem joinL_nil : joinL [] = [] := rfl
theorem joinL_one (p : Bs) : joinL [p] = p := Lib.join_one p [47]
theorem joinL_cons (p q : Bs) (r : List Bs) : joinL (p :: q :: r) = p ++ 47 :: joinL (q :: r) := by
  unfold joinL
  rw [Lib.join_cons, Lib.join_cons]
  simp [Lib.joinTail]
theorem joinL_snoc (ks : List Bs) (p : Bs) (h : ks ≠ []) : joinL (ks ++ [p]) = joinL ks ++ 47 :: p := by
  induction ks with
  | nil => exact absurd rfl h
  | cons a r ih =>
    cases r with
    | nil => rw [List.singleton_append, joinL_cons, joinL_one, joinL_one]
    | cons b r =>
      rw [List.cons_append, List.cons_append, joinL_cons, ← List.cons_append, ih (by simp), joinL_cons]
      simp

theorem run_good {p : Bs} (hp : ∀ b ∈ p, b ≠ 47) : ∀ (k : List Bs) (cur : Bs), run (some (k, cur)) p = some (k, cur ++ p) := by
  induction p with
  | nil => intro k cur; simp [run]
  | cons b r ih =>
    intro k cur
    have hb : b ≠ 47 := hp b (by simp)
    rw [run_cons]
    show run (if b = 47 then _ else some (k, cur ++ [b])) r = _
    rw [if_neg hb, ih fun x hx => hp x (by simp [hx])]
    simp

theorem stepP_good {k : List Bs} {p : Bs} (h : Good p) : stepP k p = some (k ++ [p]) := by
  obtain ⟨h1, h2, h3, _⟩ := h
  unfold stepP
  rw [if_neg (by rintro (h | h); exact h1 h; exact h2 h), if_neg h3]

theorem stepB_slash (k : List Bs) (cur : Bs) : stepB (some (k, cur)) 47 = (stepP k cur).map fun k' => (k', []) := rfl

/-- what is read of a clean path -/
theorem run_joinL : ∀ (ks : List Bs) (p : Bs) (k : List Bs), (∀ q ∈ ks, Good q) → Good p → run (some (k, [])) (joinL (ks ++ [p])) = some (k ++ ks, p)
  | [], p, k, _, hp => by
    rw [List.nil_append, joinL_one, run_good fun b hb => (hp.2.2.2 b hb).1]
    simp
  | q :: ks, p, k, hk, hp => by
    have hq : Good q := hk q (by simp)
    have e : joinL (q :: ks ++ [p]) = q ++ ([47] ++ joinL (ks ++ [p])) := by
      cases ks with
      | nil => rw [List.singleton_append, joinL_cons, List.nil_append]; rfl
      | cons a r => rw [List.cons_append, List.cons_append, joinL_cons]; rfl
    rw [e, run_append, run_good fun b hb => (hq.2.2.2 b hb).1, run_append]
    have h1 : run (some (k, [] ++ q)) [47] = some (k ++ [q], []) := by
      show stepB (some (k, [] ++ q)) 47 = _
      rw [stepB_slash, List.nil_append, stepP_good hq]
      rfl
    rw [h1, run_joinL ks p (k ++ [q]) (fun x hx => hk x (by simp [hx])) hp]
    simp

theorem kept_eq (l : Bs) : kept l = (fin (run (some ([], [])) l)).getD [] := by rw [kept, fin_run]

theorem kept_joinL {ks : List Bs} (hk : ∀ q ∈ ks, Good q) (hne : ks ≠ []) : kept (joinL ks) = ks := by
  obtain ⟨a, p, rfl⟩ : ∃ a p, ks = a ++ [p] := ⟨ks.dropLast, ks.getLast hne, (List.dropLast_concat_getLast hne).symm⟩
  rw [kept_eq, run_joinL a p [] (fun q hq => hk q (by simp [hq])) (hk p (by simp))]
  show ((stepP ([] ++ a) p)).getD [] = _
  rw [stepP_good (hk p (by simp))]
  simp

theorem plain_joinL : ∀ (ks : List Bs), (∀ q ∈ ks, Good q) → (joinL ks).all plainB = true
  | [], _ => rfl
  | [p], hk => by
    rw [joinL_one, List.all_eq_true]
    exact fun b hb => ((hk p (by simp)).2.2.2 b hb).2
  | p :: q :: r, hk => by
    rw [joinL_cons, List.all_append, List.all_cons, plain_joinL (q :: r) fun x hx => hk x (by simp [hx])]
    have : p.all plainB = true := by
      rw [List.all_eq_true]
      exact fun b hb => ((hk p (by simp)).2.2.2 b hb).2
    rw [this]
    decide

theorem head_joinL : ∀ (ks : List Bs), (∀ q ∈ ks, Good q) → (joinL ks).head? ≠ some 47
  | [], _ => by simp [joinL_nil]
  | [p], hk => by
    rw [joinL_one]
    intro h
    exact ((hk p (by simp)).2.2.2 47 (List.mem_of_mem_head? h)).1 rfl
  | p :: q :: r, hk => by
    rw [joinL_cons]
    have hp := hk p (by simp)
    cases p with
    | nil => exact absurd rfl hp.1
    | cons b p =>
      intro h
      simp at h
      exact (hp.2.2.2 b (by simp)).1 h

theorem joinL_ne {ks : List Bs} (hk : ∀ q ∈ ks, Good q) (hne : ks ≠ []) : joinL ks ≠ [] := by
  intro h
  have := kept_joinL hk hne
  rw [h] at this
  exact hne (this.symm.trans (by decide))

/-- A CLEAN PATH IS CLEAN. -/
theorem cleanL_joinL {ks : List Bs} (hk : ∀ q ∈ ks, Good q) (hne : ks ≠ []) (hlen : (joinL ks).length ≤ 100) : cleanL (joinL ks) = (joinL ks, 0) := by
  have hp := plain_joinL ks hk
  have hh := head_joinL ks hk
  unfold cleanL
  rw [kept_joinL hk hne, if_neg (by omega), if_neg (fun h => h.elim (fun h => by rw [hp] at h; cases h) hh), if_neg hne, if_neg (by omega)]

/-- What cleaning tells: an error and nothing, or a path of good parts. -/
theorem cleanL_cases (l : Bs) : (∃ e : Int, cleanL l = ([], e) ∧ (e = 3 ∨ e = 5)) ∨ (l.all plainB = true ∧ l.length ≤ 1000 ∧ (∀ q ∈ kept l, Good q) ∧ kept l ≠ [] ∧ (joinL (kept l)).length ≤ 100 ∧ cleanL l = (joinL (kept l), 0)) := by
  unfold cleanL
  by_cases h1 : 1000 < l.length
  · rw [if_pos h1]; exact .inl ⟨3, rfl, .inl rfl⟩
  rw [if_neg h1]
  by_cases h2 : l.all plainB = false ∨ l.head? = some 47
  · rw [if_pos h2]; exact .inl ⟨5, rfl, .inr rfl⟩
  rw [if_neg h2]
  by_cases h3 : kept l = []
  · rw [if_pos h3]; exact .inl ⟨5, rfl, .inr rfl⟩
  rw [if_neg h3]
  by_cases h4 : 100 < (joinL (kept l)).length
  · rw [if_pos h4]; exact .inl ⟨3, rfl, .inl rfl⟩
  rw [if_neg h4]
  have hp : l.all plainB = true := by
    cases h : l.all plainB with
    | true => rfl
    | false => exact absurd (.inl h) h2
  exact .inr ⟨hp, by omega, kept_good hp, h3, by omega, rfl⟩
end Go.Proofs.YtlhhpggjdbbcmaaDoor
