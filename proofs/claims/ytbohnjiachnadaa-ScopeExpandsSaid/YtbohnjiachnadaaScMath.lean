/-
  YtbohnjiachnadaaS THAT STAND FOR TEXTS, as lists of bytes.
-/
import Derived.WalkKit
namespace Go.Proofs.Ytbohnjiachnadaa.Sc

abbrev Bs := List UInt8

def alnum (c : UInt8) : Bool := (decide (97 ≤ c.toNat) && decide (c.toNat ≤ 122)) || (decide (65 ≤ c.toNat) && decide (c.toNat ≤ 90)) || (decide (48 ≤ c.toNat) && decide (c.toNat ≤ 57))
def shortB (c : UInt8) : Bool := alnum c || c == 95 || c == 45
def longB (c : UInt8) : Bool := shortB c || c == 46
def escB (c : UInt8) : Bool := c == 36 || c == 32 || c == 58 || c == 124

/-- is it a name? -/
def nameB (s : Bs) : Bool := !s.isEmpty && s.all longB

def cutAt (b : UInt8) (s : Bs) : Bs := s.takeWhile (· != b)

/-- what a dollar with r behind it is expanded to, and how many bytes of r belong to it: none where it is wrong -/
def mean (g : Bs → Bs) (r : Bs) : Bs × Nat :=
  match r with
  | [] => ([], 0)
  | c :: t =>
    if escB c = true then ([c], 1)
    else if c = 123 then
      if (125 ∈ t) ∧ nameB (cutAt 125 t) = true then (g (cutAt 125 t), 2 + (cutAt 125 t).length) else ([], 0)
    else (g (r.takeWhile shortB), (r.takeWhile shortB).length)

theorem takeWhile_len {p : UInt8 → Bool} (l : Bs) : (l.takeWhile p).length ≤ l.length := by
  induction l with
  | nil => simp
  | cons a r ih =>
    rw [List.takeWhile_cons]
    split
    · simp; exact ih
    · simp

theorem cutAt_lt {b : UInt8} {l : Bs} (h : b ∈ l) : (cutAt b l).length < l.length := by
  induction l with
  | nil => cases h
  | cons a r ih =>
    unfold cutAt at ih ⊢
    rw [List.takeWhile_cons]
    by_cases hab : a = b
    · subst hab; simp
    · have : (a != b) = true := by simp [hab]
      rw [if_pos this]
      have hr : b ∈ r := by
        rcases List.mem_cons.1 h with e | e
        · exact absurd e.symm hab
        · exact e
      have := ih hr
      simp
      omega

theorem mean_len (g : Bs → Bs) (r : Bs) : (mean g r).2 ≤ r.length := by
  unfold mean
  cases r with
  | nil => simp
  | cons c t =>
    simp only
    split
    · simp
    · split
      · split
        · rename_i h
          have := cutAt_lt h.1
          simp
          omega
        · simp
      · exact takeWhile_len _

/-- a text, expanded; none: a dollar is wrong -/
def expF (g : Bs → Bs) : Nat → Bs → Option Bs
  | _, [] => some []
  | 0, _ :: _ => some []
  | k + 1, c :: r =>
    if c = 36 then (if (mean g r).2 = 0 then none else (expF g k (r.drop (mean g r).2)).map ((mean g r).1 ++ ·))
    else (expF g k r).map (c :: ·)

theorem expF_fuel (g : Bs → Bs) : ∀ (k : Nat) (s : Bs), s.length ≤ k → ∀ j, s.length ≤ j → expF g k s = expF g j s
  | k, [], _, j, _ => by cases k <;> cases j <;> rfl
  | 0, c :: r, h, _, _ => by simp at h
  | k + 1, c :: r, h, 0, h2 => by simp at h2
  | k + 1, c :: r, h, j + 1, h2 => by
    simp only [List.length_cons] at h h2
    unfold expF
    split
    · split
      · rfl
      · have hl : (r.drop (mean g r).2).length ≤ r.length := by rw [List.length_drop]; omega
        rw [expF_fuel g k _ (by omega) j (by omega)]
    · rw [expF_fuel g k r (by omega) j (by omega)]

def exp (g : Bs → Bs) (s : Bs) : Option Bs := expF g s.length s

theorem exp_nil (g : Bs → Bs) : exp g [] = some [] := rfl
theorem exp_plain (g : Bs → Bs) {c : UInt8} (r : Bs) (h : c ≠ 36) : exp g (c :: r) = (exp g r).map (c :: ·) := by
  unfold exp
  rw [List.length_cons, expF, if_neg h]
theorem exp_dollar (g : Bs → Bs) (r : Bs) : exp g (36 :: r) = if (mean g r).2 = 0 then none else (exp g (r.drop (mean g r).2)).map ((mean g r).1 ++ ·) := by
  unfold exp
  rw [List.length_cons, expF, if_pos rfl]
  split
  · rfl
  · rw [expF_fuel g r.length _ (by rw [List.length_drop]; omega) _ (Nat.le_refl _)]

theorem exp_app (g : Bs → Bs) : ∀ (p r : Bs), (∀ c ∈ p, c ≠ 36) → exp g (p ++ r) = (exp g r).map (p ++ ·)
  | [], r, _ => by cases h : exp g r <;> simp [h]
  | c :: p, r, h => by
    rw [List.cons_append, exp_plain g _ (h c (List.mem_cons_self ..)), exp_app g p r fun d hd => h d (List.mem_cons_of_mem _ hd)]
    cases exp g r <;> rfl

/-- the text and the error's number -/
def expand (g : Bs → Bs) (s : Bs) : Bs × Int :=
  match exp g s with
  | none => ([], 10)
  | some z => if 16384 < z.length then ([], 3) else (z, 0)

/-- escaped -/
def esc (s : Bs) : Bs := s.flatMap fun c => if escB c = true then [36, c] else [c]
theorem esc_cons (c : UInt8) (r : Bs) : esc (c :: r) = (if escB c = true then [36, c] else [c]) ++ esc r := rfl
theorem esc_snoc (s : Bs) (c : UInt8) : esc (s ++ [c]) = esc s ++ (if escB c = true then [36, c] else [c]) := by simp [esc]
theorem esc_len (s : Bs) : (esc s).length ≤ 2 * s.length := by
  induction s with
  | nil => simp [esc]
  | cons c r ih =>
    rw [esc_cons, List.length_append, List.length_cons]
    split <;> simp <;> omega

theorem exp_esc (g : Bs → Bs) : ∀ s : Bs, exp g (esc s) = some s
  | [] => rfl
  | c :: r => by
    rw [esc_cons]
    by_cases h : escB c = true
    · rw [if_pos h]
      have hm : mean g (c :: esc r) = ([c], 1) := by
        unfold mean
        simp only
        rw [if_pos h]
      show exp g (36 :: (c :: esc r)) = _
      rw [exp_dollar, hm]
      simp only [List.drop_succ_cons, List.drop_zero]
      rw [if_neg (by omega), exp_esc g r]
      rfl
    · rw [if_neg h]
      have h36 : c ≠ 36 := by rintro rfl; exact h rfl
      show exp g (c :: esc r) = _
      rw [exp_plain g _ h36, exp_esc g r]
      rfl

/-! a text behind another one, and a blank between -/
theorem takeWhile_stop {p : UInt8 → Bool} {d : UInt8} (hd : p d = false) : ∀ (l t : Bs), (l ++ d :: t).takeWhile p = l.takeWhile p
  | [], t => by simp [hd]
  | c :: l, t => by
    rw [List.cons_append, List.takeWhile_cons, List.takeWhile_cons, takeWhile_stop hd l t]

theorem cutAt_app {b : UInt8} : ∀ (l t : Bs), b ∈ l → cutAt b (l ++ t) = cutAt b l
  | [], t, h => by cases h
  | c :: l, t, h => by
    unfold cutAt
    rw [List.cons_append, List.takeWhile_cons, List.takeWhile_cons]
    by_cases hc : c = b
    · subst hc; simp
    · have hb : b ∈ l := by
        rcases List.mem_cons.1 h with e | e
        · exact absurd e.symm hc
        · exact e
      rw [show (l ++ t).takeWhile (· != b) = l.takeWhile (· != b) from cutAt_app l t hb]

theorem mean_app (g : Bs → Bs) (r t : Bs) (h : (mean g r).2 ≠ 0) : mean g (r ++ 32 :: t) = mean g r := by
  cases r with
  | nil => exact absurd rfl h
  | cons c r =>
    rw [List.cons_append]
    unfold mean at h ⊢
    simp only at h ⊢
    by_cases h1 : escB c = true
    · rw [if_pos h1, if_pos h1]
    rw [if_neg h1] at h
    rw [if_neg h1, if_neg h1]
    by_cases h2 : c = 123
    · rw [if_pos h2] at h
      rw [if_pos h2, if_pos h2]
      by_cases h3 : 125 ∈ r ∧ nameB (cutAt 125 r) = true
      · have h4 : 125 ∈ r ++ 32 :: t ∧ nameB (cutAt 125 (r ++ 32 :: t)) = true := ⟨List.mem_append_left _ h3.1, by rw [cutAt_app _ _ h3.1]; exact h3.2⟩
        rw [if_pos h3, if_pos h4, cutAt_app _ _ h3.1]
      · rw [if_neg h3] at h
        exact absurd rfl h
    · rw [if_neg h2, if_neg h2]
      have e : (c :: (r ++ 32 :: t)).takeWhile shortB = (c :: r).takeWhile shortB := takeWhile_stop (by decide) (c :: r) t
      rw [e]

theorem exp_parts (g : Bs → Bs) : ∀ (n : Nat) (a b x : Bs), a.length ≤ n → exp g a = some x → exp g (a ++ 32 :: b) = (exp g b).map (x ++ 32 :: ·)
  | _, [], b, x, _, h => by
    cases h
    show exp g (32 :: b) = _
    rw [exp_plain g _ (by decide)]
    cases exp g b <;> rfl
  | 0, c :: r, _, _, hn, _ => by simp at hn
  | n + 1, c :: r, b, x, hn, h => by
    simp only [List.length_cons] at hn
    rw [List.cons_append]
    by_cases hc : c = 36
    · subst hc
      rw [exp_dollar] at h ⊢
      by_cases h0 : (mean g r).2 = 0
      · rw [if_pos h0] at h; cases h
      · rw [if_neg h0] at h
        rw [mean_app g r b h0, if_neg h0]
        have hl := mean_len g r
        rw [List.drop_append_of_le_length hl]
        cases he : exp g (r.drop (mean g r).2) with
        | none => rw [he] at h; cases h
        | some y =>
          rw [he] at h
          cases h
          rw [exp_parts g n _ b y (by rw [List.length_drop]; omega) he]
          cases exp g b <;> simp
    · rw [exp_plain g _ hc] at h ⊢
      cases he : exp g r with
      | none => rw [he] at h; cases h
      | some y =>
        rw [he] at h
        cases h
        rw [exp_parts g n r b y (by omega) he]
        cases exp g b <;> simp

theorem exp_len (g : Bs → Bs) {M : Nat} (hM : 2 ≤ M) (hg : ∀ n, (g n).length ≤ M) : ∀ (n : Nat) (a x : Bs), a.length ≤ n → exp g a = some x → 2 * x.length ≤ M * a.length
  | _, [], x, _, h => by cases h; simp
  | 0, c :: r, _, hn, _ => by simp at hn
  | n + 1, c :: r, x, hn, h => by
    simp only [List.length_cons] at hn ⊢
    by_cases hc : c = 36
    · subst hc
      rw [exp_dollar] at h
      by_cases h0 : (mean g r).2 = 0
      · rw [if_pos h0] at h; cases h
      · rw [if_neg h0] at h
        cases he : exp g (r.drop (mean g r).2) with
        | none => rw [he] at h; cases h
        | some y =>
          rw [he] at h
          cases h
          have ih := exp_len g hM hg n _ y (by rw [List.length_drop]; omega) he
          have hm : (mean g r).1.length ≤ M := by
            unfold mean
            cases r with
            | nil => simp
            | cons c t =>
              simp only
              split
              · simp; omega
              · split
                · split
                  · exact hg _
                  · simp
                · exact hg _
          have hl := mean_len g r
          rw [List.length_drop] at ih
          obtain ⟨q, hq⟩ : ∃ q, (mean g r).2 = q + 1 := ⟨(mean g r).2 - 1, by omega⟩
          rw [hq] at ih hl
          obtain ⟨R, hR⟩ : ∃ R, r.length = R + (q + 1) := ⟨r.length - (q + 1), by omega⟩
          rw [hR, show R + (q + 1) - (q + 1) = R by omega] at ih
          rw [hR, List.length_append]
          have h3 : M * R + M * 2 ≤ M * (R + (q + 1) + 1) := by rw [← Nat.mul_add]; exact Nat.mul_le_mul_left _ (by omega)
          omega
    · rw [exp_plain g _ hc] at h
      cases he : exp g r with
      | none => rw [he] at h; cases h
      | some y =>
        rw [he] at h
        cases h
        have ih := exp_len g hM hg n r y (by omega) he
        rw [List.length_cons]
        have := Nat.mul_add M r.length 1
        omega
end Go.Proofs.Ytbohnjiachnadaa.Sc
