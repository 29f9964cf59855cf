/-
  PLAIN NUMBERS: CRC-32 bit by bit and byte by byte, that it is linear, that a step is one to one, that a burst of at most 32 bits is seen; FNV-1a's step is one to one. No program is named here.
-/
import GoSem.Core.Value
namespace Go.Proofs.Ytdijpoemimebmaa.Cr.Crc

/-- the reflected polynomial -/
def P : Nat := 3988292384

/-- one bit falls out -/
def bit (r : Nat) : Nat := (r / 2) ^^^ ((r % 2) * P)

def iter : Nat → Nat → Nat
  | 0, r => r
  | n + 1, r => iter n (bit r)

/-- one byte more -/
def byte (r x : Nat) : Nat := iter 8 (r ^^^ x)

def fold (s : Nat) (l : List Nat) : Nat := l.foldl byte s

/-- all bits turned -/
def inv (n : Nat) : Nat := 4294967295 - n

def more (s : Nat) (l : List Nat) : Nat := inv (fold (inv s) l)
def sum (l : List Nat) : Nat := more 0 l

theorem P_lt : P < 4294967296 := by unfold P; decide

theorem xor_lt {a b n : Nat} (ha : a < 2 ^ n) (hb : b < 2 ^ n) : a ^^^ b < 2 ^ n := Nat.xor_lt_two_pow ha hb
theorem xor_lt32 {a b : Nat} (ha : a < 4294967296) (hb : b < 4294967296) : a ^^^ b < 4294967296 := xor_lt (n := 32) ha hb

theorem mod2 (r : Nat) : r % 2 = 0 ∨ r % 2 = 1 := by omega

theorem bit_lt {r : Nat} (h : r < 4294967296) : bit r < 4294967296 := by
  unfold bit
  refine xor_lt32 (by omega) ?_
  rcases mod2 r with e | e <;> rw [e]
  · simp
  · rw [Nat.one_mul]; exact P_lt

theorem iter_lt (n : Nat) : ∀ {r : Nat}, r < 4294967296 → iter n r < 4294967296 := by
  induction n with
  | zero => intro r h; exact h
  | succ n ih => intro r h; exact ih (bit_lt h)

theorem byte_lt {r x : Nat} (h : r < 4294967296) (hx : x < 256) : byte r x < 4294967296 := iter_lt 8 (xor_lt32 h (by omega))

theorem fold_lt : ∀ (l : List Nat) {s : Nat}, s < 4294967296 → (∀ n ∈ l, n < 256) → fold s l < 4294967296
  | [], _, h, _ => h
  | x :: l, _, h, hl => fold_lt l (byte_lt h (hl x (by simp))) (fun n hn => hl n (by simp [hn]))

theorem inv_lt (n : Nat) : inv n < 4294967296 := by unfold inv; omega
theorem inv_inv {n : Nat} (h : n < 4294967296) : inv (inv n) = n := by unfold inv; omega
theorem more_lt (s : Nat) (l : List Nat) : more s l < 4294967296 := inv_lt _

/-! ### parts -/
theorem fold_append (s : Nat) (a b : List Nat) : fold s (a ++ b) = fold (fold s a) b := by simp [fold]

theorem more_append {s : Nat} {a b : List Nat} (ha : ∀ n ∈ a, n < 256) : more (more s a) b = more s (a ++ b) := by
  unfold more
  rw [inv_inv (fold_lt a (inv_lt s) ha), fold_append]

theorem more_nil {s : Nat} (h : s < 4294967296) : more s [] = s := by
  unfold more fold
  simp [inv_inv h]

/-! ### a step is linear -/
theorem xor_div2 (a b : Nat) : (a ^^^ b) / 2 = (a / 2) ^^^ (b / 2) := by
  simpa [Nat.shiftRight_eq_div_pow] using Nat.shiftRight_xor_distrib (a := a) (b := b) (i := 1)

theorem xor_mod2 (a b : Nat) : (a ^^^ b) % 2 = (a % 2) ^^^ (b % 2) := by
  simpa using Nat.xor_mod_two_pow (a := a) (b := b) (n := 1)

theorem xor_swap (a b c d : Nat) : (a ^^^ b) ^^^ (c ^^^ d) = (a ^^^ c) ^^^ (b ^^^ d) := by
  rw [Nat.xor_assoc, ← Nat.xor_assoc b c d, Nat.xor_comm b c, Nat.xor_assoc c b d, ← Nat.xor_assoc]

theorem bit_xor (a b : Nat) : bit (a ^^^ b) = bit a ^^^ bit b := by
  unfold bit
  rw [xor_div2, xor_mod2, xor_swap]
  congr 1
  rcases mod2 a with e | e <;> rcases mod2 b with f | f <;> rw [e, f] <;> simp

theorem iter_xor (n : Nat) : ∀ a b, iter n (a ^^^ b) = iter n a ^^^ iter n b := by
  induction n with
  | zero => intro a b; rfl
  | succ n ih => intro a b; simp only [iter]; rw [bit_xor, ih]

theorem iter_zero (n : Nat) : iter n 0 = 0 := by
  induction n with
  | zero => rfl
  | succ n ih => simpa [iter, bit] using ih

theorem iter_add (m : Nat) : ∀ (n r : Nat), iter (m + n) r = iter n (iter m r) := by
  induction m with
  | zero => intro n r; simp [iter]
  | succ m ih => intro n r; rw [show m + 1 + n = (m + n) + 1 from by omega]; simp only [iter]; exact ih n _

/-! ### a step is one to one -/
theorem xor_left_inj {a b c : Nat} (h : a ^^^ b = a ^^^ c) : b = c := by
  have h2 : a ^^^ (a ^^^ b) = a ^^^ (a ^^^ c) := by rw [h]
  simpa [← Nat.xor_assoc] using h2

theorem eq_of_xor {a b : Nat} (h : a ^^^ b = 0) : a = b := by
  refine (xor_left_inj (a := a) ?_).symm
  rw [h, Nat.xor_self]

/-- the highest bit of what comes tells which bit fell out -/
theorem bit_top {r : Nat} (h : r < 4294967296) : bit r / 2147483648 = r % 2 := by
  have hx := Nat.shiftRight_xor_distrib (a := r / 2) (b := (r % 2) * P) (i := 31)
  simp only [Nat.shiftRight_eq_div_pow] at hx
  unfold bit
  rw [show (2147483648 : Nat) = 2 ^ 31 from rfl, hx]
  have : r / 2 / 2 ^ 31 = 0 := by omega
  rw [this, Nat.zero_xor]
  rcases mod2 r with e | e <;> rw [e] <;> unfold P <;> decide

theorem bit_inj {a b : Nat} (ha : a < 4294967296) (hb : b < 4294967296) (h : bit a = bit b) : a = b := by
  have hm : a % 2 = b % 2 := by rw [← bit_top ha, ← bit_top hb, h]
  have hd : a / 2 = b / 2 := by
    unfold bit at h
    rw [hm, Nat.xor_comm (a / 2), Nat.xor_comm (b / 2)] at h
    exact xor_left_inj h
  omega

theorem iter_inj (n : Nat) : ∀ {a b : Nat}, a < 4294967296 → b < 4294967296 → iter n a = iter n b → a = b := by
  induction n with
  | zero => intro a b _ _ h; exact h
  | succ n ih => intro a b ha hb h; exact bit_inj ha hb (ih (bit_lt ha) (bit_lt hb) h)

/-! ### what is still to come may be put in at once -/
theorem bit_double (z : Nat) : bit (2 * z) = z := by
  unfold bit
  rw [show 2 * z / 2 = z from by omega, show 2 * z % 2 = 0 from by omega]
  simp

theorem halves (y : Nat) : y = (y % 2) ^^^ (2 * (y / 2)) := by
  have h1 : ((y % 2) ^^^ (2 * (y / 2))) % 2 = y % 2 := by
    rw [xor_mod2, show 2 * (y / 2) % 2 = 0 from by omega]
    simp
  have h2 : ((y % 2) ^^^ (2 * (y / 2))) / 2 = y / 2 := by
    rw [xor_div2, show 2 * (y / 2) / 2 = y / 2 from by omega, show y % 2 / 2 = 0 from by omega]
    simp
  omega

theorem bit_in (r y : Nat) : bit (r ^^^ y) = bit (r ^^^ (y % 2)) ^^^ (y / 2) := by
  conv => lhs; rw [halves y, ← Nat.xor_assoc, bit_xor, bit_double]

/-- the state behind the first k bits of a stream -/
def st (s : Nat) (e : Nat → Nat) : Nat → Nat
  | 0 => s
  | k + 1 => bit (st s e k ^^^ e k)

theorem iter_succ (n r : Nat) : iter (n + 1) r = bit (iter n r) := by
  rw [iter_add]; rfl

/-- a stream's next m bits, put in at once -/
theorem st_in (s : Nat) (e : Nat → Nat) (p Y m : Nat) (h : ∀ j, j < m → e (p + j) = Y / 2 ^ j % 2) :
    ∀ j, j ≤ m → iter j (st s e p ^^^ Y) = st s e (p + j) ^^^ (Y / 2 ^ j) := by
  intro j
  induction j with
  | zero => intro _; simp [iter]
  | succ j ih =>
    intro hj
    rw [iter_succ, ih (by omega), bit_in, ← h j (by omega)]
    rw [show p + (j + 1) = (p + j) + 1 from by omega]
    simp only [st]
    rw [Nat.div_div_eq_div_mul, Nat.pow_succ]

theorem st_xor (s s' : Nat) (e e' : Nat → Nat) (k : Nat) : st (s ^^^ s') (fun i => e i ^^^ e' i) k = st s e k ^^^ st s' e' k := by
  induction k with
  | zero => rfl
  | succ k ih => simp only [st]; rw [ih, xor_swap, bit_xor]

theorem st_congr (s : Nat) (e e' : Nat → Nat) (k : Nat) (h : ∀ i, i < k → e i = e' i) : st s e k = st s e' k := by
  induction k with
  | zero => rfl
  | succ k ih => simp only [st]; rw [ih (fun i hi => h i (by omega)), h k (by omega)]

theorem st_lt {s : Nat} {e : Nat → Nat} (hs : s < 4294967296) (he : ∀ i, e i < 2) (k : Nat) : st s e k < 4294967296 := by
  induction k with
  | zero => exact hs
  | succ k ih => exact bit_lt (xor_lt32 ih (by have := he k; omega))

/-- bit k of a row of bytes, each byte's lowest first -/
def bitAt (l : List Nat) (k : Nat) : Nat := l.getD (k / 8) 0 / 2 ^ (k % 8) % 2

theorem bitAt_lt (l : List Nat) (k : Nat) : bitAt l k < 2 := Nat.mod_lt _ (by omega)

theorem st_byte (s : Nat) (l : List Nat) (i x : Nat) (hx : x < 256) (h : l.getD i 0 = x) : st s (bitAt l) (8 * i + 8) = byte (st s (bitAt l) (8 * i)) x := by
  have := st_in s (bitAt l) (8 * i) x 8 (fun j hj => by
    unfold bitAt
    rw [show (8 * i + j) / 8 = i from by omega, show (8 * i + j) % 8 = j from by omega, h]) 8 (by omega)
  unfold byte
  rw [this, show x / 2 ^ 8 = 0 from by omega]
  simp

theorem st_take (s : Nat) (l : List Nat) (hl : ∀ n ∈ l, n < 256) (i : Nat) (hi : i ≤ l.length) : st s (bitAt l) (8 * i) = fold s (l.take i) := by
  induction i with
  | zero => simp [st, fold]
  | succ i ih =>
    have hlt : i < l.length := by omega
    have hg : l.getD i 0 = l[i] := by simp [List.getD, hlt]
    rw [show 8 * (i + 1) = 8 * i + 8 from by omega, st_byte s l i l[i] (hl _ (by simp)) hg, ih (by omega), List.take_add_one, fold_append]
    simp [fold, hlt]

theorem st_all (s : Nat) (l : List Nat) (hl : ∀ n ∈ l, n < 256) : st s (bitAt l) (8 * l.length) = fold s l := by
  rw [st_take s l hl l.length (Nat.le_refl _), List.take_length]

/-! ### the document's way: bit by bit -/
def rstep (r b : Nat) : Nat := if r % 2 = b then r / 2 else (r / 2) ^^^ P

theorem rstep_eq (r b : Nat) (hb : b < 2) : rstep r b = bit (r ^^^ b) := by
  unfold rstep bit
  rw [xor_div2, xor_mod2, show b / 2 = 0 from by omega, Nat.xor_zero, show b % 2 = b from by omega]
  rcases mod2 r with e | e <;> rcases mod2 b with f | f <;> (rw [show b % 2 = b from by omega] at f; rw [e, f]; simp)

/-! ### a burst of at most 32 bits is seen -/
theorem st_zero (e : Nat → Nat) (p : Nat) (h : ∀ i, i < p → e i = 0) : st 0 e p = 0 := by
  induction p with
  | zero => rfl
  | succ p ih => simp only [st]; rw [ih (fun i hi => h i (by omega)), h p (by omega)]; simp [bit]

theorem burst (b c : List Nat) (hb : ∀ n ∈ b, n < 256) (hc : ∀ n ∈ c, n < 256) (hlen : c.length = b.length) (s p m Y : Nat) (hpm : p + m = 8 * b.length)
    (hY : Y < 2 ^ m) (hY32 : Y < 4294967296) (hlo : ∀ k, k < p → bitAt c k = bitAt b k) (hhi : ∀ j, j < m → bitAt c (p + j) ^^^ bitAt b (p + j) = Y / 2 ^ j % 2) :
    fold s c = fold s b ↔ Y = 0 := by
  have h1 := st_all s b hb
  have h2 := st_all s c hc
  rw [hlen] at h2
  have hx := st_xor s s (bitAt c) (bitAt b) (8 * b.length)
  rw [h1, h2, Nat.xor_self, ← hpm] at hx
  have hz : st 0 (fun i => bitAt c i ^^^ bitAt b i) p = 0 := st_zero _ p (fun i hi => by show bitAt c i ^^^ bitAt b i = 0; rw [hlo i hi, Nat.xor_self])
  have hin := st_in 0 (fun i => bitAt c i ^^^ bitAt b i) p Y m hhi m (Nat.le_refl _)
  rw [hz, Nat.zero_xor, Nat.div_eq_of_lt hY, Nat.xor_zero, hx] at hin
  constructor
  · intro h
    rw [h, Nat.xor_self] at hin
    exact iter_inj m hY32 (by omega) (by rw [hin, iter_zero])
  · intro h
    rw [h, iter_zero] at hin
    exact eq_of_xor hin.symm

/-! ### the law's own flips -/
/-- bit k of a row turned -/
def turn (l : List Nat) (k : Nat) : List Nat := l.set (k / 8) (l.getD (k / 8) 0 ^^^ 2 ^ (k % 8))

def turns (l : List Nat) (first bits : Nat) : Nat → List Nat
  | 0 => l
  | i + 1 => if bits / 2 ^ i % 2 = 1 then turn (turns l first bits i) (first + i) else turns l first bits i

theorem turn_length (l : List Nat) (k : Nat) : (turn l k).length = l.length := by simp [turn]
theorem turns_length (l : List Nat) (first bits i : Nat) : (turns l first bits i).length = l.length := by
  induction i with
  | zero => rfl
  | succ i ih => simp only [turns]; split <;> simp [turn_length, ih]

theorem getD_lt {l : List Nat} (h : ∀ n ∈ l, n < 256) (k : Nat) : l.getD k 0 < 256 := by
  by_cases hk : k < l.length
  · have := h l[k] (by simp)
    simpa [List.getD, hk] using this
  · simp [List.getD, List.getElem?_eq_none (Nat.le_of_not_lt hk)]

theorem pow_mod8_lt (k : Nat) : 2 ^ (k % 8) < 256 := by
  have h : k % 8 < 8 := Nat.mod_lt _ (by omega)
  calc 2 ^ (k % 8) < 2 ^ 8 := Nat.pow_lt_pow_right (by omega) h
    _ = 256 := rfl

theorem turn_bytes {l : List Nat} (h : ∀ n ∈ l, n < 256) (k : Nat) : ∀ n ∈ turn l k, n < 256 := by
  intro n hn
  unfold turn at hn
  rcases List.mem_or_eq_of_mem_set hn with hm | rfl
  · exact h n hm
  · exact xor_lt (n := 8) (getD_lt h _) (pow_mod8_lt k)

theorem turns_bytes {l : List Nat} (h : ∀ n ∈ l, n < 256) (first bits i : Nat) : ∀ n ∈ turns l first bits i, n < 256 := by
  induction i with
  | zero => exact h
  | succ i ih => simp only [turns]; split; exact turn_bytes ih _; exact ih

theorem two_pow_bit (i j : Nat) : 2 ^ i / 2 ^ j % 2 = if i = j then 1 else 0 := by
  have := Nat.testBit_two_pow (n := i) (m := j)
  rw [Nat.testBit_eq_decide_div_mod_eq] at this
  by_cases h : i = j
  · simp [h] at this ⊢
    rw [Nat.div_self (Nat.two_pow_pos j)]
  · simp [h] at this ⊢
    omega

theorem bit_of_xor (a b j : Nat) : (a ^^^ b) / 2 ^ j % 2 = (a / 2 ^ j % 2) ^^^ (b / 2 ^ j % 2) := by
  have := Nat.shiftRight_xor_distrib (a := a) (b := b) (i := j)
  simp only [Nat.shiftRight_eq_div_pow] at this
  rw [this, xor_mod2]

theorem bitAt_turn (l : List Nat) (k i : Nat) (hk : k < 8 * l.length) : bitAt (turn l k) i = bitAt l i ^^^ (if i = k then 1 else 0) := by
  unfold bitAt turn
  by_cases hq : k / 8 = i / 8
  · have hlt : k / 8 < l.length := by omega
    rw [← hq]
    have : (l.set (k / 8) (l.getD (k / 8) 0 ^^^ 2 ^ (k % 8))).getD (k / 8) 0 = l.getD (k / 8) 0 ^^^ 2 ^ (k % 8) := by
      simp [List.getD, hlt]
    rw [this, bit_of_xor, two_pow_bit]
    by_cases hi : i = k
    · simp [hi]
    · rw [if_neg hi, if_neg (by omega)]
  · have : (l.set (k / 8) (l.getD (k / 8) 0 ^^^ 2 ^ (k % 8))).getD (i / 8) 0 = l.getD (i / 8) 0 := by
      simp [List.getD, List.getElem?_set_ne hq]
    rw [this, if_neg (by intro h; exact hq (by rw [h])), Nat.xor_zero]

theorem bitAt_turns (l : List Nat) (first bits i k : Nat) (hi : first + i ≤ 8 * l.length) :
    bitAt (turns l first bits i) k = bitAt l k ^^^ (if first ≤ k ∧ k < first + i then bits / 2 ^ (k - first) % 2 else 0) := by
  induction i with
  | zero => rw [if_neg (by omega)]; simp [turns]
  | succ i ih =>
    have ih := ih (by omega)
    simp only [turns]
    rcases mod2 (bits / 2 ^ i) with e | e
    · rw [if_neg (by omega), ih]
      by_cases hk : k = first + i
      · rw [if_neg (by omega), if_pos (by omega), show k - first = i from by omega, e]
      · congr 1
        by_cases h2 : first ≤ k ∧ k < first + i
        · rw [if_pos h2, if_pos (by omega)]
        · rw [if_neg h2, if_neg (by omega)]
    · rw [if_pos e, bitAt_turn _ _ _ (by rw [turns_length]; omega), ih, Nat.xor_assoc]
      congr 1
      by_cases hk : k = first + i
      · rw [if_neg (by omega), if_pos hk, if_pos (by omega), show k - first = i from by omega, e]; rfl
      · rw [if_neg hk]
        by_cases h2 : first ≤ k ∧ k < first + i
        · rw [if_pos h2, if_pos (by omega)]; simp
        · rw [if_neg h2, if_neg (by omega)]; rfl

/-- was any of the first i bits set? -/
def any (bits : Nat) : Nat → Bool
  | 0 => false
  | i + 1 => any bits i || decide (bits / 2 ^ i % 2 = 1)

theorem any_eq (bits i : Nat) : any bits i = decide (bits % 2 ^ i ≠ 0) := by
  induction i with
  | zero => simp [any, Nat.mod_one]
  | succ i ih =>
    simp only [any]
    rw [ih, Nat.mod_pow_succ]
    rcases mod2 (bits / 2 ^ i) with e | e
    · simp [e]
    · have := Nat.two_pow_pos i
      simp [e]

/-- what the law's two sums come to -/
theorem flips (l : List Nat) (hl : ∀ n ∈ l, n < 256) (first bits n : Nat) (hn : first + n ≤ 8 * l.length) (h32 : n ≤ 32) :
    (sum (turns l first bits n) = sum l) ↔ any bits n = false := by
  have hY : bits % 2 ^ n < 2 ^ n := Nat.mod_lt _ (Nat.two_pow_pos n)
  have h2 : 2 ^ n ≤ 2 ^ 32 := Nat.pow_le_pow_right (by omega) h32
  have hb := burst l (turns l first bits n) hl (turns_bytes hl _ _ _) (turns_length _ _ _ _) (inv 0) first (8 * l.length - first) (bits % 2 ^ n) (by omega)
    (by refine Nat.lt_of_lt_of_le hY (Nat.pow_le_pow_right (by omega) (by omega))) (by omega)
    (fun k hk => by rw [bitAt_turns _ _ _ _ _ hn, if_neg (by omega), Nat.xor_zero])
    (fun j hj => by
      rw [bitAt_turns _ _ _ _ _ hn, Nat.xor_comm, ← Nat.xor_assoc, Nat.xor_self, Nat.zero_xor, show first + j - first = j from by omega]
      by_cases h : j < n
      · rw [if_pos (by omega)]
        have := Nat.testBit_mod_two_pow bits n j
        simp only [Nat.testBit_eq_decide_div_mod_eq, h] at this
        have h3 : (bits % 2 ^ n / 2 ^ j % 2 = 1) ↔ (bits / 2 ^ j % 2 = 1) := by simpa using this
        omega
      · rw [if_neg (by omega)]
        have : bits % 2 ^ n / 2 ^ j = 0 := Nat.div_eq_of_lt (Nat.lt_of_lt_of_le hY (Nat.pow_le_pow_right (by omega) (by omega)))
        rw [this])
  rw [any_eq, decide_eq_false_iff_not, Decidable.not_not, ← hb]
  unfold sum more
  constructor
  · intro h
    have h1 := fold_lt l (inv_lt 0) hl
    have h3 := fold_lt (turns l first bits n) (inv_lt 0) (turns_bytes hl first bits n)
    rw [← inv_inv h1, ← inv_inv h3, h]
  · intro h; rw [h]

/-! ### three rows together -/
def xor3 (a b c : List Nat) : List Nat := (List.range a.length).map fun i => a.getD i 0 ^^^ b.getD i 0 ^^^ c.getD i 0

theorem byte_xor (r s x y : Nat) : byte (r ^^^ s) (x ^^^ y) = byte r x ^^^ byte s y := by
  unfold byte; rw [xor_swap, iter_xor]

theorem fold_xor3 (a b c : List Nat) (r s t k : Nat) (ha : k ≤ a.length) (hb : k ≤ b.length) (hc : k ≤ c.length) :
    fold (r ^^^ s ^^^ t) ((xor3 a b c).take k) = fold r (a.take k) ^^^ fold s (b.take k) ^^^ fold t (c.take k) := by
  induction k with
  | zero => simp [fold]
  | succ k ih =>
    have e : (xor3 a b c).take (k + 1) = (xor3 a b c).take k ++ [a.getD k 0 ^^^ b.getD k 0 ^^^ c.getD k 0] := by
      rw [List.take_add_one]
      simp [xor3, show k < a.length from by omega]
    have g : ∀ l : List Nat, k < l.length → l.take (k + 1) = l.take k ++ [l.getD k 0] := fun l h => by
      rw [List.take_add_one]; simp [h]
    rw [e, g a (by omega), g b (by omega), g c (by omega)]
    simp only [fold_append]
    rw [ih (by omega) (by omega) (by omega)]
    simp only [fold, List.foldl_cons, List.foldl_nil]
    rw [byte_xor, byte_xor]

theorem inv_xor {n : Nat} (h : n < 4294967296) : inv n = n ^^^ 4294967295 := by
  refine Nat.eq_of_testBit_eq fun i => ?_
  have e : inv n = 2 ^ 32 - (n + 1) := by unfold inv; omega
  rw [e, Nat.testBit_two_pow_sub_succ (by omega), Nat.testBit_xor, show (4294967295 : Nat) = 2 ^ 32 - 1 from by decide, Nat.testBit_two_pow_sub_one]
  by_cases hi : i < 32
  · simp [hi]
  · have : n < 2 ^ i := Nat.lt_of_lt_of_le (show n < 2 ^ 32 by omega) (Nat.pow_le_pow_right (by omega) (by omega))
    simp [hi, Nat.testBit_lt_two_pow this]

theorem sum_xor3 (a b c : List Nat) (ha : ∀ n ∈ a, n < 256) (hb : ∀ n ∈ b, n < 256) (hc : ∀ n ∈ c, n < 256) (h1 : b.length = a.length) (h2 : c.length = a.length) :
    sum (xor3 a b c) = sum a ^^^ sum b ^^^ sum c := by
  have h := fold_xor3 a b c (inv 0) (inv 0) (inv 0) a.length (Nat.le_refl _) (by omega) (by omega)
  rw [List.take_of_length_le (by simp [xor3]), List.take_of_length_le (Nat.le_refl _), List.take_of_length_le (by omega), List.take_of_length_le (by omega), Nat.xor_self, Nat.zero_xor] at h
  unfold sum more
  have l1 := fold_lt a (inv_lt 0) ha
  have l2 := fold_lt b (inv_lt 0) hb
  have l3 := fold_lt c (inv_lt 0) hc
  rw [h, inv_xor l1, inv_xor l2, inv_xor l3, inv_xor (xor_lt32 (xor_lt32 l1 l2) l3), xor_swap (fold (inv 0) a), Nat.xor_self, Nat.xor_zero, ← Nat.xor_assoc]

/-! ### noughts -/
def zeros (n : Nat) : List Nat := List.replicate n 0

theorem fold_zeros (n : Nat) : ∀ s, fold s (zeros n) = iter (8 * n) s := by
  induction n with
  | zero => intro s; rfl
  | succ n ih =>
    intro s
    have : zeros (n + 1) = 0 :: zeros n := rfl
    rw [this, show 8 * (n + 1) = 8 + 8 * n from by omega, iter_add]
    show fold (byte s 0) (zeros n) = _
    rw [ih]
    unfold byte
    rw [Nat.xor_zero]

/-- does the state come back to s within n bytes of noughts? -/
def back (s : Nat) : Nat → Nat → Bool
  | 0, _ => false
  | n + 1, r => (iter 8 r == s) || back s n (iter 8 r)

theorem back_no (s : Nat) : ∀ (n r : Nat), back s n r = false → ∀ k, 1 ≤ k → k ≤ n → iter (8 * k) r ≠ s := by
  intro n
  induction n with
  | zero => intro r _ k h1 h2; omega
  | succ n ih =>
    intro r h k h1 h2
    simp only [back, Bool.or_eq_false_iff, beq_eq_false_iff_ne] at h
    rcases Nat.eq_or_lt_of_le h1 with e | hlt
    · rw [← e]; exact h.1
    · have := ih _ h.2 (k - 1) (by omega) (by omega)
      rw [← iter_add, show 8 + 8 * (k - 1) = 8 * k from by omega] at this
      exact this

theorem never_back : back (inv 0) 1000 (inv 0) = false := by decide +kernel

theorem noughts {n m : Nat} (hn : n < 1000) (hm : m < 1000) : sum (zeros n) = sum (zeros m) ↔ n = m := by
  constructor
  · have key : ∀ {n m : Nat}, n < 1000 → m < 1000 → n < m → sum (zeros n) = sum (zeros m) → False := by
      intro n m hn hm hlt h
      unfold sum more at h
      rw [fold_zeros, fold_zeros] at h
      have l1 := iter_lt (8 * n) (inv_lt 0)
      have l2 := iter_lt (8 * m) (inv_lt 0)
      have h2 : iter (8 * n) (inv 0) = iter (8 * m) (inv 0) := by rw [← inv_inv l1, ← inv_inv l2, h]
      rw [show 8 * m = 8 * (m - n) + 8 * n from by omega, iter_add] at h2
      exact back_no _ _ _ never_back (m - n) (by omega) (by omega) (iter_inj _ (inv_lt 0) (iter_lt _ (inv_lt 0)) h2).symm
    intro h
    rcases Nat.lt_trichotomy n m with h1 | h1 | h1
    · exact (key hn hm h1 h).elim
    · exact h1
    · exact (key hm hn h1 h.symm).elim
  · intro h; rw [h]

/-! ### bytes and their sum behind them -/
def le4 (s : Nat) : List Nat := [s % 256, s / 256 % 256, s / 65536 % 256, s / 16777216 % 256]

theorem fold_le4 (s y : Nat) (hy : y < 4294967296) : fold s (le4 y) = iter 32 (s ^^^ y) := by
  have hb : ∀ n ∈ le4 y, n < 256 := by intro n hn; simp [le4] at hn; omega
  have h := st_all s (le4 y) hb
  have hin := st_in s (bitAt (le4 y)) 0 y 32 (fun j hj => by
    unfold bitAt
    have key : ∀ q, q < 4 → (le4 y).getD q 0 = y / 2 ^ (8 * q) % 256 := by
      intro q hq
      match q, hq with
      | 0, _ => simp [le4]
      | 1, _ => simp [le4]
      | 2, _ => simp [le4]
      | 3, _ => simp [le4]
    rw [Nat.zero_add, key _ (by omega)]
    have h8 : (256 : Nat) = 2 ^ (j % 8) * (2 * 2 ^ (7 - j % 8)) := by
      rw [← Nat.mul_assoc, Nat.mul_comm _ 2, Nat.mul_assoc, ← Nat.pow_add, show j % 8 + (7 - j % 8) = 7 from by omega]
    conv => rhs; rw [show j = 8 * (j / 8) + j % 8 from by omega, Nat.pow_add, ← Nat.div_div_eq_div_mul]
    rw [h8, Nat.mod_mul_right_div_self, Nat.mod_mul_right_mod]) 32 (Nat.le_refl _)
  rw [show y / 2 ^ 32 = 0 from by omega, Nat.xor_zero, Nat.zero_add] at hin
  rw [← h]
  exact hin.symm

theorem sum_ends (l : List Nat) (hl : ∀ n ∈ l, n < 256) : sum (l ++ le4 (sum l)) = inv (iter 32 4294967295) := by
  unfold sum more
  have h := fold_lt l (inv_lt 0) hl
  rw [fold_append, fold_le4 _ _ (inv_lt _), inv_xor h, ← Nat.xor_assoc, Nat.xor_self, Nat.zero_xor]

/-! ### FNV-1a -/
def hstep (h x : Nat) : Nat := (h ^^^ x) * 1099511628211 % 18446744073709551616
def hfold (h : Nat) (l : List Nat) : Nat := l.foldl hstep h
def hash (l : List Nat) : Nat := hfold 14695981039346656037 l

theorem hstep_lt (h x : Nat) : hstep h x < 18446744073709551616 := Nat.mod_lt _ (by omega)
theorem hfold_lt : ∀ (l : List Nat) {h : Nat}, h < 18446744073709551616 → hfold h l < 18446744073709551616
  | [], _, hh => hh
  | _ :: l, _, _ => hfold_lt l (hstep_lt _ _)
theorem hash_lt (l : List Nat) : hash l < 18446744073709551616 := hfold_lt l (by omega)
theorem hfold_snoc (h : Nat) (l : List Nat) (x : Nat) : hfold h (l ++ [x]) = hstep (hfold h l) x := by
  unfold hfold
  rw [List.foldl_append, List.foldl_cons, List.foldl_nil]
theorem hfold_nil (h : Nat) : hfold h [] = h := rfl
theorem hash_snoc (l : List Nat) (x : Nat) : hash (l ++ [x]) = hstep (hash l) x := hfold_snoc _ _ _
theorem take_snoc {l : List Nat} {k : Nat} (h : k < l.length) : l.take (k + 1) = l.take k ++ [l.getD k 0] := by
  rw [List.take_add_one]
  simp [h]
theorem hfold_succ {l : List Nat} {k : Nat} (h : k < l.length) (s : Nat) : hfold s (l.take (k + 1)) = hstep (hfold s (l.take k)) (l.getD k 0) := by
  rw [take_snoc h, hfold_snoc]

theorem xor_lt64 {a b : Nat} (ha : a < 18446744073709551616) (hb : b < 18446744073709551616) : a ^^^ b < 18446744073709551616 := xor_lt (n := 64) ha hb

/-- the prime has an inverse -/
theorem mul_back (a : Nat) (ha : a < 18446744073709551616) : a * 1099511628211 % 18446744073709551616 * 14886173955864302971 % 18446744073709551616 = a := by
  rw [Nat.mod_mul_mod, Nat.mul_assoc, show 1099511628211 * 14886173955864302971 = 18446744073709551616 * 887285111055 + 1 from by decide, Nat.mul_add, Nat.mul_one, ← Nat.mul_assoc, Nat.mul_comm a, Nat.mul_assoc, Nat.mul_add_mod]
  exact Nat.mod_eq_of_lt ha

theorem hstep_inj {h x y : Nat} (hh : h < 18446744073709551616) (hx : x < 256) (hy : y < 256) : hstep h x = hstep h y ↔ x = y := by
  constructor
  · intro e
    unfold hstep at e
    have h1 := mul_back (h ^^^ x) (xor_lt64 hh (by omega))
    have h2 := mul_back (h ^^^ y) (xor_lt64 hh (by omega))
    rw [e, h2] at h1
    exact xor_left_inj h1.symm
  · intro e; rw [e]

theorem hstep_def (h x : Nat) : hstep h x = (h ^^^ x) * 1099511628211 % 18446744073709551616 := rfl

attribute [irreducible] hstep hfold

end Go.Proofs.Ytdijpoemimebmaa.Cr.Crc
