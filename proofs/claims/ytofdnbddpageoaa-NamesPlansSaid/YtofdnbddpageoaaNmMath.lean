/-
  YtofdnbddpageoaaS: a book, what a record does to it, what is planned: plain lists.
-/
import Derived.Test.YtofdnbddpageoaaPkF
namespace Go.Proofs.Ytofdnbddpageoaa.Nm
open Go.RowKit

def ixOf (N : List ByteArray) (s : ByteArray) : Option Nat := N.findIdx? (fun x => decide (x = s))

theorem ixOf_nil (s : ByteArray) : ixOf [] s = Option.none := rfl
theorem ixOf_snoc (N : List ByteArray) (t s : ByteArray) : ixOf (N ++ [t]) s = (ixOf N s).or (if t = s then some N.length else Option.none) := by
  unfold ixOf
  rw [List.findIdx?_append]
  by_cases h : t = s
  · subst h; simp [List.findIdx?_cons]
  · simp [List.findIdx?_cons, h]
theorem ixOf_get {N : List ByteArray} {s : ByteArray} {i : Nat} (h : ixOf N s = some i) : N[i]? = some s := by
  unfold ixOf at h
  rw [List.findIdx?_eq_some_iff_getElem] at h
  obtain ⟨hl, hp, _⟩ := h
  rw [List.getElem?_eq_getElem hl]
  simpa using hp
theorem ixOf_lt {N : List ByteArray} {s : ByteArray} {i : Nat} (h : ixOf N s = some i) : i < N.length := (List.getElem?_eq_some_iff.1 (ixOf_get h)).1
theorem ixOf_none {N : List ByteArray} {s : ByteArray} (h : ixOf N s = Option.none) : s ∉ N := fun hm => by
  unfold ixOf at h
  rw [List.findIdx?_eq_none_iff] at h
  have := h s hm
  simp at this
theorem ixOf_mem {N : List ByteArray} {s : ByteArray} (h : s ∈ N) : ∃ i, ixOf N s = some i := by
  cases e : ixOf N s with
  | none => exact absurd h (ixOf_none e)
  | some i => exact ⟨i, rfl⟩

/-- a time, and numbers of names -/
structure Fd where
  time : Nat
  nums : List Nat
structure Bo where
  N : List ByteArray
  F : List (Option Fd)

/-- numbers of four bytes each -/
def nums (k : Nat) (l : List Nat) : List Nat := (List.range k).map fun j => Pk.num ((l.drop (4 * j)).take 4)

theorem nums_succ (k : Nat) (l : List Nat) : nums (k + 1) l = nums k l ++ [Pk.num ((l.drop (4 * k)).take 4)] := by simp [nums, List.range_succ]
theorem nums_length (k : Nat) (l : List Nat) : (nums k l).length = k := by simp [nums]

/-- what a name's record does -/
def takeN (B : Bo) (l : List Nat) : Option Bo :=
  if Pk.txB l false = false ∧ Pk.txL l = [] ∧ ixOf B.N (Pk.str (Pk.txS l)) = Option.none then some ⟨B.N ++ [Pk.str (Pk.txS l)], B.F ++ [Option.none]⟩ else Option.none

/-- the parts of an output's record: which name, the time, how many, the rest; had it all these? -/
def oOut (l : List Nat) : Nat := Pk.rdN 4 l
def oTime (l : List Nat) : Nat := Pk.rdN 8 (Pk.rdL 4 l)
def oMany (l : List Nat) : Nat := Pk.rdN 4 (Pk.rdL 8 (Pk.rdL 4 l))
def oRest (l : List Nat) : List Nat := Pk.rdL 4 (Pk.rdL 8 (Pk.rdL 4 l))
def oBad (l : List Nat) : Bool := Pk.rdB 4 (Pk.rdL 8 (Pk.rdL 4 l)) (Pk.rdB 8 (Pk.rdL 4 l) (Pk.rdB 4 l false))

def fitsO (B : Bo) (l : List Nat) : Bool :=
  !oBad l && decide (oTime l < 4611686018427387904) && decide (oMany l * 4 = (oRest l).length) && decide (oOut l < B.N.length) && (nums (oMany l) (oRest l)).all fun n => decide (n < B.N.length)

def takeO (B : Bo) (l : List Nat) : Option Bo :=
  if fitsO B l = true then some ⟨B.N, B.F.set (oOut l) (some ⟨oTime l, nums (oMany l) (oRest l)⟩)⟩ else Option.none

def takeB (B : Bo) : List Nat → Option Bo
  | [] => Option.none
  | k :: l => if k = 1 then takeN B l else if k = 2 then takeO B l else Option.none

theorem takeB_1 (B : Bo) (l : List Nat) : takeB B (1 :: l) = takeN B l := by
  show (if (1 : Nat) = 1 then takeN B l else if (1 : Nat) = 2 then takeO B l else Option.none) = _
  rw [if_pos rfl]
theorem takeB_2 (B : Bo) (l : List Nat) : takeB B (2 :: l) = takeO B l := by
  show (if (2 : Nat) = 1 then takeN B l else if (2 : Nat) = 2 then takeO B l else Option.none) = _
  rw [if_neg (by decide), if_pos rfl]

/-! ### what is planned -/
def recN (s : ByteArray) : List Nat := 1 :: (Pk.le s.size 2 ++ Pk.sb s)
/-- the names there are, and new ones; the records of the new ones; the numbers told -/
structure Tl where
  M : List ByteArray
  recs : List (List Nat)
  ids : List Nat
def Tl.tell (t : Tl) (s : ByteArray) : Tl :=
  match ixOf t.M s with
  | some i => ⟨t.M, t.recs, t.ids ++ [i]⟩
  | Option.none => ⟨t.M ++ [s], t.recs ++ [recN s], t.ids ++ [t.M.length]⟩
def tellAll (N : List ByteArray) (l : List ByteArray) : Tl := l.foldl Tl.tell ⟨N, [], []⟩

def idB (l : List Nat) : List Nat := l.flatMap fun n => Pk.le n 4
def recO (i time : Nat) (ids : List Nat) : List Nat := 2 :: (Pk.le i 4 ++ Pk.le time 8 ++ Pk.le ids.length 4 ++ idB ids)
/-- all records that tell what was found of an output -/
def plan (N : List ByteArray) (out : ByteArray) (time : Nat) (deps : List ByteArray) : List (List Nat) :=
  let t := tellAll N (out :: deps)
  t.recs ++ [recO (t.ids.headD 0) time t.ids.tail]

def takeAll (B : Bo) : List (List Nat) → Option Bo
  | [] => some B
  | r :: l => (takeB B r).bind fun B' => takeAll B' l

theorem takeAll_app (B : Bo) (l k : List (List Nat)) : takeAll B (l ++ k) = (takeAll B l).bind fun B' => takeAll B' k := by
  induction l generalizing B with
  | nil => rfl
  | cons r l ih =>
    show ((takeB B r).bind fun B' => takeAll B' (l ++ k)) = _
    cases h : takeB B r with
    | none => simp [takeAll, h]
    | some B' => simp [takeAll, h, ih]

theorem takeB_name {B : Bo} {s : ByteArray} (hs : s.size ≤ 65535) (hn : ixOf B.N s = Option.none) : takeB B (recN s) = some ⟨B.N ++ [s], B.F ++ [Option.none]⟩ := by
  obtain ⟨h1, h2, h3⟩ := Pk.tx_le s [] hs
  rw [List.append_nil] at h1 h2 h3
  unfold recN
  rw [takeB_1]
  unfold takeN
  rw [h1, h2, h3, Pk.str_sb, if_pos ⟨rfl, rfl, hn⟩]

/-- the state of a telling -/
structure Told (B : Bo) (l : List ByteArray) (t : Tl) : Prop where
  got : takeAll B t.recs = some ⟨t.M, B.F ++ List.replicate (t.M.length - B.N.length) Option.none⟩
  ge : B.N.length ≤ t.M.length
  le : t.M.length ≤ B.N.length + l.length
  len : t.ids.length = l.length
  at' : ∀ (j i : Nat), t.ids[j]? = some i → i < t.M.length ∧ t.M[i]? = l[j]?
  pre : ∃ K, t.M = B.N ++ K

theorem told_nil (B : Bo) : Told B [] ⟨B.N, [], []⟩ :=
  ⟨by simp [takeAll], Nat.le_refl _, by simp, rfl, by simp, ⟨[], by simp⟩⟩

theorem told_snoc {B : Bo} {l : List ByteArray} {t : Tl} (h : Told B l t) {s : ByteArray} (hs : s.size ≤ 65535) : Told B (l ++ [s]) (t.tell s) := by
  unfold Tl.tell
  cases e : ixOf t.M s with
  | some i =>
    refine ⟨h.got, h.ge, by have := h.le; simp; omega, by simp [h.len], fun j k hk => ?_, h.pre⟩
    simp only at hk
    rcases Nat.lt_or_ge j t.ids.length with hj | hj
    · rw [List.getElem?_append_left hj] at hk
      rw [List.getElem?_append_left (by rw [← h.len]; exact hj)]
      exact h.at' j k hk
    · rw [List.getElem?_append_right hj] at hk
      have hj0 : j - t.ids.length = 0 := by
        have := (List.getElem?_eq_some_iff.1 hk).1
        simp at this
        omega
      rw [hj0] at hk
      have hki : i = k := by simpa using hk
      subst hki
      rw [List.getElem?_append_right (by rw [← h.len]; exact hj), ← h.len, hj0]
      exact ⟨ixOf_lt e, by rw [ixOf_get e]; rfl⟩
  | none =>
    refine ⟨?_, by simp; have := h.ge; omega, by have := h.le; simp; omega, by simp [h.len], fun j k hk => ?_, ?_⟩
    · show takeAll B (t.recs ++ [recN s]) = _
      rw [takeAll_app, h.got]
      show ((takeB _ (recN s)).bind fun B' => takeAll B' []) = _
      rw [takeB_name hs e]
      show some _ = _
      congr 2
      have hl : (t.M ++ [s]).length - B.N.length = (t.M.length - B.N.length) + 1 := by have := h.ge; simp; omega
      rw [hl, List.replicate_succ', List.append_assoc]
    · simp only at hk
      show k < (t.M ++ [s]).length ∧ (t.M ++ [s])[k]? = (l ++ [s])[j]?
      rcases Nat.lt_or_ge j t.ids.length with hj | hj
      · rw [List.getElem?_append_left hj] at hk
        rw [List.getElem?_append_left (l₁ := l) (by rw [← h.len]; exact hj)]
        obtain ⟨h1, h2⟩ := h.at' j k hk
        exact ⟨by simp; omega, by rw [List.getElem?_append_left h1]; exact h2⟩
      · rw [List.getElem?_append_right hj] at hk
        have hj0 : j - t.ids.length = 0 := by
          have := (List.getElem?_eq_some_iff.1 hk).1
          simp at this
          omega
        rw [hj0] at hk
        have hki : t.M.length = k := by simpa using hk
        subst hki
        rw [List.getElem?_append_right (l₁ := l) (by rw [← h.len]; exact hj), ← h.len, hj0]
        exact ⟨by simp, by simp⟩
    · obtain ⟨K, hK⟩ := h.pre
      exact ⟨K ++ [s], by simp [hK]⟩

theorem told_all {B : Bo} {l : List ByteArray} (hl : ∀ s ∈ l, s.size ≤ 65535) : Told B l (tellAll B.N l) := by
  unfold tellAll
  have : ∀ (k : List ByteArray) (m : List ByteArray) (t : Tl), Told B m t → (∀ s ∈ k, s.size ≤ 65535) → Told B (m ++ k) (k.foldl Tl.tell t) := by
    intro k
    induction k with
    | nil => intro m t h _; simpa using h
    | cons s k ih =>
      intro m t h hk
      have := ih (m ++ [s]) (t.tell s) (told_snoc h (hk s (by simp))) (fun x hx => hk x (by simp [hx]))
      simpa using this
  simpa using this l [] _ (told_nil B) hl

theorem idB_length (l : List Nat) : (idB l).length = l.length * 4 := by
  induction l with
  | nil => rfl
  | cons n l ih => simp [idB, Pk.le_length] at *; omega

theorem snoc_ind {α : Type} {P : List α → Prop} (h0 : P []) (hs : ∀ L x, P L → P (L ++ [x])) (L : List α) : P L := by
  have h : ∀ K : List α, P K.reverse := by
    intro K
    induction K with
    | nil => exact h0
    | cons x K ih => rw [List.reverse_cons]; exact hs _ x ih
  have := h L.reverse
  rwa [List.reverse_reverse] at this

theorem nums_idB (l : List Nat) (hl : ∀ n ∈ l, n < 4294967296) : nums l.length (idB l) = l := by
  have key : ∀ (a b : List Nat), (∀ n ∈ a ++ b, n < 4294967296) → nums a.length (idB (a ++ b)) = a := by
    intro a
    refine snoc_ind (P := fun a => ∀ b, (∀ n ∈ a ++ b, n < 4294967296) → nums a.length (idB (a ++ b)) = a) ?_ ?_ a
    · intro b _; rfl
    · intro a x ih b hb
      rw [List.length_append, List.length_singleton, nums_succ]
      have e : a ++ [x] ++ b = a ++ (x :: b) := by simp
      rw [e, ih (x :: b) (by rw [← e]; exact hb)]
      congr 1
      have e2 : idB (a ++ x :: b) = idB a ++ (Pk.le x 4 ++ idB b) := by simp [idB]
      rw [e2, List.drop_append_of_le_length (by rw [idB_length]; omega), List.drop_of_length_le (by rw [idB_length]; omega), List.nil_append, List.take_append_of_le_length (Nat.le_of_eq (Pk.le_length x 4).symm), List.take_of_length_le (Nat.le_of_eq (Pk.le_length x 4)), Pk.num_le, Nat.mod_eq_of_lt (hb x (by simp))]
  have := key l [] (by simpa using hl)
  simpa using this

theorem takeB_out {B : Bo} {i time : Nat} {ids : List Nat} (hN : B.N.length < 4294967296) (hi : i < B.N.length) (ht : time < 4611686018427387904) (hm : ids.length < 4294967296) (hids : ∀ n ∈ ids, n < B.N.length) :
    takeB B (recO i time ids) = some ⟨B.N, B.F.set i (some ⟨time, ids⟩)⟩ := by
  have e0 : Pk.le i 4 ++ Pk.le time 8 ++ Pk.le ids.length 4 ++ idB ids = Pk.le i 4 ++ (Pk.le time 8 ++ (Pk.le ids.length 4 ++ idB ids)) := by simp
  obtain ⟨a1, a2, a3⟩ := Pk.rd_le 4 i (Pk.le time 8 ++ (Pk.le ids.length 4 ++ idB ids))
  obtain ⟨b1, b2, b3⟩ := Pk.rd_le 8 time (Pk.le ids.length 4 ++ idB ids)
  obtain ⟨c1, c2, c3⟩ := Pk.rd_le 4 ids.length (idB ids)
  have o1 : oOut (Pk.le i 4 ++ (Pk.le time 8 ++ (Pk.le ids.length 4 ++ idB ids))) = i := by unfold oOut; rw [a1]; omega
  have o2 : oTime (Pk.le i 4 ++ (Pk.le time 8 ++ (Pk.le ids.length 4 ++ idB ids))) = time := by unfold oTime; rw [a2, b1]; omega
  have o3 : oMany (Pk.le i 4 ++ (Pk.le time 8 ++ (Pk.le ids.length 4 ++ idB ids))) = ids.length := by unfold oMany; rw [a2, b2, c1]; omega
  have o4 : oRest (Pk.le i 4 ++ (Pk.le time 8 ++ (Pk.le ids.length 4 ++ idB ids))) = idB ids := by unfold oRest; rw [a2, b2, c2]
  have o5 : oBad (Pk.le i 4 ++ (Pk.le time 8 ++ (Pk.le ids.length 4 ++ idB ids))) = false := by unfold oBad; rw [a3, a2, b3, b2, c3]
  unfold recO
  rw [takeB_2, e0]
  have hn : nums ids.length (idB ids) = ids := nums_idB ids (fun n hn => Nat.lt_trans (hids n hn) hN)
  unfold takeO
  have hf : fitsO B (Pk.le i 4 ++ (Pk.le time 8 ++ (Pk.le ids.length 4 ++ idB ids))) = true := by
    unfold fitsO
    rw [o1, o2, o3, o4, o5, hn]
    simp [ht, hi, idB_length]
    exact fun n h => hids n h
  rw [if_pos hf, o1, o2, o3, o4, hn]

/-- what is planned is taken, and told from then on -/
theorem plan_took {B : Bo} {out : ByteArray} {time : Nat} {deps : List ByteArray} (hs : ∀ s ∈ out :: deps, s.size ≤ 65535) (hN : B.N.length + deps.length + 1 < 4294967296) (ht : time < 4611686018427387904) :
    ∃ (t : Tl) (i : Nat) (ids : List Nat), t = tellAll B.N (out :: deps) ∧ t.ids = i :: ids ∧ Told B (out :: deps) t ∧
      takeAll B (plan B.N out time deps) = some ⟨t.M, (B.F ++ List.replicate (t.M.length - B.N.length) Option.none).set i (some ⟨time, ids⟩)⟩ := by
  have h := told_all (B := B) hs
  obtain ⟨t, ht0⟩ : ∃ t, t = tellAll B.N (out :: deps) := ⟨_, rfl⟩
  rw [← ht0] at h
  have hl := h.len
  have hle := h.le
  have hat := h.at'
  obtain ⟨i, ids, hids⟩ : ∃ i ids, t.ids = i :: ids := by
    cases e : t.ids with
    | nil => rw [e] at hl; simp at hl
    | cons i ids => exact ⟨i, ids, rfl⟩
  rw [hids] at hl hat
  simp only [List.length_cons] at hl hle
  refine ⟨t, i, ids, ht0, hids, h, ?_⟩
  unfold plan
  rw [← ht0]
  show takeAll B (t.recs ++ [recO (t.ids.headD 0) time t.ids.tail]) = _
  rw [hids]
  show takeAll B (t.recs ++ [recO i time ids]) = _
  have e : takeB ⟨t.M, B.F ++ List.replicate (t.M.length - B.N.length) Option.none⟩ (recO i time ids) = some ⟨t.M, (B.F ++ List.replicate (t.M.length - B.N.length) Option.none).set i (some ⟨time, ids⟩)⟩ := by
    have q1 : t.M.length < 4294967296 := by omega
    have q2 : ids.length < 4294967296 := by omega
    have q3 : i < t.M.length := (hat 0 i rfl).1
    have q4 : ∀ n ∈ ids, n < t.M.length := fun n hn => by
      obtain ⟨j, hj⟩ := List.mem_iff_getElem?.1 hn
      exact (hat (j + 1) n (by simpa using hj)).1
    exact takeB_out (B := ⟨t.M, B.F ++ List.replicate (t.M.length - B.N.length) Option.none⟩) q1 q3 ht q2 q4
  rw [takeAll_app, h.got, Option.bind_some]
  simp only [takeAll, e, Option.bind_some]
end Go.Proofs.Ytofdnbddpageoaa.Nm
