/-
  WHAT A BOOK TELLS, and what becomes of it behind what is planned: plain lists.
-/
import Derived.Test.YtofdnbddpageoaaNmPlan
namespace Go.Proofs.Ytofdnbddpageoaa.Nm
open Go.RowKit

structure Dp where
  out : ByteArray
  time : Int
  deps : List ByteArray

def nameAt (N : List ByteArray) (n : Nat) : ByteArray := N.getD n ⟨#[]⟩
def depOf (N : List ByteArray) (s : ByteArray) (fd : Fd) : Dp := ⟨s, (fd.time : Int), fd.nums.map (nameAt N)⟩
/-- what a book has of an output -/
def lookB (B : Bo) (s : ByteArray) : Option Dp := (ixOf B.N s).bind fun i => (B.F[i]?).bind fun o => o.map fun fd => depOf B.N s fd

def dpE (d : Dp) : Nat := planE d.out d.time d.deps
def planD (N : List ByteArray) (d : Dp) : List (List Nat) := plan N d.out d.time.toNat d.deps
def stepB (B : Bo) (d : Dp) : Bo := if dpE d = 0 then (takeAll B (planD B.N d)).getD B else B
def toldB (L : List Dp) : Bo := L.foldl stepB ⟨[], []⟩

/-- a book whose numbers are right -/
structure OkB (B : Bo) : Prop where
  len : B.F.length = B.N.length
  nums : ∀ (i : Nat) fd, B.F[i]? = some (some fd) → ∀ n ∈ fd.nums, n < B.N.length

theorem okB_nil : OkB ⟨[], []⟩ := ⟨rfl, fun i fd h => by simp at h⟩

theorem ixOf_more {N K : List ByteArray} {s : ByteArray} {i : Nat} (h : ixOf N s = some i) : ixOf (N ++ K) s = some i := by rw [ixOf_app, h]; rfl

theorem tell_grows (t : Tl) (s : ByteArray) : ∃ K, (t.tell s).M = t.M ++ K := by
  unfold Tl.tell
  cases ixOf t.M s with
  | some i => exact ⟨[], by simp⟩
  | none => exact ⟨[s], rfl⟩

/-- each name's number is where it stands first -/
theorem told_ix (N l : List ByteArray) : ∀ (j : Nat) (s : ByteArray), l[j]? = some s → ∃ i, (tellAll N l).ids[j]? = some i ∧ ixOf (tellAll N l).M s = some i := by
  refine snoc_ind (P := fun l => ∀ (j : Nat) (s : ByteArray), l[j]? = some s → ∃ i, (tellAll N l).ids[j]? = some i ∧ ixOf (tellAll N l).M s = some i) ?_ ?_ l
  · intro j s h; simp at h
  · intro l x ih j s hj
    have hlen := (tell_len N l).2.2
    rw [tellAll_snoc]
    obtain ⟨K, hK⟩ := tell_grows (tellAll N l) x
    rw [tell_ids, hK]
    rcases Nat.lt_or_ge j l.length with h | h
    · rw [List.getElem?_append_left h] at hj
      obtain ⟨i, h1, h2⟩ := ih j s hj
      exact ⟨i, by rw [List.getElem?_append_left (by omega)]; exact h1, ixOf_more h2⟩
    · rw [List.getElem?_append_right h] at hj
      have hj0 : j - l.length = 0 := by
        have := (List.getElem?_eq_some_iff.1 hj).1
        simp at this
        omega
      rw [hj0] at hj
      simp at hj
      subst hj
      refine ⟨numOf (tellAll N l).M x, by rw [List.getElem?_append_right (by omega), hlen, hj0]; rfl, ?_⟩
      unfold numOf
      rw [← hK]
      unfold Tl.tell
      cases e : ixOf (tellAll N l).M x with
      | some i => exact e
      | none => show ixOf ((tellAll N l).M ++ [x]) x = _; rw [ixOf_snoc, e, if_pos rfl]; rfl

theorem planE_zero {d : Dp} (h : dpE d = 0) : 0 ≤ d.time ∧ d.time < 4611686018427387904 ∧ d.deps.length ≤ 1000 ∧ ∀ s ∈ d.out :: d.deps, s.size ≤ 4000 := by
  unfold dpE planE at h
  split at h
  · cases h
  · rename_i h1
    split at h
    · cases h
    · rename_i h2
      refine ⟨by omega, by omega, by omega, fun s hs => ?_⟩
      have hno : longS s = false := by
        rcases List.mem_cons.1 hs with rfl | hs
        · exact Bool.eq_false_iff.2 fun h => h2 (.inl h)
        · exact Bool.eq_false_iff.2 fun hz => h2 (.inr (.inr (List.any_eq_true.2 ⟨s, hs, hz⟩)))
      unfold longS at hno
      have := of_decide_eq_false hno
      omega

theorem bind_rep {j n : Nat} {α : Type} {f : Fd → α} : ((List.replicate n (Option.none : Option Fd))[j]?).bind (fun o => o.map f) = Option.none := by
  rw [List.getElem?_replicate]
  split <;> rfl

/-- a plan that is taken -/
theorem plan_fin {B : Bo} {d : Dp} (hE : dpE d = 0) (hB : OkB B) (hN : B.N.length ≤ 1000000) :
    ∃ B', takeAll B (planD B.N d) = some B' ∧ OkB B' ∧ B'.N.length ≤ B.N.length + d.deps.length + 1 ∧ B'.N = (tellAll B.N (d.out :: d.deps)).M ∧ ∀ s, lookB B' s = if s = d.out then some d else lookB B s := by
  obtain ⟨h0, h1, h2, h3⟩ := planE_zero hE
  obtain ⟨t, i, ids, ht, hids, hT, hfin⟩ := plan_took (B := B) (out := d.out) (time := d.time.toNat) (deps := d.deps) (fun s hs => by have := h3 s hs; omega) (by omega) (by omega)
  have hix := told_ix B.N (d.out :: d.deps)
  rw [← ht] at hix
  have hle := hT.le
  have hge := hT.ge
  have hat := hT.at'
  rw [hids] at hix hat
  have hi : ixOf t.M d.out = some i := by
    obtain ⟨i', h5, h6⟩ := hix 0 d.out rfl
    simp at h5
    rw [h5]
    exact h6
  have hil := ixOf_lt hi
  have hil2 : ids.length = d.deps.length := by have := hT.len; rw [hids] at this; simpa using this
  obtain ⟨K, hK⟩ := hT.pre
  have hKl : t.M.length - B.N.length = K.length := by rw [hK]; simp
  rw [hKl] at hfin
  have hFl : (B.F ++ List.replicate K.length (Option.none : Option Fd)).length = t.M.length := by rw [hK]; simp [hB.len]
  have hnums : ∀ n ∈ ids, n < t.M.length := fun n hn => by
    obtain ⟨j, hj⟩ := List.mem_iff_getElem?.1 hn
    exact (hat (j + 1) n (by simpa using hj)).1
  refine ⟨_, hfin, ⟨by rw [List.length_set]; exact hFl, fun j fd hj n hn => ?_⟩, by simp only [List.length_cons] at hle; show t.M.length ≤ _; omega, by show t.M = _; rw [ht], fun s => ?_⟩
  · show n < t.M.length
    rw [List.getElem?_set] at hj
    split at hj
    · split at hj
      · cases hj; exact hnums n hn
      · cases hj
    · rcases Nat.lt_or_ge j B.F.length with hl | hl
      · rw [List.getElem?_append_left hl] at hj
        exact Nat.lt_of_lt_of_le (hB.nums j fd hj n hn) hge
      · rw [List.getElem?_append_right hl, List.getElem?_replicate] at hj
        split at hj <;> cases hj
  · by_cases hs : s = d.out
    · subst hs
      rw [if_pos rfl]
      show (ixOf t.M d.out).bind _ = _
      rw [hi, Option.bind_some]
      show (((B.F ++ _).set i (some ⟨d.time.toNat, ids⟩))[i]?).bind _ = _
      rw [List.getElem?_set_self (by rw [hFl]; exact hil)]
      show some (depOf t.M d.out ⟨d.time.toNat, ids⟩) = some d
      congr 1
      unfold depOf
      have e1 : ((d.time.toNat : Nat) : Int) = d.time := Int.toNat_of_nonneg h0
      have e2 : ids.map (nameAt t.M) = d.deps := by
        apply List.ext_getElem?
        intro j
        rw [List.getElem?_map]
        cases hj : ids[j]? with
        | none =>
          rw [List.getElem?_eq_none_iff] at hj
          rw [List.getElem?_eq_none (by omega)]
          rfl
        | some n =>
          have := hat (j + 1) n (by simpa using hj)
          have h7 : t.M[n]? = d.deps[j]? := by simpa using this.2
          rw [← h7, Option.map_some, List.getElem?_eq_getElem this.1]
          simp [nameAt, List.getD, List.getElem?_eq_getElem this.1]
      show (⟨d.out, ((d.time.toNat : Nat) : Int), ids.map (nameAt t.M)⟩ : Dp) = d
      rw [e1, e2]
    · rw [if_neg hs]
      show (ixOf t.M s).bind _ = _
      unfold lookB
      cases hx : ixOf B.N s with
      | some j =>
        have hM : ixOf t.M s = some j := by rw [hK]; exact ixOf_more hx
        rw [hM, Option.bind_some, Option.bind_some]
        have hjl := ixOf_lt hx
        have hji : i ≠ j := by
          rintro rfl
          have a1 := ixOf_get hM
          have a2 := ixOf_get hi
          rw [a1] at a2
          exact hs (Option.some.inj a2)
        show (((B.F ++ _).set i (some ⟨d.time.toNat, ids⟩))[j]?).bind _ = _
        rw [List.getElem?_set_ne hji, List.getElem?_append_left (by rw [hB.len]; exact hjl)]
        cases hf : B.F[j]? with
        | none => rfl
        | some o =>
          cases o with
          | none => rfl
          | some fd =>
            show some (depOf t.M s fd) = some (depOf B.N s fd)
            congr 1
            unfold depOf
            congr 1
            refine List.map_congr_left fun n hn => ?_
            have := hB.nums j fd hf n hn
            unfold nameAt
            rw [hK]
            simp [List.getD, List.getElem?_append_left this]
      | none =>
        rw [Option.bind_none]
        cases hM : ixOf t.M s with
        | none => rfl
        | some j =>
          rw [Option.bind_some]
          have hj : B.F.length ≤ j := by
            rcases Nat.lt_or_ge j B.N.length with h | h
            · exfalso
              have a1 := ixOf_get hM
              rw [hK, List.getElem?_append_left h] at a1
              exact ixOf_none hx (List.mem_of_getElem? a1)
            · rw [hB.len]; exact h
          have hji : i ≠ j := by
            rintro rfl
            have a1 := ixOf_get hM
            have a2 := ixOf_get hi
            rw [a1] at a2
            exact hs (Option.some.inj a2)
          show (((B.F ++ _).set i (some ⟨d.time.toNat, ids⟩))[j]?).bind _ = _
          rw [List.getElem?_set_ne hji, List.getElem?_append_right hj]
          exact bind_rep

theorem toldB_snoc (L : List Dp) (d : Dp) : toldB (L ++ [d]) = stepB (toldB L) d := by simp [toldB]

/-- a book that told some outputs, of at most 50 names each -/
theorem told_ok {L : List Dp} (hL : L.length ≤ 1000) (hd : ∀ d ∈ L, d.deps.length ≤ 50) : OkB (toldB L) ∧ (toldB L).N.length ≤ 51 * L.length := by
  refine snoc_ind (P := fun L => L.length ≤ 1000 → (∀ d ∈ L, d.deps.length ≤ 50) → OkB (toldB L) ∧ (toldB L).N.length ≤ 51 * L.length) ?_ ?_ L hL hd
  · intro _ _; exact ⟨okB_nil, by simp [toldB]⟩
  · intro L d ih hL hd
    rw [List.length_append, List.length_singleton] at hL
    obtain ⟨h1, h2⟩ := ih (by omega) (fun x hx => hd x (by simp [hx]))
    rw [toldB_snoc, List.length_append, List.length_singleton]
    have hdd := hd d (by simp)
    unfold stepB
    by_cases hE : dpE d = 0
    · rw [if_pos hE]
      obtain ⟨B', h3, h4, h5, -, -⟩ := plan_fin hE h1 (by omega)
      rw [h3]
      exact ⟨h4, by show B'.N.length ≤ _; omega⟩
    · rw [if_neg hE]
      exact ⟨h1, by omega⟩

theorem told_look {L : List Dp} (hL : L.length ≤ 1000) (hd : ∀ d ∈ L, d.deps.length ≤ 50) {d : Dp} (hdd : d.deps.length ≤ 50) (s : ByteArray) : lookB (stepB (toldB L) d) s = if dpE d = 0 ∧ s = d.out then some d else lookB (toldB L) s := by
  obtain ⟨h1, h2⟩ := told_ok hL hd
  unfold stepB
  by_cases hE : dpE d = 0
  · rw [if_pos hE]
    obtain ⟨B', h3, h4, h5, -, h6⟩ := plan_fin hE h1 (by omega)
    rw [h3]
    show lookB B' s = _
    rw [h6]
    by_cases hs : s = d.out
    · rw [if_pos hs, if_pos ⟨hE, hs⟩]
    · rw [if_neg hs, if_neg (fun h => hs h.2)]
  · rw [if_neg hE, if_neg (fun h => hE h.1)]

/-- of each output the last one -/
theorem told_last {L : List Dp} (hL : L.length ≤ 1000) (hd : ∀ d ∈ L, d.deps.length ≤ 50) {i : Nat} {d : Dp} (hi : L[i]? = some d) (hE : dpE d = 0) (hlast : ∀ k x, i < k → L[k]? = some x → ¬ (dpE x = 0 ∧ x.out = d.out)) : lookB (toldB L) d.out = some d := by
  have hil := (List.getElem?_eq_some_iff.1 hi).1
  have key : ∀ m, i < m → m ≤ L.length → lookB (toldB (L.take m)) d.out = some d := by
    intro m
    induction m with
    | zero => intro h; omega
    | succ m ih =>
      intro h1 h2
      have hx := List.getElem?_eq_getElem (show m < L.length by omega)
      rw [List.take_add_one, hx, Option.toList_some, toldB_snoc, told_look (by rw [List.length_take]; omega) (fun y hy => hd y (List.mem_of_mem_take hy)) (hd _ (List.getElem_mem _))]
      rcases Nat.lt_or_ge i m with h | h
      · rw [if_neg (fun h3 => hlast m _ h hx ⟨h3.1, h3.2.symm⟩)]
        exact ih h (by omega)
      · obtain rfl : m = i := by omega
        have : L[m] = d := by rw [hx] at hi; exact Option.some.inj hi
        rw [this, if_pos ⟨hE, rfl⟩]
  have := key L.length hil (Nat.le_refl _)
  rwa [List.take_length] at this

/-! ### what is planned, record by record -/
theorem takeAll_take {B B' : Bo} {rs : List (List Nat)} (h : takeAll B rs = some B') (k : Nat) : ∃ Bk, takeAll B (rs.take k) = some Bk ∧ ∀ r, rs[k]? = some r → ∃ Bn, takeB Bk r = some Bn ∧ takeAll B (rs.take (k + 1)) = some Bn := by
  induction rs generalizing B k with
  | nil => exact ⟨B, by simp [takeAll], fun r hr => by simp at hr⟩
  | cons r rs ih =>
    cases hb : takeB B r with
    | none => simp [takeAll, hb] at h
    | some B1 =>
      have h' : takeAll B1 rs = some B' := by simpa [takeAll, hb] using h
      cases k with
      | zero => exact ⟨B, rfl, fun x hx => by simp at hx; subst hx; exact ⟨B1, hb, by simp [takeAll, hb]⟩⟩
      | succ k =>
        obtain ⟨Bk, h1, h2⟩ := ih h' k
        refine ⟨Bk, by simp [takeAll, hb, h1], fun x hx => ?_⟩
        obtain ⟨Bn, h3, h4⟩ := h2 x (by simpa using hx)
        exact ⟨Bn, h3, by simp [takeAll, hb] at h4 ⊢; exact h4⟩

theorem takeB_len {B B' : Bo} {r : List Nat} (h : takeB B r = some B') : B.N.length ≤ B'.N.length ∧ B'.N.length ≤ B.N.length + 1 := by
  cases r with
  | nil => cases h
  | cons k l =>
    have h : (if k = 1 then takeN B l else if k = 2 then takeO B l else Option.none) = some B' := h
    split at h
    · unfold takeN at h
      split at h
      · cases h; simp
      · cases h
    · split at h
      · unfold takeO at h
        split at h
        · cases h; simp
        · cases h
      · cases h

theorem recs_all (N l : List ByteArray) : ∀ r ∈ (tellAll N l).recs, ∃ s ∈ l, r = recN s := by
  refine snoc_ind (P := fun l => ∀ r ∈ (tellAll N l).recs, ∃ s ∈ l, r = recN s) ?_ ?_ l
  · intro r hr; simp [tellAll] at hr
  · intro l x ih r hr
    rw [tellAll_snoc] at hr
    unfold Tl.tell at hr
    cases e : ixOf (tellAll N l).M x with
    | some i =>
      rw [e] at hr
      obtain ⟨s, h1, h2⟩ := ih r hr
      exact ⟨s, by simp [h1], h2⟩
    | none =>
      rw [e] at hr
      rcases List.mem_append.1 hr with hr | hr
      · obtain ⟨s, h1, h2⟩ := ih r hr
        exact ⟨s, by simp [h1], h2⟩
      · exact ⟨x, by simp, by simpa using hr⟩

theorem le_small (n k : Nat) : ∀ x ∈ Pk.le n k, x < 256 := by
  intro x hx
  unfold Pk.le at hx
  obtain ⟨i, _, rfl⟩ := List.mem_map.1 hx
  omega
theorem sb_small (s : ByteArray) : ∀ x ∈ Pk.sb s, x < 256 := Pk.sb_lt s

theorem idB_small (l : List Nat) : ∀ x ∈ idB l, x < 256 := by
  intro x hx
  obtain ⟨n, _, h⟩ := List.mem_flatMap.1 hx
  exact le_small n 4 x h

theorem planD_small {N : List ByteArray} {d : Dp} (hE : dpE d = 0) : ∀ r ∈ planD N d, r.length ≤ 1000000 ∧ ∀ x ∈ r, x < 256 := by
  obtain ⟨_, _, h2, h3⟩ := planE_zero hE
  intro r hr
  unfold planD plan at hr
  rcases List.mem_append.1 hr with hr | hr
  · obtain ⟨s, hs, rfl⟩ := recs_all _ _ r hr
    have := h3 s hs
    refine ⟨by simp [recN, Pk.le_length, Pk.sb_length]; omega, fun x hx => ?_⟩
    unfold recN at hx
    rcases List.mem_cons.1 hx with h | h
    · omega
    · rcases List.mem_append.1 h with h | h
      · exact le_small _ _ x h
      · exact sb_small s x h
  · simp only [List.mem_singleton] at hr
    subst hr
    have hl := (tell_len N (d.out :: d.deps)).2.2
    have hl2 : (tellAll N (d.out :: d.deps)).ids.tail.length = d.deps.length := by rw [List.length_tail, hl]; simp
    refine ⟨by simp [recO, Pk.le_length, idB_length, hl]; omega, fun x hx => ?_⟩
    unfold recO at hx
    rcases List.mem_cons.1 hx with h | h
    · omega
    · rcases List.mem_append.1 h with h | h
      · rcases List.mem_append.1 h with h | h
        · rcases List.mem_append.1 h with h | h
          · exact le_small _ _ x h
          · exact le_small _ _ x h
        · exact le_small _ _ x h
      · exact idB_small _ x h
end Go.Proofs.Ytofdnbddpageoaa.Nm
