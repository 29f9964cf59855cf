/-
  WORDS BETWEEN BLANKS, BY RUNES: what FieldsFunc makes at the blank is what the bytes say.
-/
import Derived.Test.YtgledabcfonbeaaGreatDoorCkJ2
import Derived.Test.YtgledabcfonbeaaGreatDoorPaRef
import Derived.Lib.FieldsP
import Derived.Lib.DecodeN
import Derived.Laws.OwnMore
import Derived.RegionTactic
import Derived.ChangeAlike
import Derived.Maps.AppendAt
import Derived.Deep.AppendLies
namespace Go.Proofs.YtgledabcfonbeaaGreatDoor.Df
open Go.Proofs.YtgledabcfonbeaaGreatDoor

theorem decN (n b0 b1 b2 b3 : Nat) (hn : 0 < n) :
    ((Lib.decodeN n b0 b1 b2 b3).1 = 32 ∧ (Lib.decodeN n b0 b1 b2 b3).2 = 1 ∧ b0 = 32) ∨
    ((Lib.decodeN n b0 b1 b2 b3).1 ≠ 32 ∧ 1 ≤ (Lib.decodeN n b0 b1 b2 b3).2 ∧ (Lib.decodeN n b0 b1 b2 b3).2 ≤ n ∧ b0 ≠ 32 ∧
      (1 < (Lib.decodeN n b0 b1 b2 b3).2 → b1 ≠ 32) ∧ (2 < (Lib.decodeN n b0 b1 b2 b3).2 → b2 ≠ 32) ∧ (3 < (Lib.decodeN n b0 b1 b2 b3).2 → b3 ≠ 32) ∧ (Lib.decodeN n b0 b1 b2 b3).2 ≤ 4) := by
  unfold Lib.decodeN
  by_cases h0 : b0 < 128
  · rw [if_pos h0]
    by_cases h : b0 = 32
    · left; exact ⟨h, rfl, h⟩
    · right; refine ⟨h, by simp, by simp; omega, h, ?_, ?_, ?_, by simp⟩ <;> (simp)
  · right
    rw [if_neg h0]
    repeat' split
    all_goals (simp only; refine ⟨by omega, by omega, by omega, by omega, fun _ => by omega, fun _ => by omega, fun _ => by omega, by omega⟩)

theorem get_at (s : Bs) {j : Nat} (h : j < s.length) : (mk s).get! j = s[j] := by
  have h2 : j < (mk s).size := by rw [mk_size]; exact h
  show (mk s).data[j]! = s[j]
  rw [getElem!_pos (mk s).data j h2]
  rfl

theorem dec_mk (s : Bs) (pos : Nat) (h : pos < s.length) :
    ((Utf8.decode (mk s) pos).1 = 32 ∧ (Utf8.decode (mk s) pos).2 = 1 ∧ s[pos] = 32) ∨
    ((Utf8.decode (mk s) pos).1 ≠ 32 ∧ 1 ≤ (Utf8.decode (mk s) pos).2 ∧ pos + (Utf8.decode (mk s) pos).2 ≤ s.length ∧ ∀ k, k < (Utf8.decode (mk s) pos).2 → s[pos + k]? ≠ some 32) := by
  rw [Lib.decode_at, mk_size]
  have key : ∀ k, pos + k < s.length → ((mk s).get! (pos + k)).toNat ≠ 32 → s[pos + k]? ≠ some 32 := fun k hk hne e => by
    rw [List.getElem?_eq_getElem hk] at e
    rw [get_at s hk, Option.some.inj e] at hne
    exact hne rfl
  rcases decN (s.length - pos) ((mk s).get! pos).toNat ((mk s).get! (pos + 1)).toNat ((mk s).get! (pos + 2)).toNat ((mk s).get! (pos + 3)).toNat (by omega) with ⟨h1, h2, h3⟩ | ⟨h1, h2, h3, h4, h5, h6, h7, h8⟩
  · left
    refine ⟨h1, h2, ?_⟩
    rw [get_at s h] at h3
    exact UInt8.toNat_inj.1 h3
  · right
    generalize (Lib.decodeN (s.length - pos) ((mk s).get! pos).toNat ((mk s).get! (pos + 1)).toNat ((mk s).get! (pos + 2)).toNat ((mk s).get! (pos + 3)).toNat).2 = n at *
    refine ⟨h1, h2, by omega, fun k hk => ?_⟩
    have hlt : pos + k < s.length := by omega
    refine key k hlt ?_
    match k, hk with
    | 0, _ => exact h4
    | 1, hk => exact h5 hk
    | 2, hk => exact h6 hk
    | 3, hk => exact h7 hk
    | k + 4, hk => omega

theorem words_go (r : Bs) : ∀ (p cur : Bs), (∀ b ∈ p, b ≠ 32) → words cur (p ++ r) = words (cur ++ p) r
  | [], cur, _ => by simp
  | b :: p, cur, h => by
    rw [List.cons_append, words, if_neg (h b (by simp)), words_go r p _ fun x hx => h x (by simp [hx])]
    simp

def extS (s : Bs) (x : Nat × Nat) : Bs := (s.drop x.1).take (x.2 - x.1)
def curS (s : Bs) (pos : Nat) : Option Nat → Bs
  | some a => (s.drop a).take (pos - a)
  | none => []

theorem spans_succ (p : Nat → Bool) (s : ByteArray) (f pos : Nat) (st : Option Nat) (acc : List (Nat × Nat)) : Lib.spansFromP p s (f + 1) pos st acc =
    if pos < s.size then (if p (Utf8.decode s pos).1 then (match st with | some a => Lib.spansFromP p s f (pos + (Utf8.decode s pos).2) none (acc ++ [(a, pos)]) | none => Lib.spansFromP p s f (pos + (Utf8.decode s pos).2) none acc)
      else (match st with | some a => Lib.spansFromP p s f (pos + (Utf8.decode s pos).2) (some a) acc | none => Lib.spansFromP p s f (pos + (Utf8.decode s pos).2) (some pos) acc)) else (acc, st) := rfl
theorem spans_go (s : Bs) : ∀ (f pos : Nat) (st : Option Nat) (acc : List (Nat × Nat)), s.length ≤ f + pos → pos ≤ s.length → (∀ a, st = some a → a < pos) →
    (Lib.closeSpans (mk s) (Lib.spansFromP (fun n => n == 32) (mk s) f pos st acc)).map (extS s) = acc.map (extS s) ++ words (curS s pos st) (s.drop pos)
  | 0, pos, st, acc, hf, hp, ha => by
    have hd : s.drop pos = [] := List.drop_eq_nil_of_le (by omega)
    rw [hd, words]
    cases st with
    | none => simp [Lib.spansFromP, Lib.closeSpans, curS, fl]
    | some a =>
      have := ha a rfl
      have hne : (s.drop a).take (pos - a) ≠ [] := fun e => by
        have := congrArg List.length e
        simp at this
        omega
      simp only [Lib.spansFromP, Lib.closeSpans, curS]
      rw [fl, if_neg hne, List.map_append]
      congr 1
      simp [extS, mk_size]
      omega
  | f + 1, pos, st, acc, hf, hp, ha => by
    rw [spans_succ]
    by_cases hlt : pos < s.length
    · rw [if_pos (by rw [mk_size]; exact hlt)]
      rcases dec_mk s pos hlt with ⟨h1, h2, h3⟩ | ⟨h1, h2, h3, h4⟩
      · have e1 : ((Utf8.decode (mk s) pos).1 == 32) = true := by rw [h1]; rfl
        have e2 : s.drop pos = 32 :: s.drop (pos + 1) := by rw [List.drop_eq_getElem_cons hlt, h3]
        rw [if_pos e1, h2, e2, words, if_pos rfl]
        cases st with
        | none =>
          show (Lib.closeSpans (mk s) (Lib.spansFromP _ (mk s) f (pos + 1) none acc)).map (extS s) = _
          rw [spans_go s f (pos + 1) none acc (by omega) (by omega) (fun a h => by cases h)]
          rfl
        | some a =>
          have := ha a rfl
          have hne : (s.drop a).take (pos - a) ≠ [] := fun e => by
            have := congrArg List.length e
            simp at this
            omega
          show (Lib.closeSpans (mk s) (Lib.spansFromP _ (mk s) f (pos + 1) none (acc ++ [(a, pos)]))).map (extS s) = _
          rw [spans_go s f (pos + 1) none _ (by omega) (by omega) (fun a h => by cases h)]
          show _ = _ ++ (fl ((s.drop a).take (pos - a)) ++ _)
          rw [fl, if_neg hne, List.map_append]
          simp [extS, curS]
      · have e1 : ¬ ((Utf8.decode (mk s) pos).1 == 32) = true := by simpa using h1
        rw [if_neg e1]
        generalize hn : (Utf8.decode (mk s) pos).2 = n at *
        have e2 : s.drop pos = (s.drop pos).take n ++ s.drop (pos + n) := by
          have := (List.take_append_drop n (s.drop pos)).symm
          rwa [List.drop_drop] at this
        have hno : ∀ b ∈ (s.drop pos).take n, b ≠ 32 := fun b hb e => by
          obtain ⟨k, hk, ek⟩ := List.mem_iff_getElem.1 hb
          rw [List.length_take, List.length_drop] at hk
          refine h4 k (by omega) ?_
          rw [List.getElem_take, List.getElem_drop] at ek
          rw [List.getElem?_eq_getElem (by omega), ek, e]
        rw [e2, words_go _ _ _ hno]
        cases st with
        | none =>
          show (Lib.closeSpans (mk s) (Lib.spansFromP _ (mk s) f (pos + n) (some pos) acc)).map (extS s) = _
          rw [spans_go s f (pos + n) (some pos) acc (by omega) (by omega) (fun a h => by cases h; omega)]
          simp [curS]
        | some a =>
          have hap := ha a rfl
          show (Lib.closeSpans (mk s) (Lib.spansFromP _ (mk s) f (pos + n) (some a) acc)).map (extS s) = _
          rw [spans_go s f (pos + n) (some a) acc (by omega) (by omega) (fun b h => by cases h; omega)]
          congr 2
          show (s.drop a).take (pos + n - a) = (s.drop a).take (pos - a) ++ (s.drop pos).take n
          have e3 : pos + n - a = (pos - a) + n := by omega
          rw [e3, List.take_add, List.drop_drop]
          congr 3
          omega
    · rw [if_neg (by rw [mk_size]; exact hlt)]
      have hd : s.drop pos = [] := List.drop_eq_nil_of_le (by omega)
      rw [hd, words]
      cases st with
      | none => simp [Lib.closeSpans, curS, fl]
      | some a =>
        have := ha a rfl
        have hne : (s.drop a).take (pos - a) ≠ [] := fun e => by
          have := congrArg List.length e
          simp at this
          omega
        simp only [Lib.closeSpans, curS]
        rw [fl, if_neg hne, List.map_append]
        congr 1
        simp [extS, mk_size]
        omega
theorem fields_mk (s : Bs) : Lib.goFieldsP (fun n => n == 32) (mk s) = (words [] s).map mk := by
  have h := spans_go s s.length 0 none [] (by omega) (Nat.zero_le _) (fun a h => by cases h)
  unfold Lib.goFieldsP Lib.spansOfP
  rw [mk_size]
  have h2 := congrArg (List.map mk) h
  rw [List.map_map] at h2
  have e : (fun x : Nat × Nat => (mk s).extract x.1 x.2) = mk ∘ extS s := by
    funext x
    exact mk_extract s x.1 x.2
  rw [e, h2]
  simp [curS]
end Go.Proofs.YtgledabcfonbeaaGreatDoor.Df

/-! ROWS OF STRINGS THAT THE CALL OWNS. -/
namespace Go.Proofs.YtgledabcfonbeaaGreatDoor.Df
open Go.RowKit Go.Proofs.YtgledabcfonbeaaGreatDoor

/-- a slice of strings, as it is read -/
def Strs (w : World) (v : Value) (K : List Bs) : Prop :=
  ∃ a c, v = .slice a K.length c ∧ K.length ≤ c ∧ (K = [] ∨ ∃ g off, a = some ⟨g, off, none⟩ ∧ g < w.heap.size ∧ ∀ (j : Nat) p, K[j]? = some p → w.cell? ⟨g, off + j, none⟩ = some (.string (mk p)))

theorem cell_of_block {w w' : World} {k j : Nat} (h : w'.heap[k]? = w.heap[k]?) : w'.cell? ⟨k, j, none⟩ = w.cell? ⟨k, j, none⟩ := by
  simp [World.cell?, h]

theorem Strs.below {w w' : World} {v : Value} {K : List Bs} (h : Strs w v K) (hb : Below w.heap.size w w') : Strs w' v K := by
  obtain ⟨a, c, e, hc, h⟩ := h
  refine ⟨a, c, e, hc, ?_⟩
  rcases h with h | ⟨g, off, e, hg, hcell⟩
  · exact .inl h
  · exact .inr ⟨g, off, e, Nat.lt_of_lt_of_le hg hb.size, fun j p hp => (cell_of_block (hb.block g hg)).trans (hcell j p hp)⟩

theorem Strs.drew {w : World} {v : Value} {K : List Bs} (h : Strs w v K) : Strs w.drew v K := h

theorem owns_strs {w : World} {base : Nat} {v : Value} {n : Nat} {K : List Bs} (h : w.ownsRow base 9 1 v n (strV K)) : Strs w v K := by
  have hl := h.1
  rw [strV_length, Nat.mul_one] at hl
  rcases h.2 with ⟨rfl, h0⟩ | ⟨g, cap, cur, rfl, hb, hg, hle, _⟩
  · have : K = [] := List.eq_nil_of_length_eq_zero (hl.trans h0)
    subst this
    exact ⟨none, 0, rfl, Nat.le_refl _, .inl rfl⟩
  · refine ⟨_, cap, by rw [← hl], by omega, .inr ⟨g, 0, rfl, (Array.getElem?_eq_some_iff.1 hg).1, fun j p hp => ?_⟩⟩
    have hc := h.cells (g := g) rfl j (.string (mk p)) (by simp [strV, hp])
    rw [Go.WideShapes.add_plain] at hc
    exact hc

theorem owns_len {w : World} {base : Nat} {v : Value} {n : Nat} {K : List Bs} (h : w.ownsRow base 9 1 v n (strV K)) : ∃ a cap, v = .slice a n cap := by
  rcases h.2 with ⟨rfl, h0⟩ | ⟨g, cap, cur, rfl, _⟩
  · exact ⟨none, 0, by rw [h0]⟩
  · exact ⟨_, _, rfl⟩
theorem owns_n {w : World} {base : Nat} {v : Value} {n : Nat} {K : List Bs} (h : w.ownsRow base 9 1 v n (strV K)) : n = K.length := by
  have hl := h.1
  rw [strV_length, Nat.mul_one] at hl
  exact hl.symm

theorem owns_block {w : World} {base : Nat} {e : TypeId} {sz : Nat} {v : Value} {n : Nat} {xs : List Value} (h : w.ownsRow base e sz v n xs) {g : Nat} (hg : v.ownBlock = some g) : base ≤ g ∧ ∃ cur, w.heap[g]? = some (.cells cur e (0, 0)) := by
  rcases h.2 with ⟨rfl, _⟩ | ⟨g', cap, cur, rfl, hb, hc, _⟩
  · cases hg
  · cases hg
    exact ⟨hb, cur, hc⟩

theorem owns_kept {w w' : World} {base : Nat} {e : TypeId} {sz : Nat} {v : Value} {n : Nat} {xs : List Value} (h : w.ownsRow base e sz v n xs) (hk : ∀ g, v.ownBlock = some g → w'.heap[g]? = w.heap[g]?) : w'.ownsRow base e sz v n xs := by
  refine ⟨h.1, ?_⟩
  rcases h.2 with h | ⟨g, cap, cur, rfl, hb, hc, hr⟩
  · exact .inl h
  · exact .inr ⟨g, cap, cur, rfl, hb, (hk g rfl).trans hc, hr⟩

theorem owns_below {w w' : World} {base : Nat} {e : TypeId} {sz : Nat} {v : Value} {n : Nat} {xs : List Value} (h : w.ownsRow base e sz v n xs) (hb : Below w.heap.size w w') : w'.ownsRow base e sz v n xs :=
  owns_kept h fun g hg => by
    obtain ⟨_, cur, hc⟩ := owns_block h hg
    exact hb.block g (Array.getElem?_eq_some_iff.1 hc).1

theorem owns_mono {w : World} {b b' : Nat} {e : TypeId} {sz : Nat} {v : Value} {n : Nat} {xs : List Value} (h : w.ownsRow b e sz v n xs) (hb : b' ≤ b) : w.ownsRow b' e sz v n xs := by
  refine ⟨h.1, ?_⟩
  rcases h.2 with h | ⟨g, cap, cur, rfl, hbg, hc, hr⟩
  · exact .inl h
  · exact .inr ⟨g, cap, cur, rfl, Nat.le_trans hb hbg, hc, hr⟩

theorem lt_some {w : World} {p : Nat} {o : Obj} (h : w.heap[p]? = some o) : p < w.heap.size := by
  rcases Nat.lt_or_ge p w.heap.size with h' | h'
  · exact h'
  · rw [Array.getElem?_eq_none h'] at h; cases h

theorem one_cell {w : World} {p : Nat} {u : Value} {t : TypeId} (h : w.heap[p]? = some (.cells #[u] t (0, 0))) : w.cell? ⟨p, 0, none⟩ = some u ∧ w.frozen? ⟨p, 0, none⟩ = false := by
  simp [World.cell?, World.frozen?, h]

theorem set_block {w : World} {p j : Nat} {C : Array Value} {u : Value} {t : TypeId} (h : w.heap[p]? = some (.cells C t (0, 0))) :
    (w.setCell ⟨p, j, none⟩ u).heap[p]? = some (.cells (C.setIfInBounds j u) t (0, 0)) := by
  have hlt := lt_some h
  have h' : w.heap[p] = .cells C t (0, 0) := by simpa [Array.getElem?_eq_getElem hlt] using h
  show (w.heap.modify p _)[p]? = _
  rw [Array.getElem?_eq_getElem (by simpa using hlt), Array.getElem_modify_self, h']
  rfl

theorem set_one {w : World} {p : Nat} {u v : Value} {t : TypeId} (h : w.heap[p]? = some (.cells #[u] t (0, 0))) : (w.setCell ⟨p, 0, none⟩ v).heap[p]? = some (.cells #[v] t (0, 0)) := by
  have := set_block (j := 0) (u := v) h
  simpa using this

theorem set_other {w : World} {p q : Nat} {j : Nat} {v : Value} (h : q ≠ p) : (w.setCell ⟨p, j, none⟩ v).heap[q]? = w.heap[q]? := Below.heap_setCell _ _ _ _ h

theorem cell_new (w : World) (v : Value) (t : TypeId) : (w.alloc (.cells #[v] t)).cell? ⟨w.heap.size, 0, none⟩ = some v := (one_cell (t := t) (heap_alloc_new w _)).1
end Go.Proofs.YtgledabcfonbeaaGreatDoor.Df
