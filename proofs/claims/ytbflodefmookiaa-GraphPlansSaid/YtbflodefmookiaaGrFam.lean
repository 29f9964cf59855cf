/-
  ROWS OF NUMBERS OF THE CALL'S OWN THAT SHARE NOTHING; maps of texts to numbers; what the loops of inOrder keep (pure).
-/
import Derived.Test.YtbflodefmookiaaGrMap
import Derived.Test.YtbflodefmookiaaGrNeeds
namespace Go.Proofs.Ytbflodefmookiaa.Gr
open Go.RowKit Go.Maps Go.Proofs.Ytbflodefmookiaa Go.Proofs.Ytbflodefmookiaa.Pr

/-- a row of numbers as it is read -/
def IntR (w : World) (v : Value) (M : List Nat) : Prop :=
  ∃ a c, v = .slice a M.length c ∧ (M = [] ∨ ∃ g off, a = some ⟨g, off, none⟩ ∧ g < w.heap.size ∧ ∀ (j : Nat) x, M[j]? = some x → w.cell? ⟨g, off + j, none⟩ = some (.int .i64 (x : Int)))
theorem IntR.below {w w' : World} {v : Value} {M : List Nat} (h : IntR w v M) (hb : Below w.heap.size w w') : IntR w' v M := by
  obtain ⟨a, c, e, h⟩ := h
  refine ⟨a, c, e, ?_⟩
  rcases h with h | ⟨g, off, e, hg, hc⟩
  · exact .inl h
  · exact .inr ⟨g, off, e, Nat.lt_of_lt_of_le hg hb.size, fun j x hx => (cell_of_block (hb.block g hg)).trans (hc j x hx)⟩
theorem RowI.read {w : World} {base : Nat} {v : Value} {H : List Nat} (h : RowI w base v H) : IntR w v H := by
  obtain ⟨a, c, rfl⟩ := h.1
  refine ⟨a, c, rfl, ?_⟩
  by_cases h0 : H = []
  · exact .inl h0
  · obtain ⟨g, c', e, _, hg⟩ := h.addr (List.length_pos_iff.2 h0)
    cases e
    refine .inr ⟨g, 0, rfl, hg, fun j x hx => ?_⟩
    obtain ⟨hj, e2⟩ := List.getElem?_eq_some_iff.1 hx
    have h1 := (h.2.cellAt j (by omega)).trans (intV_at hj)
    rw [Nat.zero_add, h1]
    simp [hj, e2]

/-- rows that share nothing -/
structure Fam (w : World) (base : Nat) (F : Nat → Value × List Nat) : Prop where
  row : ∀ i, RowI w base (F i).1 (F i).2
  apart : ∀ i j g, i ≠ j → (F i).1.ownBlock = some g → (F j).1.ownBlock ≠ some g
def updF (F : Nat → Value × List Nat) (i : Nat) (v : Value) (H : List Nat) : Nat → Value × List Nat := fun j => if j = i then (v, H) else F j
theorem updF_same (F : Nat → Value × List Nat) (i : Nat) (v : Value) (H : List Nat) : updF F i v H i = (v, H) := if_pos rfl
theorem updF_ne (F : Nat → Value × List Nat) {i j : Nat} (v : Value) (H : List Nat) (h : j ≠ i) : updF F i v H j = F j := if_neg h
theorem RowI.keepT {w w' : World} {base : Nat} {v : Value} {H : List Nat} (h : RowI w base v H) (hk : ∀ (g : Nat) C, v.ownBlock = some g → w.heap[g]? = some (.cells C 3 (0, 0)) → w'.heap[g]? = w.heap[g]?) : RowI w' base v H :=
  ⟨h.1, owns_kept h.2 fun g hg => by
    obtain ⟨_, C, hc⟩ := owns_block h.2 hg
    exact hk g C hg hc⟩
theorem Fam.keepT {w w' : World} {base : Nat} {F : Nat → Value × List Nat} (h : Fam w base F) (hk : ∀ (g : Nat) C, w.heap[g]? = some (.cells C 3 (0, 0)) → w'.heap[g]? = w.heap[g]?) : Fam w' base F :=
  ⟨fun i => (h.row i).keepT fun g C _ hc => hk g C hc, h.apart⟩
theorem Fam.below {w w' : World} {base : Nat} {F : Nat → Value × List Nat} (h : Fam w base F) (hb : Below w.heap.size w w') : Fam w' base F := h.keepT fun g C hc => hb.block g (lt_some hc)
/-- one row turned -/
theorem Fam.turn {w w' : World} {base : Nat} {F : Nat → Value × List Nat} (h : Fam w base F) (i : Nat) {v : Value} {H : List Nat} (hr : RowI w' base v H)
    (hbl : ∀ (g : Nat) C, w.heap[g]? = some (.cells C 3 (0, 0)) → (F i).1.ownBlock ≠ some g → w'.heap[g]? = w.heap[g]?) (ho : v.ownBlock = (F i).1.ownBlock ∨ ∃ k, v.ownBlock = some k ∧ w.heap.size ≤ k) : Fam w' base (updF F i v H) := by
  have hlt : ∀ j g, (F j).1.ownBlock = some g → g < w.heap.size := fun j g hg => by
    obtain ⟨_, C, hc⟩ := owns_block (h.row j).2 hg
    exact lt_some hc
  refine ⟨fun j => ?_, fun j k g hjk h1 => ?_⟩
  · by_cases e : j = i
    · subst e
      rw [updF_same]
      exact hr
    · rw [updF_ne F v H e]
      exact (h.row j).keepT fun g C hg hc => hbl g C hc (h.apart j i g e hg)
  · by_cases e : j = i
    · subst e
      rw [updF_same] at h1
      rw [updF_ne F v H (Ne.symm hjk)]
      rcases ho with ho | ⟨q, ho, hq⟩
      · rw [ho] at h1
        exact h.apart j k g hjk h1
      · intro h2
        have h1 : v.ownBlock = some g := h1
        rw [ho] at h1
        have := hlt k g h2
        have := Option.some.inj h1
        omega
    · rw [updF_ne F v H e] at h1
      by_cases e2 : k = i
      · subst e2
        rw [updF_same]
        rcases ho with ho | ⟨q, ho, hq⟩
        · rw [ho]
          exact h.apart j k g hjk h1
        · intro h2
          have h2 : v.ownBlock = some g := h2
          rw [ho] at h2
          have := hlt j g h1
          have := Option.some.inj h2
          omega
      · rw [updF_ne F v H e2]
        exact h.apart j k g hjk h1

/-- a map with texts as keys -/
def MvS (w : World) (n m : Nat) (g : Bs → Option Value) : Prop := ∃ f, Mv w 9 n m f ∧ ∀ x : Bs, f (.string x) = g x
theorem lawS : Keyed Try.prog 9 := string_keyed Try.underlying9
theorem keyS {s : Bs} (h : s.length ≤ maxLen) : keyOf Try.prog 9 (.string (mk s)) = some (.string s) :=
  WideMaps.keyOf_string_mk (P := Try.prog) Try.underlying9 (s := mk s) (by rw [mk_size]; exact h)
theorem MvS.kept {w w' : World} {n m : Nat} {g : Bs → Option Value} (h : MvS w n m g) (hb : w'.heap[m]? = w.heap[m]?) : MvS w' n m g := by obtain ⟨f, h1, h2⟩ := h; exact ⟨f, h1.kept hb, h2⟩
theorem MvS.lt {w : World} {n m : Nat} {g : Bs → Option Value} (h : MvS w n m g) : m < w.heap.size := by obtain ⟨f, h1, h2⟩ := h; exact h1.lt
theorem MvS.look {w : World} {n m : Nat} {g : Bs → Option Value} (h : MvS w n m g) {s : Bs} (hs : s.length ≤ maxLen) :
    (Instr.lookup 68 (.map (some m)) (.string (mk s)) true).run Try.prog w = .ok (.tuple #[(g s).getD (.int .i64 0), .bool (g s).isSome]) w := by
  obtain ⟨f, h1, h2⟩ := h
  rw [← h2]
  exact h1.look lawS Try.underlying68 (zeroI w) (keyS hs)

/-! what the first loop keeps -/
def needsL (e : Ed) : List Bs := e.ins ++ e.imp ++ e.ord
section
variable (mkr : Bs → Option Nat) (L : List Ed)
/-- the makers of what an edge needs -/
def depsL (n : Nat) : List Nat := match L[n]? with | some e => (needsL e).filterMap mkr | none => []
end
theorem filterMap_take {mkr : Bs → Option Nat} {K : List Bs} {j : Nat} {s : Bs} (h : K[j]? = some s) : (K.take (j + 1)).filterMap mkr = (K.take j).filterMap mkr ++ (mkr s).toList := by
  rw [List.take_add_one, h, List.filterMap_append]
  cases hm : mkr s <;> simp [hm]
theorem replicate_snoc (ds : List Nat) (d d0 n : Nat) : List.replicate ((ds ++ [d0]).count d) n = List.replicate (ds.count d) n ++ (if d0 = d then [n] else []) := by
  rw [List.count_append, List.count_singleton]
  by_cases e : d0 = d
  · subst e
    simp [List.replicate_succ']
  · have e2 : (d0 == d) = false := by simp [e]
    rw [e2, if_neg e]
    simp
theorem usersOf_take {deps : Nat → List Nat} {M : List Nat} {t n d : Nat} (h : M[t]? = some n) : usersOf deps (M.take (t + 1)) d = usersOf deps (M.take t) d ++ List.replicate ((deps n).count d) n := by
  unfold usersOf
  rw [List.take_add_one, h]
  simp
end Go.Proofs.Ytbflodefmookiaa.Gr
