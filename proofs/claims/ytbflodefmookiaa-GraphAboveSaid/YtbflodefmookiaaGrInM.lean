/-
  WHAT inOrder'S FIRST LOOP KEEPS; a graph in memory.
-/
import Derived.Test.YtbflodefmookiaaGrIoB
namespace Go.Proofs.Ytbflodefmookiaa.Gr
open Go.RowKit Go.Maps Go.Proofs.Ytbflodefmookiaa Go.Proofs.Ytbflodefmookiaa.Pr
section
variable {deps : Nat → List Nat} {M : List Nat} {mkr : Bs → Option Nat} {K : List Bs}
theorem usersOf_len {B d : Nat} (h : ∀ n ∈ M, (deps n).length ≤ B) : (usersOf deps M d).length ≤ M.length * B := by
  induction M with
  | nil => simp [usersOf]
  | cons m M ih =>
    have h1 := ih fun n hn => h n (by simp [hn])
    have h2 := h m (by simp)
    have h3 : (deps m).count d ≤ (deps m).length := List.count_le_length
    unfold usersOf at h1 ⊢
    rw [List.flatMap_cons, List.length_append, List.length_replicate, List.length_cons, Nat.succ_mul]
    omega
structure L1 (deps : Nat → List Nat) (M : List Nat) (t : Nat) (G : Nat → List Nat) (wf : Nat → Nat) : Prop where
  rd : G 0 = (M.take t).filter fun n => (deps n).length == 0
  pl : G 1 = []
  us : ∀ d, G (d + 2) = usersOf deps (M.take t) d
  ws : ∀ n, wf n = if n ∈ M.take t then (deps n).length else 0
structure L1m (mkr : Bs → Option Nat) (K : List Bs) (deps : Nat → List Nat) (M : List Nat) (t n j : Nat) (G : Nat → List Nat) (wf : Nat → Nat) : Prop where
  rd : G 0 = (M.take t).filter fun n => (deps n).length == 0
  pl : G 1 = []
  us : ∀ d, G (d + 2) = usersOf deps (M.take t) d ++ List.replicate (((K.take j).filterMap mkr).count d) n
  ws : ∀ m, wf m = if m = n then ((K.take j).filterMap mkr).length else if m ∈ M.take t then (deps m).length else 0
variable {t n j : Nat} {G : Nat → List Nat} {wf : Nat → Nat}
theorem L1.start : L1 deps M 0 (fun _ => []) (fun _ => 0) := ⟨by simp, rfl, fun d => by simp [usersOf], fun n => by simp⟩
theorem not_taken (hM : M.Nodup) (hn : M[t]? = some n) : n ∉ M.take t := fun h => by
  obtain ⟨i, hi⟩ := List.getElem?_of_mem h
  have hit : i < t := by
    have := (List.getElem?_eq_some_iff.1 hi).1
    rw [List.length_take] at this
    omega
  rw [List.getElem?_take_of_lt hit] at hi
  obtain ⟨h1, e1⟩ := List.getElem?_eq_some_iff.1 hi
  obtain ⟨h2, e2⟩ := List.getElem?_eq_some_iff.1 hn
  exact (List.pairwise_iff_getElem.1 hM) i t h1 h2 hit (e1.trans e2.symm)
theorem L1.enter (h : L1 deps M t G wf) (hM : M.Nodup) (hn : M[t]? = some n) : L1m mkr K deps M t n 0 G wf := by
  refine ⟨h.rd, h.pl, fun d => by simp [h.us d], fun m => ?_⟩
  by_cases e : m = n
  · subst e
    rw [if_pos rfl, h.ws, if_neg (not_taken hM hn)]
    simp
  · rw [if_neg e]; exact h.ws m
theorem L1m.skip (h : L1m mkr K deps M t n j G wf) {s : Bs} (hs : K[j]? = some s) (hk : mkr s = none) : L1m mkr K deps M t n (j + 1) G wf := by
  have e : (K.take (j + 1)).filterMap mkr = (K.take j).filterMap mkr := by rw [filterMap_take hs, hk]; simp
  exact ⟨h.rd, h.pl, fun d => by rw [e]; exact h.us d, fun m => by rw [e]; exact h.ws m⟩
theorem L1m.step (h : L1m mkr K deps M t n j G wf) {s : Bs} {d : Nat} (hs : K[j]? = some s) (hk : mkr s = some d) :
    L1m mkr K deps M t n (j + 1) (fun i => if i = d + 2 then G (d + 2) ++ [n] else G i) (fun m => if m = n then wf n + 1 else wf m) := by
  have e : (K.take (j + 1)).filterMap mkr = (K.take j).filterMap mkr ++ [d] := by rw [filterMap_take hs, hk]; simp
  refine ⟨by simpa using h.rd, by simpa using h.pl, fun x => ?_, fun m => ?_⟩
  · rw [e, replicate_snoc, ← List.append_assoc, ← h.us x]
    by_cases ex : d = x
    · subst ex; simp
    · rw [if_neg ex, if_neg (by omega)]; simp
  · rw [e]
    by_cases em : m = n
    · subst em
      have := h.ws m
      simp at this
      simp [this]
    · simp only [if_neg em]
      have := h.ws m
      rw [if_neg em] at this
      exact this
theorem L1m.wait (h : L1m mkr K deps M t n K.length G wf) (hd : deps n = K.filterMap mkr) : wf n = (deps n).length := by
  rw [h.ws n, if_pos rfl, List.take_length, hd]
theorem L1m.us_t (h : L1m mkr K deps M t n K.length G wf) (hd : deps n = K.filterMap mkr) (hn : M[t]? = some n) (d : Nat) : G (d + 2) = usersOf deps (M.take (t + 1)) d := by
  rw [usersOf_take hn, h.us d, List.take_length, hd]
theorem L1m.ws_t (h : L1m mkr K deps M t n K.length G wf) (hd : deps n = K.filterMap mkr) (hn : M[t]? = some n) (m : Nat) : wf m = if m ∈ M.take (t + 1) then (deps m).length else 0 := by
  have hmem : m ∈ M.take (t + 1) ↔ m ∈ M.take t ∨ m = n := by rw [List.take_add_one, hn]; simp
  by_cases e : m = n
  · subst e
    rw [h.wait hd, if_pos (hmem.2 (.inr rfl))]
  · have := h.ws m
    rw [if_neg e] at this
    rw [this]
    by_cases e2 : m ∈ M.take t
    · rw [if_pos e2, if_pos (hmem.2 (.inl e2))]
    · rw [if_neg e2, if_neg fun h => (hmem.1 h).elim e2 e]
theorem L1m.waits (h : L1m mkr K deps M t n K.length G wf) (hd : deps n = K.filterMap mkr) (hn : M[t]? = some n) (h0 : wf n ≠ 0) : L1 deps M (t + 1) G wf := by
  rw [h.wait hd] at h0
  refine ⟨?_, h.pl, h.us_t hd hn, h.ws_t hd hn⟩
  rw [h.rd, List.take_add_one, hn]
  simp [h0]
theorem L1m.ready (h : L1m mkr K deps M t n K.length G wf) (hd : deps n = K.filterMap mkr) (hn : M[t]? = some n) (h0 : wf n = 0) : L1 deps M (t + 1) (fun i => if i = 0 then G 0 ++ [n] else G i) wf := by
  rw [h.wait hd] at h0
  refine ⟨?_, by simpa using h.pl, fun d => by simpa using h.us_t hd hn d, h.ws_t hd hn⟩
  simp only [if_true]
  rw [h.rd, List.take_add_one, hn]
  simp [h0]
theorem L1m.lens (h : L1m mkr K deps M t n j G wf) (hl : M.length ≤ 1000) (hd : ∀ n ∈ M, (deps n).length ≤ 30) (hK : K.length ≤ 30) (d : Nat) : (G (d + 2)).length ≤ 1000000 := by
  rw [h.us d, List.length_append, List.length_replicate]
  have h1 := usersOf_len (deps := deps) (M := M.take t) (B := 30) (d := d) fun n hn => hd n (List.mem_of_mem_take hn)
  have h2 : (M.take t).length ≤ 1000 := by rw [List.length_take]; omega
  have h3 : ((K.take j).filterMap mkr).count d ≤ 30 := Nat.le_trans List.count_le_length (Nat.le_trans (List.length_filterMap_le ..) (by rw [List.length_take]; omega))
  omega
end
theorem updF_snd (F : Nat → Value × List Nat) (i : Nat) (v : Value) (H : List Nat) : (fun k => (updF F i v H k).2) = fun k => if k = i then H else (F k).2 := by
  funext k
  by_cases e : k = i
  · subst e; rw [updF_same]; simp
  · rw [updF_ne _ _ _ e]; simp [e]

/-- a graph in memory -/
structure Gph (w : World) (gp : Nat) (ve vd : Value) (m n : Nat) (L : List Ed) (D : List Bs) (mkr : Bs → Option Nat) : Prop where
  box : w.heap[gp]? = some (.cells #[ve, vd, .map (some m)] 70 (0, 0))
  ed : Eds w ve L
  df : Strs w vd D
  mks : MvS w n m fun x => (mkr x).map fun (k : Nat) => Value.int .i64 (k : Int)
  small : ∀ e ∈ L, Sm e
  few : L.length ≤ 1000
  to : ∀ s k, mkr s = some k → k < L.length
theorem Gph.below {w w' : World} {gp : Nat} {ve vd : Value} {m n : Nat} {L : List Ed} {D : List Bs} {mkr : Bs → Option Nat} (h : Gph w gp ve vd m n L D mkr) (hb : Below w.heap.size w w') : Gph w' gp ve vd m n L D mkr :=
  ⟨(hb.block _ (lt_some h.box)).trans h.box, h.ed.below hb, h.df.below hb, h.mks.kept (hb.block _ h.mks.lt), h.small, h.few, h.to⟩
end Go.Proofs.Ytbflodefmookiaa.Gr
