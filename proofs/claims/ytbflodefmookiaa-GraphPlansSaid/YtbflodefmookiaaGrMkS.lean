/-
  WHO STANDS ABOVE WHOM (pure): chains of needs; what a plan holds; cycles.
  WHO MAKES WHAT (pure): a file's maker is the one edge that has it.
-/
import Derived.Test.YtbflodefmookiaaGrPlan
import Derived.Test.YtbflodefmookiaaGrNewP
namespace Go.Proofs.Ytbflodefmookiaa.Gr
/-- a chain of needs -/
inductive Tc (deps : Nat → List Nat) : Nat → Nat → Prop
  | one {i j : Nat} : j ∈ deps i → Tc deps i j
  | more {i j k : Nat} : j ∈ deps i → Tc deps j k → Tc deps i k
section
variable {deps : Nat → List Nat} {M P : List Nat} {i j k n m : Nat}
theorem Tc.trans (h : Tc deps i j) (g : Tc deps j k) : Tc deps i k := by
  induction h with
  | one h => exact .more h g
  | more h _ ih => exact .more h (ih g)
theorem Tc.lt (hl : ∀ i, ∀ j ∈ deps i, j < n) (h : Tc deps i j) : j < n := by
  induction h with
  | one h => exact hl _ _ h
  | more _ _ ih => exact ih

/-- the chains whose inner ones are below k -/
def Pk (deps : Nat → List Nat) : Nat → Nat → Nat → Prop
  | 0, i, j => j ∈ deps i
  | k + 1, i, j => Pk deps k i j ∨ (Pk deps k i k ∧ Pk deps k k j)
theorem Pk.sound : ∀ (k : Nat) {i j : Nat}, Pk deps k i j → Tc deps i j
  | 0, _, _, h => .one h
  | k + 1, _, _, h => by
    rcases h with h | ⟨h1, h2⟩
    · exact Pk.sound k h
    · exact (Pk.sound k h1).trans (Pk.sound k h2)
theorem Pk.mono {k l : Nat} (hkl : k ≤ l) {i j : Nat} (h : Pk deps k i j) : Pk deps l i j := by
  induction hkl with
  | refl => exact h
  | step _ ih => exact .inl ih
theorem Pk.comp : ∀ (k : Nat) {i m j : Nat}, m < k → Pk deps k i m → Pk deps k m j → Pk deps k i j
  | 0, _, _, _, h, _, _ => by omega
  | k + 1, i, m, j, hm, h1, h2 => by
    by_cases e : m = k
    · subst e
      have a : Pk deps m i m := by
        rcases h1 with h | ⟨h, _⟩ <;> exact h
      have b : Pk deps m m j := by
        rcases h2 with h | ⟨_, h⟩ <;> exact h
      exact .inr ⟨a, b⟩
    · have hm : m < k := by omega
      rcases h1 with h1 | ⟨h1, h1'⟩ <;> rcases h2 with h2 | ⟨h2, h2'⟩
      · exact .inl (Pk.comp k hm h1 h2)
      · exact .inr ⟨Pk.comp k hm h1 h2, h2'⟩
      · exact .inr ⟨h1, Pk.comp k hm h1' h2⟩
      · exact .inr ⟨h1, h2'⟩
theorem Pk.complete (hl : ∀ i, ∀ j ∈ deps i, j < n) (h : Tc deps i j) : Pk deps n i j := by
  induction h with
  | one h => exact Pk.mono (Nat.zero_le _) (show Pk deps 0 _ _ from h)
  | more h _ ih => exact Pk.comp n (hl _ _ h) (Pk.mono (Nat.zero_le _) (show Pk deps 0 _ _ from h)) ih

/-! what a plan holds -/
theorem left_zero : left deps P n = 0 ↔ ∀ d ∈ deps n, d ∈ P := by
  unfold left
  rw [List.length_eq_zero_iff, List.filter_eq_nil_iff]
  simp
theorem rdy_mem : n ∈ rdy M P (left deps P) ↔ n ∈ M ∧ n ∉ P ∧ ∀ d ∈ deps n, d ∈ P := by
  unfold rdy
  rw [List.mem_filter]
  simp [rdyB, left_zero]
/-- of a plan so far -/
structure Gd (deps : Nat → List Nat) (M P : List Nat) : Prop where
  nd : P.Nodup
  sub : ∀ x ∈ P, x ∈ M
  ahead : ∀ (t x : Nat), P[t]? = some x → ∀ d ∈ deps x, d ∈ P.take t
  least : ∀ (t x : Nat), P[t]? = some x → ∀ y ∈ M, y ∉ P.take t → (∀ d ∈ deps y, d ∈ P.take t) → x ≤ y
theorem Gd.nil : Gd deps M [] := ⟨List.nodup_nil, by simp, by simp, by simp⟩
theorem Gd.snoc (h : Gd deps M P) (hM : M.Pairwise (· < ·)) {T : List Nat} (hr : rdy M P (left deps P) = n :: T) : Gd deps M (P ++ [n]) := by
  have hn : n ∈ rdy M P (left deps P) := by rw [hr]; simp
  obtain ⟨h1, h2, h3⟩ := rdy_mem.1 hn
  have hcase : ∀ (t x : Nat), (P ++ [n])[t]? = some x → (P[t]? = some x ∧ (P ++ [n]).take t = P.take t) ∨ (t = P.length ∧ x = n ∧ (P ++ [n]).take t = P) := fun t x hx => by
    by_cases ht : t < P.length
    · rw [List.getElem?_append_left ht] at hx
      exact .inl ⟨hx, List.take_append_of_le_length (by omega)⟩
    · rw [List.getElem?_append_right (by omega)] at hx
      have h0 : t - P.length = 0 := by
        have := (List.getElem?_eq_some_iff.1 hx).1
        simp at this
        omega
      rw [h0] at hx
      have e : t = P.length := by omega
      refine .inr ⟨e, by cases hx; rfl, by rw [e, List.take_left]⟩
  refine ⟨?_, fun x hx => ?_, fun t x hx => ?_, fun t x hx => ?_⟩
  · refine List.nodup_append.2 ⟨h.nd, by simp, fun a ha b hb => ?_⟩
    rw [List.mem_singleton.1 hb]
    exact fun e => h2 (e ▸ ha)
  · rcases List.mem_append.1 hx with hx | hx
    · exact h.sub x hx
    · rw [List.mem_singleton.1 hx]; exact h1
  · rcases hcase t x hx with ⟨hx, e⟩ | ⟨_, rfl, e⟩
    · rw [e]; exact h.ahead t x hx
    · rw [e]; exact h3
  · rcases hcase t x hx with ⟨hx, e⟩ | ⟨_, rfl, e⟩
    · rw [e]; exact h.least t x hx
    · rw [e]
      intro y hy hyP hyd
      exact rdy_head hM hr y (rdy_mem.2 ⟨hy, hyP, hyd⟩)
theorem grd_gd (hM : M.Pairwise (· < ·)) : ∀ (k : Nat) (P : List Nat), Gd deps M P → Gd deps M (grd deps M k P) ∧ (∃ Q, grd deps M k P = P ++ Q) ∧ ((grd deps M k P).length = P.length + k ∨ rdy M (grd deps M k P) (left deps (grd deps M k P)) = [])
  | 0, P, h => ⟨h, ⟨[], by simp [grd]⟩, .inl rfl⟩
  | k + 1, P, h => by
    cases hr : rdy M P (left deps P) with
    | nil =>
      have e : grd deps M (k + 1) P = P := grd_done hr
      rw [e]
      exact ⟨h, ⟨[], by simp⟩, .inr hr⟩
    | cons n T =>
      have e : grd deps M (k + 1) P = grd deps M k (P ++ [n]) := by simp [grd, hr]
      obtain ⟨a, ⟨Q, b⟩, c⟩ := grd_gd hM k (P ++ [n]) (h.snoc hM hr)
      rw [e]
      refine ⟨a, ⟨n :: Q, by rw [b]; simp⟩, ?_⟩
      rcases c with c | c
      · exact .inl (by rw [c]; simp; omega)
      · exact .inr c
theorem order_gd (hM : M.Pairwise (· < ·)) : Gd deps M (order deps M) := (grd_gd hM _ [] Gd.nil).1
theorem order_stuck (hM : M.Pairwise (· < ·)) (y : Nat) (hy : y ∈ M) (hyP : y ∉ order deps M) : ∃ d ∈ deps y, d ∉ order deps M := by
  have h := grd_gd (deps := deps) hM M.length [] Gd.nil
  have hnd : M.Nodup := hM.imp fun h => Nat.ne_of_lt h
  rcases h.2.2 with hl | hr
  · exfalso
    have hsub : (order deps M).length = M.length := by unfold order; rw [hl]; simp
    have hg := (order_gd (deps := deps) hM)
    have : M.length < M.length := by
      have h1 := List.nodup_cons.2 ⟨hyP, hg.nd⟩
      have := sub_len (A := y :: order deps M) (B := M) h1 fun x hx => by
        rcases List.mem_cons.1 hx with rfl | hx
        · exact hy
        · exact hg.sub x hx
      simp only [List.length_cons] at this
      omega
    omega
  · exact Classical.byContradiction fun hn => by
      have hall : ∀ d ∈ deps y, d ∈ order deps M := fun d hd => Classical.byContradiction fun h => hn ⟨d, hd, h⟩
      have : y ∈ rdy M (order deps M) (left deps (order deps M)) := rdy_mem.2 ⟨hy, hyP, hall⟩
      unfold order at this
      rw [hr] at this
      cases this
/-- all above one that is in the plan stands ahead of it -/
theorem Gd.above (h : Gd deps M P) {x : Nat} (hx : Tc deps n x) : ∀ t, P[t]? = some n → x ∈ P.take t := by
  induction hx with
  | one hd => exact fun t ht => h.ahead t _ ht _ hd
  | more hd _ ih =>
    intro t ht
    have h1 := h.ahead t _ ht _ hd
    obtain ⟨s, hs⟩ := List.getElem?_of_mem h1
    have hst : s < t := by
      have := (List.getElem?_eq_some_iff.1 hs).1
      rw [List.length_take] at this
      omega
    rw [List.getElem?_take_of_lt hst] at hs
    have h2 := ih s hs
    exact (List.take_sublist_take_left (Nat.le_of_lt hst)).subset h2
theorem mem_take_ne {t x : Nat} (hnd : P.Nodup) (ht : P[t]? = some n) (hx : x ∈ P.take t) : x ≠ n := by
  rintro rfl
  obtain ⟨s, hs⟩ := List.getElem?_of_mem hx
  have hst : s < t := by
    have := (List.getElem?_eq_some_iff.1 hs).1
    rw [List.length_take] at this
    omega
  rw [List.getElem?_take_of_lt hst] at hs
  obtain ⟨h1, e1⟩ := List.getElem?_eq_some_iff.1 hs
  obtain ⟨h2, e2⟩ := List.getElem?_eq_some_iff.1 ht
  exact (List.pairwise_iff_getElem.1 hnd) s t h1 h2 hst (e1.trans e2.symm)
/-- one that stands below itself is in no plan -/
theorem cyc_out (hM : M.Pairwise (· < ·)) (h : Tc deps n n) : n ∉ order deps M := fun hn => by
  obtain ⟨t, ht⟩ := List.getElem?_of_mem hn
  have hg := order_gd (deps := deps) hM
  exact mem_take_ne hg.nd ht (hg.above h t ht) rfl

open Classical in
noncomputable def cnt (deps : Nat → List Nat) (M : List Nat) (u : Nat) : Nat := (M.filter fun x => decide (Tc deps u x)).length
open Classical in
theorem cnt_lt {u v : Nat} (hv : v ∈ M) (hd : v ∈ deps u) (hc : ¬ Tc deps v v) : cnt deps M v < cnt deps M u := by
  unfold cnt
  have hsub : (M.filter fun x => decide (Tc deps v x)) = (M.filter fun x => decide (Tc deps u x)).filter fun x => decide (Tc deps v x) := by
    rw [List.filter_filter]
    refine List.filter_congr fun x _ => ?_
    by_cases h : Tc deps v x
    · have : Tc deps u x := .more hd h
      simp [h, this]
    · simp [h]
  rw [hsub]
  refine Nat.lt_of_le_of_ne (List.length_filter_le ..) fun e => ?_
  have hall := (List.length_filter_eq_length_iff.1 e) v (List.mem_filter.2 ⟨hv, by simpa using Tc.one hd⟩)
  exact hc (by simpa using hall)
/-- where nobody stands below itself, all are planned -/
theorem order_all (hM : M.Pairwise (· < ·)) (hcl : ∀ u ∈ M, ∀ d ∈ deps u, d ∈ M) (hac : ∀ u ∈ M, ¬ Tc deps u u) : ∀ u ∈ M, u ∈ order deps M := by
  have key : ∀ c u, u ∈ M → cnt deps M u = c → u ∈ order deps M := fun c => by
    induction c using Nat.strongRecOn with
    | _ c ih =>
      intro u hu hc
      refine Classical.byContradiction fun hP => ?_
      obtain ⟨d, hd, hdP⟩ := order_stuck hM u hu hP
      have hdM := hcl u hu d hd
      exact hdP (ih (cnt deps M d) (hc ▸ cnt_lt hdM hd (hac d hdM)) d hdM rfl)
  exact fun u hu => key _ u hu rfl
theorem order_len (hM : M.Pairwise (· < ·)) (hcl : ∀ u ∈ M, ∀ d ∈ deps u, d ∈ M) : (order deps M).length = M.length ↔ ∀ u ∈ M, ¬ Tc deps u u := by
  have hnd : M.Nodup := hM.imp fun h => Nat.ne_of_lt h
  have hg := order_gd (deps := deps) hM
  constructor
  · intro hl u hu hc
    have h1 := List.nodup_cons.2 ⟨cyc_out hM hc, hg.nd⟩
    have := sub_len (A := u :: order deps M) (B := M) h1 fun x hx => by
      rcases List.mem_cons.1 hx with rfl | hx
      · exact hu
      · exact hg.sub x hx
    simp only [List.length_cons] at this
    omega
  · intro hac
    exact ((List.perm_ext_iff_of_nodup hg.nd hnd).2 fun x => ⟨hg.sub x, order_all hM hcl hac x⟩).length_eq
theorem order_le (hM : M.Pairwise (· < ·)) : (order deps M).length ≤ M.length := by
  have hg := order_gd (deps := deps) hM
  exact sub_len (A := order deps M) (B := M) hg.nd fun x hx => hg.sub x hx
end
end Go.Proofs.Ytbflodefmookiaa.Gr
namespace Go.Proofs.Ytbflodefmookiaa.Gr
open Go.Proofs.Ytbflodefmookiaa Go.Proofs.Ytbflodefmookiaa.Pr
theorem addOuts_some {x : Nat} : ∀ (K : List Bs) (f g : Bs → Option Nat), addOuts x K f = some g → K.Nodup ∧ (∀ s ∈ K, f s = none) ∧ ∀ s, g s = if s ∈ K then some x else f s
  | [], f, g, h => by cases h; exact ⟨List.nodup_nil, by simp, by simp⟩
  | a :: r, f, g, h => by
    unfold addOuts at h
    split at h
    · cases h
    · rename_i hn
      have ha : f a = none := by cases hf : f a <;> simp_all
      obtain ⟨h1, h2, h3⟩ := addOuts_some r _ g h
      have har : a ∉ r := fun hm => by
        have := h2 a hm
        simp [updB] at this
      refine ⟨List.nodup_cons.2 ⟨har, h1⟩, fun s hs => ?_, fun s => ?_⟩
      · rcases List.mem_cons.1 hs with rfl | hs
        · exact ha
        · have := h2 s hs
          unfold updB at this
          split at this
          · cases this
          · exact this
      · rw [h3]
        by_cases hs : s ∈ r
        · simp [hs]
        · by_cases e : s = a
          · subst e; simp [hs, updB]
          · simp [hs, e, updB]
theorem addOuts_none {x : Nat} : ∀ (K : List Bs) (f : Bs → Option Nat), addOuts x K f = none → ¬ (K.Nodup ∧ ∀ s ∈ K, f s = none)
  | [], f, h => by cases h
  | a :: r, f, h => by
    unfold addOuts at h
    split at h
    · rename_i hs
      intro ⟨_, h2⟩
      have := h2 a (by simp)
      rw [this] at hs
      cases hs
    · intro ⟨h1, h2⟩
      refine addOuts_none r _ h ⟨(List.nodup_cons.1 h1).2, fun s hs => ?_⟩
      have : s ≠ a := fun e => (List.nodup_cons.1 h1).1 (e ▸ hs)
      unfold updB
      rw [if_neg this]
      exact h2 s (by simp [hs])
abbrev allOuts (L : List Ed) : List Bs := L.flatMap fun e => e.outs
theorem addAll_some : ∀ (L : List Ed) (x : Nat) (f g : Bs → Option Nat), addAll x L f = some g → (allOuts L).Nodup ∧ (∀ s ∈ allOuts L, f s = none) ∧ ∀ s n, g s = some n ↔ f s = some n ∨ ∃ j e, L[j]? = some e ∧ s ∈ e.outs ∧ n = x + j
  | [], x, f, g, h => by cases h; exact ⟨by simp, by simp, fun s n => by simp⟩
  | a :: r, x, f, g, h => by
    unfold addAll at h
    cases ho : addOuts x a.outs f with
    | none => rw [ho] at h; cases h
    | some f1 =>
      rw [ho] at h
      obtain ⟨a1, a2, a3⟩ := addOuts_some a.outs f f1 ho
      obtain ⟨b1, b2, b3⟩ := addAll_some r (x + 1) f1 g h
      have hdis : ∀ s ∈ allOuts r, s ∉ a.outs ∧ f s = none := fun s hs => by
        have := b2 s hs
        rw [a3] at this
        by_cases hm : s ∈ a.outs
        · rw [if_pos hm] at this; cases this
        · rw [if_neg hm] at this; exact ⟨hm, this⟩
      refine ⟨?_, fun s hs => ?_, fun s n => ?_⟩
      · rw [allOuts, List.flatMap_cons]
        exact List.nodup_append.2 ⟨a1, b1, fun p hp q hq e => (hdis q hq).1 (e ▸ hp)⟩
      · rw [allOuts, List.flatMap_cons, List.mem_append] at hs
        rcases hs with hs | hs
        · exact a2 s hs
        · exact (hdis s hs).2
      · rw [b3, a3]
        constructor
        · rintro (h1 | ⟨j, e, h1, h2, rfl⟩)
          · by_cases hm : s ∈ a.outs
            · rw [if_pos hm] at h1
              cases h1
              exact .inr ⟨0, a, rfl, hm, rfl⟩
            · rw [if_neg hm] at h1
              exact .inl h1
          · exact .inr ⟨j + 1, e, h1, h2, by omega⟩
        · rintro (h1 | ⟨j, e, h1, h2, rfl⟩)
          · have hm : s ∉ a.outs := fun hm => by rw [a2 s hm] at h1; cases h1
            rw [if_neg hm]
            exact .inl h1
          · cases j with
            | zero =>
              cases h1
              rw [if_pos h2]
              exact .inl rfl
            | succ j => exact .inr ⟨j, e, h1, h2, by omega⟩
theorem addAll_none : ∀ (L : List Ed) (x : Nat) (f : Bs → Option Nat), addAll x L f = none → ¬ ((allOuts L).Nodup ∧ ∀ s ∈ allOuts L, f s = none)
  | [], x, f, h => by cases h
  | a :: r, x, f, h => by
    unfold addAll at h
    intro ⟨h1, h2⟩
    rw [allOuts, List.flatMap_cons] at h1 h2
    obtain ⟨n1, n2, n3⟩ := List.nodup_append.1 h1
    cases ho : addOuts x a.outs f with
    | none => exact addOuts_none a.outs f ho ⟨n1, fun s hs => h2 s (List.mem_append.2 (.inl hs))⟩
    | some f1 =>
      rw [ho] at h
      obtain ⟨a1, a2, a3⟩ := addOuts_some a.outs f f1 ho
      refine addAll_none r (x + 1) f1 h ⟨n2, fun s hs => ?_⟩
      rw [a3, if_neg fun hm => n3 s hm s hs rfl]
      exact h2 s (List.mem_append.2 (.inr hs))
section
variable {L : List Ed} {mkr : Bs → Option Nat}
theorem makers_nd (h : makers L = some mkr) : (allOuts L).Nodup := (addAll_some L 0 _ _ h).1
theorem makers_iff (h : makers L = some mkr) (s : Bs) (n : Nat) : mkr s = some n ↔ ∃ e, L[n]? = some e ∧ s ∈ e.outs := by
  rw [(addAll_some L 0 _ _ h).2.2]
  constructor
  · rintro (h | ⟨j, e, h1, h2, rfl⟩)
    · cases h
    · exact ⟨e, by rwa [Nat.zero_add], h2⟩
  · rintro ⟨e, h1, h2⟩
    exact .inr ⟨n, e, h1, h2, by omega⟩
theorem makers_dup (h : makers L = none) : ¬ (allOuts L).Nodup := fun hn => addAll_none L 0 _ h ⟨hn, fun _ _ => rfl⟩
theorem makers_ex (h : (allOuts L).Nodup) : ∃ mkr, makers L = some mkr := by
  cases hm : makers L with
  | none => exact absurd h (makers_dup hm)
  | some m => exact ⟨m, rfl⟩
theorem makers_out (h : makers L = some mkr) (s : Bs) : (mkr s).isSome = true ↔ s ∈ allOuts L := by
  rw [Option.isSome_iff_exists, List.mem_flatMap]
  constructor
  · rintro ⟨n, hn⟩
    obtain ⟨e, h1, h2⟩ := (makers_iff h s n).1 hn
    exact ⟨e, List.mem_of_getElem? h1, h2⟩
  · rintro ⟨e, he, hs⟩
    obtain ⟨j, hj⟩ := List.getElem?_of_mem he
    exact ⟨j, (makers_iff h s j).2 ⟨e, hj, hs⟩⟩
theorem deps_lt (h : makers L = some mkr) (i : Nat) : ∀ j ∈ depsL mkr L i, j < L.length := fun j hj => by
  unfold depsL at hj
  split at hj
  · obtain ⟨s, _, hs⟩ := List.mem_filterMap.1 hj
    obtain ⟨e, h1, _⟩ := (makers_iff h s j).1 hs
    exact (List.getElem?_eq_some_iff.1 h1).1
  · cases hj
theorem range_rising (n : Nat) : (List.range n).Pairwise (· < ·) := List.pairwise_lt_range
/-- an error's number of a manifest: as New and the document tell it -/
def Wr (L : List Ed) (n : Nat) : Prop := (makers L = none ∧ n = 11) ∨ ∃ mkr, makers L = some mkr ∧ ((n = 12 ∧ ∃ i, i < L.length ∧ Tc (depsL mkr L) i i) ∨ (n = 0 ∧ ∀ i, i < L.length → ¬ Tc (depsL mkr L) i i))
theorem order_full (h : makers L = some mkr) : (order (depsL mkr L) (List.range L.length)).length = L.length ↔ ∀ i, i < L.length → ¬ Tc (depsL mkr L) i i := by
  have h1 := order_len (deps := depsL mkr L) (range_rising L.length) fun u _ d hd => List.mem_range.2 (deps_lt h u d hd)
  rw [List.length_range] at h1
  rw [h1]
  simp [List.mem_range]
end
end Go.Proofs.Ytbflodefmookiaa.Gr
