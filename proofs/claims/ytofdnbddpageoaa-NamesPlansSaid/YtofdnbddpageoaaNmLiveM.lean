/-
  WHAT IS LIVE: the records of a book, and what they make: plain lists.
-/
import Derived.Test.YtofdnbddpageoaaNmSet
import Derived.Test.YtofdnbddpageoaaNmToldW
namespace Go.Proofs.Ytofdnbddpageoaa.Nm
open Go.RowKit

theorem nodup_len {α : Type} [DecidableEq α] {l m : List α} (h : l.Nodup) (hs : ∀ x ∈ l, x ∈ m) : l.length ≤ m.length := by
  induction l generalizing m with
  | nil => exact Nat.zero_le _
  | cons x l ih =>
    have hx := hs x (by simp)
    rw [List.nodup_cons] at h
    have := ih (m := m.erase x) h.2 fun y hy => (List.mem_erase_of_ne (fun e => h.1 (by rw [← e]; exact hy))).2 (hs y (by simp [hy]))
    rw [List.length_erase_of_mem hx] at this
    have : 0 < m.length := List.length_pos_of_mem hx
    simp
    omega

/-! ### names, each once -/
theorem tell_withL (t : Tl) (s : ByteArray) : (t.tell s).M = withL t.M s := by
  unfold Tl.tell withL
  cases ixOf t.M s <;> rfl
theorem tellAll_withL (N l : List ByteArray) : (tellAll N l).M = l.foldl withL N := by
  refine snoc_ind (P := fun l => (tellAll N l).M = l.foldl withL N) rfl ?_ l
  intro l s ih
  rw [tellAll_snoc, tell_withL, ih, List.foldl_append]
  rfl
theorem withL_nodup {N : List ByteArray} (h : N.Nodup) (s : ByteArray) : (withL N s).Nodup := by
  unfold withL
  cases e : ixOf N s with
  | some i => exact h
  | none =>
    rw [List.nodup_append]
    refine ⟨h, by simp, fun x hx y hy => ?_⟩
    rw [List.mem_singleton] at hy
    subst hy
    intro e2
    subst e2
    exact ixOf_none e hx
theorem withL_mem {N : List ByteArray} {s x : ByteArray} : x ∈ withL N s ↔ x ∈ N ∨ x = s := by
  unfold withL
  cases e : ixOf N s with
  | some i =>
    have := List.mem_of_getElem? (ixOf_get e)
    exact ⟨.inl, fun h => by rcases h with h | rfl; exact h; exact this⟩
  | none => simp
theorem foldW_nodup {N : List ByteArray} (h : N.Nodup) (l : List ByteArray) : (l.foldl withL N).Nodup := by
  induction l generalizing N with
  | nil => exact h
  | cons s l ih => exact ih (withL_nodup h s)
theorem foldW_mem {N l : List ByteArray} {x : ByteArray} : x ∈ l.foldl withL N ↔ x ∈ N ∨ x ∈ l := by
  induction l generalizing N with
  | nil => simp
  | cons s l ih =>
    show x ∈ l.foldl withL (withL N s) ↔ _
    rw [ih, withL_mem]
    simp [or_assoc]

/-- names that are needed -/
def needD (N : List ByteArray) (d : Dp) : List ByteArray := (d.out :: d.deps).foldl withL N

theorem step_N {B : Bo} {d : Dp} (hE : dpE d = 0) (hB : OkB B) (hN : B.N.length ≤ 1000000) : (stepB B d).N = needD B.N d := by
  obtain ⟨B', h3, -, -, h5, -⟩ := plan_fin hE hB hN
  unfold stepB
  rw [if_pos hE, h3]
  show B'.N = _
  rw [h5, tellAll_withL]
  rfl

theorem told_N {K : List Dp} (hK : K.length ≤ 1000) (hd : ∀ d ∈ K, d.deps.length ≤ 50) (hE : ∀ d ∈ K, dpE d = 0) : (toldB K).N = K.foldl needD [] := by
  refine snoc_ind (P := fun K => K.length ≤ 1000 → (∀ d ∈ K, d.deps.length ≤ 50) → (∀ d ∈ K, dpE d = 0) → (toldB K).N = K.foldl needD []) (fun _ _ _ => rfl) ?_ K hK hd hE
  intro K d ih hK hd hE
  rw [List.length_append, List.length_singleton] at hK
  obtain ⟨h1, h2⟩ := told_ok (L := K) (by omega) (fun x hx => hd x (by simp [hx]))
  rw [toldB_snoc, step_N (hE d (by simp)) h1 (by omega), ih (by omega) (fun x hx => hd x (by simp [hx])) (fun x hx => hE x (by simp [hx])), List.foldl_append]
  rfl

theorem told_nodup {L : List Dp} (hL : L.length ≤ 1000) (hd : ∀ d ∈ L, d.deps.length ≤ 50) : (toldB L).N.Nodup := by
  refine snoc_ind (P := fun L => L.length ≤ 1000 → (∀ d ∈ L, d.deps.length ≤ 50) → (toldB L).N.Nodup) (fun _ _ => List.nodup_nil) ?_ L hL hd
  intro L d ih hL hd
  rw [List.length_append, List.length_singleton] at hL
  obtain ⟨h1, h2⟩ := told_ok (L := L) (by omega) (fun x hx => hd x (by simp [hx]))
  have hn := ih (by omega) (fun x hx => hd x (by simp [hx]))
  rw [toldB_snoc]
  by_cases hE : dpE d = 0
  · rw [step_N hE h1 (by omega)]
    exact foldW_nodup hn _
  · unfold stepB
    rw [if_neg hE]
    exact hn

/-- what a told book has was told -/
theorem told_some {L : List Dp} (hL : L.length ≤ 1000) (hd : ∀ d ∈ L, d.deps.length ≤ 50) {s : ByteArray} {d : Dp} (h : lookB (toldB L) s = some d) : d ∈ L ∧ d.out = s ∧ dpE d = 0 := by
  refine snoc_ind (P := fun L => L.length ≤ 1000 → (∀ d ∈ L, d.deps.length ≤ 50) → lookB (toldB L) s = some d → d ∈ L ∧ d.out = s ∧ dpE d = 0) (fun _ _ h => by cases h) ?_ L hL hd h
  intro L x ih hL hd h
  rw [List.length_append, List.length_singleton] at hL
  rw [toldB_snoc, told_look (by omega) (fun y hy => hd y (by simp [hy])) (hd x (by simp))] at h
  split at h
  · rename_i hc
    cases h
    exact ⟨by simp, hc.2.symm, hc.1⟩
  · obtain ⟨h1, h2⟩ := ih (by omega) (fun y hy => hd y (by simp [hy])) h
    exact ⟨by simp [h1], h2⟩

/-- of outputs that are told apart each is as it was told -/
theorem told_all_at {K : List Dp} (hK : K.length ≤ 1000) (hd : ∀ d ∈ K, d.deps.length ≤ 50) (hE : ∀ d ∈ K, dpE d = 0) (hn : (K.map Dp.out).Nodup) {d : Dp} (h : d ∈ K) : lookB (toldB K) d.out = some d := by
  obtain ⟨i, hi⟩ := List.mem_iff_getElem?.1 h
  refine told_last hK hd hi (hE d h) fun k x hk hx hh => ?_
  obtain ⟨hil, hie⟩ := List.getElem?_eq_some_iff.1 hi
  obtain ⟨hkl, hke⟩ := List.getElem?_eq_some_iff.1 hx
  refine (List.pairwise_iff_getElem.1 hn) i k (by simpa using hil) (by simpa using hkl) hk ?_
  simp only [List.getElem_map]
  rw [hie, hke, hh.2]

/-! ### what is found, and sorted -/
theorem ixOf_nodup {N : List ByteArray} (h : N.Nodup) {i : Nat} {s : ByteArray} (hi : N[i]? = some s) : ixOf N s = some i := by
  obtain ⟨j, hj⟩ := ixOf_mem (List.mem_of_getElem? hi)
  have h1 := ixOf_get hj
  obtain ⟨hil, hie⟩ := List.getElem?_eq_some_iff.1 hi
  obtain ⟨hjl, hje⟩ := List.getElem?_eq_some_iff.1 h1
  have : j = i := by
    rcases Nat.lt_trichotomy j i with hlt | heq | hgt
    · exact absurd (by rw [hje, hie]) ((List.pairwise_iff_getElem.1 h) j i hjl hil hlt)
    · exact heq
    · exact absurd (by rw [hje, hie]) ((List.pairwise_iff_getElem.1 h) i j hil hjl hgt)
  rw [hj, this]

theorem mem_found {B : Bo} (hl : B.F.length = B.N.length) (hn : B.N.Nodup) (d : Dp) : d ∈ foundL B B.F.length ↔ lookB B d.out = some d := by
  unfold foundL
  rw [List.mem_filterMap]
  constructor
  · rintro ⟨i, hi, h⟩
    unfold foundAt at h
    cases e1 : B.N[i]? with
    | none => rw [e1] at h; cases h
    | some nm =>
      rw [e1, Option.bind_some] at h
      cases e2 : B.F[i]? with
      | none => rw [e2] at h; cases h
      | some o =>
        rw [e2, Option.bind_some] at h
        cases o with
        | none => cases h
        | some fd =>
          have h : some (depOf B.N nm fd) = some d := h
          cases h
          show (ixOf B.N nm).bind _ = _
          rw [ixOf_nodup hn e1, Option.bind_some, e2]
          rfl
  · intro h
    unfold lookB at h
    cases e : ixOf B.N d.out with
    | none => rw [e] at h; cases h
    | some i =>
      rw [e, Option.bind_some] at h
      have := ixOf_lt e
      refine ⟨i, by rw [List.mem_range]; omega, ?_⟩
      unfold foundAt
      rw [ixOf_get e, Option.bind_some]
      exact h

theorem found_outs {B : Bo} (hl : B.F.length = B.N.length) (j : Nat) (hj : j ≤ B.F.length) : ((foundL B j).map Dp.out).Sublist (B.N.take j) := by
  induction j with
  | zero => simp [foundL]
  | succ j ih =>
    have hy := List.getElem?_eq_getElem (show j < B.N.length by omega)
    rw [foundL_succ, List.take_add_one, List.map_append]
    refine List.Sublist.append (ih (by omega)) ?_
    rw [hy]
    rcases foundAt_len hl j (by omega) with ⟨fd, nm, h1, h2, h3⟩ | ⟨h1, h2⟩
    · rw [h3]
      rw [hy] at h2
      cases h2
      exact List.Sublist.refl _
    · rw [h2]
      exact List.nil_sublist _
theorem found_nodup {B : Bo} (hl : B.F.length = B.N.length) (hn : B.N.Nodup) : ((foundL B B.F.length).map Dp.out).Nodup :=
  (hn.sublist (List.take_sublist _ _)).sublist (found_outs hl _ (Nat.le_refl _))

theorem sort_outs (FL : List Dp) : (sortD FL).map Dp.out = (FL.map Dp.out).mergeSort leS := by
  unfold sortD
  have : ∀ M : List ByteArray, (∀ s ∈ M, s ∈ FL.map Dp.out) → (M.filterMap fun s => FL.find? fun x => decide (x.out = s)).map Dp.out = M := by
    intro M
    induction M with
    | nil => intro _; rfl
    | cons s M ih =>
      intro h
      obtain ⟨d, hd, hs⟩ := List.mem_map.1 (h s (by simp))
      cases e : FL.find? (fun x => decide (x.out = s)) with
      | none =>
        rw [List.find?_eq_none] at e
        have := e d hd
        simp [hs] at this
      | some x =>
        have hx := List.find?_some e
        rw [List.filterMap_cons, e, List.map_cons, ih fun y hy => h y (by simp [hy])]
        simp at hx
        rw [hx]
  exact this _ fun s hs => (List.mergeSort_perm _ _).mem_iff.1 hs

theorem sort_mem {FL : List Dp} (hn : (FL.map Dp.out).Nodup) (d : Dp) : d ∈ sortD FL ↔ d ∈ FL := by
  have huniq : ∀ x ∈ FL, FL.find? (fun y => decide (y.out = x.out)) = some x := fun x hx => by
    cases e : FL.find? (fun y => decide (y.out = x.out)) with
    | none =>
      rw [List.find?_eq_none] at e
      have := e x hx
      simp at this
    | some y =>
      have hy := List.find?_some e
      have hm := List.mem_of_find?_eq_some e
      simp at hy
      obtain ⟨i, hi⟩ := List.mem_iff_getElem?.1 hx
      obtain ⟨j, hj⟩ := List.mem_iff_getElem?.1 hm
      obtain ⟨hil, hie⟩ := List.getElem?_eq_some_iff.1 hi
      obtain ⟨hjl, hje⟩ := List.getElem?_eq_some_iff.1 hj
      have hh : (FL.map Dp.out)[j]'(by simpa using hjl) = (FL.map Dp.out)[i]'(by simpa using hil) := by simp only [List.getElem_map]; rw [hje, hie, hy]
      have : j = i := by
        rcases Nat.lt_trichotomy j i with hlt | heq | hgt
        · exact absurd hh ((List.pairwise_iff_getElem.1 hn) j i (by simpa using hjl) (by simpa using hil) hlt)
        · exact heq
        · exact absurd hh.symm ((List.pairwise_iff_getElem.1 hn) i j (by simpa using hil) (by simpa using hjl) hgt)
      subst this
      rw [hie] at hje
      rw [hje]
  unfold sortD
  rw [List.mem_filterMap]
  constructor
  · rintro ⟨s, _, h⟩
    exact List.mem_of_find?_eq_some h
  · intro h
    exact ⟨d.out, (List.mergeSort_perm _ _).mem_iff.2 (List.mem_map.2 ⟨d, h, rfl⟩), huniq d h⟩

theorem sort_nodup {FL : List Dp} (hn : (FL.map Dp.out).Nodup) : ((sortD FL).map Dp.out).Nodup := by
  rw [sort_outs]
  exact (List.mergeSort_perm _ _).nodup_iff.2 hn

/-! ### the records of some outputs -/
def recStep (q : Bo × List (List Nat)) (d : Dp) : Bo × List (List Nat) := (stepB q.1 d, q.2 ++ planD q.1.N d)
def recsP (K : List Dp) : Bo × List (List Nat) := K.foldl recStep (⟨[], []⟩, [])
def recsL (K : List Dp) : List (List Nat) := (recsP K).2
theorem recsP_snoc (K : List Dp) (d : Dp) : recsP (K ++ [d]) = recStep (recsP K) d := by simp [recsP]
theorem recsP_1 (K : List Dp) : (recsP K).1 = toldB K := by
  refine snoc_ind (P := fun K => (recsP K).1 = toldB K) rfl ?_ K
  intro K d ih
  rw [recsP_snoc, toldB_snoc]
  show stepB (recsP K).1 d = _
  rw [ih]
theorem recsL_snoc (K : List Dp) (d : Dp) : recsL (K ++ [d]) = recsL K ++ planD (toldB K).N d := by
  unfold recsL
  rw [recsP_snoc]
  show (recsP K).2 ++ planD (recsP K).1.N d = _
  rw [recsP_1]
theorem recs_take {K : List Dp} (hK : K.length ≤ 1000) (hd : ∀ d ∈ K, d.deps.length ≤ 50) (hE : ∀ d ∈ K, dpE d = 0) : takeAll ⟨[], []⟩ (recsL K) = some (toldB K) ∧ (recsL K).length ≤ 52 * K.length ∧ ∀ r ∈ recsL K, r.length ≤ 1000000 ∧ ∀ x ∈ r, x < 256 := by
  refine snoc_ind (P := fun K => K.length ≤ 1000 → (∀ d ∈ K, d.deps.length ≤ 50) → (∀ d ∈ K, dpE d = 0) → takeAll ⟨[], []⟩ (recsL K) = some (toldB K) ∧ (recsL K).length ≤ 52 * K.length ∧ ∀ r ∈ recsL K, r.length ≤ 1000000 ∧ ∀ x ∈ r, x < 256) (fun _ _ _ => ⟨rfl, by simp [recsL, recsP], fun r hr => by simp [recsL, recsP] at hr⟩) ?_ K hK hd hE
  intro K d ih hK hd hE
  rw [List.length_append, List.length_singleton] at hK ⊢
  obtain ⟨h1, h2, h3⟩ := ih (by omega) (fun x hx => hd x (by simp [hx])) (fun x hx => hE x (by simp [hx]))
  obtain ⟨k1, k2⟩ := told_ok (L := K) (by omega) (fun x hx => hd x (by simp [hx]))
  obtain ⟨B', f1, -, -, -, -⟩ := plan_fin (hE d (by simp)) k1 (by omega)
  rw [recsL_snoc, toldB_snoc]
  refine ⟨?_, ?_, fun r hr => ?_⟩
  · rw [takeAll_app, h1, Option.bind_some, f1]
    unfold stepB
    rw [if_pos (hE d (by simp)), f1]
    rfl
  · have := planD_len (toldB K).N d
    have := hd d (by simp)
    rw [List.length_append]
    omega
  · rcases List.mem_append.1 hr with hr | hr
    · exact h3 r hr
    · exact planD_small (hE d (by simp)) r hr

/-- the live ones of what a told book has -/
def liveK (L : List Dp) (live : List ByteArray) : List Dp := (allL (toldB L)).filter fun d => inB live d.out

structure LiveF (L : List Dp) (live : List ByteArray) : Prop where
  ok : OkB (toldB L)
  nod : (toldB L).N.Nodup
  few : (toldB L).N.length ≤ 1530
  outs : ((foundL (toldB L) (toldB L).F.length).map Dp.out).Nodup
  allIn : ∀ d ∈ allL (toldB L), d ∈ L ∧ dpE d = 0 ∧ lookB (toldB L) d.out = some d
  allOuts : ((allL (toldB L)).map Dp.out).Nodup
  allLen : (allL (toldB L)).length ≤ 1530

theorem live_facts {L : List Dp} (hL : L.length ≤ 30) (hd : ∀ d ∈ L, d.deps.length ≤ 50) (live : List ByteArray) : LiveF L live := by
  obtain ⟨h1, h2⟩ := told_ok (L := L) (by omega) hd
  have hn := told_nodup (L := L) (by omega) hd
  have ho := found_nodup h1.len hn
  have hso := sort_nodup ho
  refine ⟨h1, hn, by omega, ho, fun d hx => ?_, hso, ?_⟩
  · have := (mem_found h1.len hn d).1 ((sort_mem ho d).1 hx)
    obtain ⟨a, _, c⟩ := told_some (by omega) hd this
    exact ⟨a, c, this⟩
  · have := nodup_len hso (m := (toldB L).N) fun s hs => by
      rw [sort_outs] at hs
      have hs := (List.mergeSort_perm _ _).mem_iff.1 hs
      exact List.mem_of_mem_take ((found_outs h1.len _ (Nat.le_refl _)).subset hs)
    rw [List.length_map] at this
    have : (allL (toldB L)).length ≤ (toldB L).N.length := this
    omega

theorem all_le {L : List Dp} {live : List ByteArray} (h : LiveF L live) : (allL (toldB L)).length ≤ L.length := by
  have := nodup_len h.allOuts (m := L.map Dp.out) fun s hs => by
    obtain ⟨d, hd, rfl⟩ := List.mem_map.1 hs
    exact List.mem_map.2 ⟨d, (h.allIn d hd).1, rfl⟩
  simpa using this

/-- what the book of any part of it has -/
structure PartF (K : List Dp) : Prop where
  len : K.length ≤ 30
  deps : ∀ d ∈ K, d.deps.length ≤ 50
  ok : ∀ d ∈ K, dpE d = 0
  outs : (K.map Dp.out).Nodup

theorem part_look {K : List Dp} (h : PartF K) (s : ByteArray) : (∀ d, lookB (toldB K) s = some d ↔ d ∈ K ∧ d.out = s) := fun d => by
  constructor
  · intro hl
    obtain ⟨h1, h2, _⟩ := told_some (by have := h.len; omega) h.deps hl
    exact ⟨h1, h2⟩
  · rintro ⟨h1, rfl⟩
    exact told_all_at (by have := h.len; omega) h.deps h.ok h.outs h1

theorem part_all {K : List Dp} (h : PartF K) : (allL (toldB K)).length = K.length := by
  have hf := live_facts h.len h.deps []
  have a : ∀ d, d ∈ allL (toldB K) ↔ d ∈ K := fun d => by
    have := (sort_mem hf.outs d).trans ((mem_found hf.ok.len hf.nod d).trans (part_look h d.out d))
    exact this.trans ⟨fun x => x.1, fun x => ⟨x, rfl⟩⟩
  have l1 := nodup_len hf.allOuts (m := K.map Dp.out) fun s hs => by
    obtain ⟨d, hd, rfl⟩ := List.mem_map.1 hs
    exact List.mem_map.2 ⟨d, (a d).1 hd, rfl⟩
  have l2 := nodup_len h.outs (m := (allL (toldB K)).map Dp.out) fun s hs => by
    obtain ⟨d, hd, rfl⟩ := List.mem_map.1 hs
    exact List.mem_map.2 ⟨d, (a d).2 hd, rfl⟩
  simp only [List.length_map] at l1 l2
  omega

theorem live_part {L : List Dp} {live : List ByteArray} (hL : L.length ≤ 30) (hd : ∀ d ∈ L, d.deps.length ≤ 50) : PartF (liveK L live) := by
  have h := live_facts hL hd live
  have hsub : (liveK L live).Sublist (allL (toldB L)) := List.filter_sublist
  refine ⟨?_, fun d hx => hd d (h.allIn d (hsub.subset hx)).1, fun d hx => (h.allIn d (hsub.subset hx)).2.1, h.allOuts.sublist (hsub.map _)⟩
  have := hsub.length_le
  have := all_le h
  omega
end Go.Proofs.Ytofdnbddpageoaa.Nm
