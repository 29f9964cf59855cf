/-
  WHAT IS KEPT OF A YtlhhpggjdbbcmaaDoor's PARTS: the loop that ranges over the parts, its body a labelled switch.
-/
import Derived.Test.YtlhhpggjdbbcmaaDoorPaIter
namespace Go.Proofs.YtlhhpggjdbbcmaaDoor
open Go.RowKit Go.Shelf

attribute [local go_sem] Oper.semAt_some

def strV (k : List Bs) : List Value := k.map fun p => Value.string (mk p)
theorem strV_length (k : List Bs) : (strV k).length = k.length := by simp [strV]
theorem strV_snoc (k : List Bs) (p : Bs) : strV (k ++ [p]) = strV k ++ [Value.string (mk p)] := by simp [strV]
def keptP (ps : List Bs) : List Bs := (foldP (some []) ps).getD []

theorem stepP_len {k k' : List Bs} {p : Bs} (h : stepP k p = some k') : k'.length ≤ k.length + 1 := by
  unfold stepP at h
  split at h
  · cases h; omega
  · split at h
    · split at h
      · cases h
      · cases h; rw [List.length_dropLast]; omega
    · cases h; simp

theorem foldP_len : ∀ (ps : List Bs) (k k' : List Bs), foldP (some k) ps = some k' → k'.length ≤ k.length + ps.length
  | [], k, k', h => by cases h; simp
  | p :: ps, k, k', h => by
    rw [foldP_cons] at h
    cases hs : stepP k p with
    | none => rw [hs, foldP_none] at h; cases h
    | some k1 =>
      rw [hs] at h
      have := foldP_len ps k1 k' h
      have := stepP_len hs
      simp only [List.length_cons]
      omega

theorem keptP_len (ps : List Bs) : (keptP ps).length ≤ ps.length := by
  unfold keptP
  cases h : foldP (some []) ps with
  | none => simp
  | some k => have := foldP_len ps [] k h; simpa using this

/-- a row that is owned, its last ones let go -/
theorem owns_cut {w : World} {base : Nat} {e : TypeId} {g n cap m : Nat} {xs : List Value} (h : w.ownsRow base e 1 (.slice (some ⟨g, 0, none⟩) n cap) n xs) (hm : m ≤ n) :
    w.ownsRow base e 1 (.slice (some ⟨g, 0, none⟩) m cap) m (xs.take m) := by
  have hl := h.1
  rcases h.2 with ⟨e1, _⟩ | ⟨g', cap', cur, e1, hb, hg, hle, hmx, hsz, htake⟩
  · cases e1
  · cases e1
    refine ⟨by rw [List.length_take]; omega, .inr ⟨g, cap, cur, rfl, hb, hg, by omega, hmx, hsz, ?_⟩⟩
    rw [← htake, List.take_take]
    congr 1
    omega

theorem info9 : (Tryd.prog.info? 9).map (fun i => (i.zero, i.size, i.bytes)) = some (some (.string ⟨#[]⟩), 1, 16) := by kernel_rfl

theorem mk_toList (x : Bs) : (mk x).toList = x := by rw [Lib.toList_data, mk_bytes]
theorem keptP_some {pre : List Bs} (h : foldP (some []) pre ≠ none) : foldP (some []) pre = some (keptP pre) := by
  unfold keptP
  cases h' : foldP (some []) pre with
  | none => exact absurd h' h
  | some k => rfl
theorem keptP_of {ps k : List Bs} (h : foldP (some []) ps = some k) : keptP ps = k := by
  unfold keptP
  rw [h]
  rfl

set_option maxRecDepth 100000 in
set_option maxHeartbeats 2000000 in
theorem kept_in (s : Bs) (hs : s.length ≤ 1000) (w : World) :
    Calls Tryd.prog 50 #[.string (mk s)] w fun e w' => ∃ v, e = .returned v ∧ w'.ownsRow w.heap.size 9 1 v (kept s).length (strV (kept s)) ∧ Below w.heap.size w w' := by
  obtain ⟨i0, hi, hz0, hz1, hz2⟩ := info_parts info9
  refine (callsIn_wide (n := 5)).1 ?_
  refine callsIn_of_wp_marks Tryd.func50 rfl trivial ?_ rfl
  simp only [Tryd.ntmps50, List.size_toArray, List.length_cons, List.length_nil, Nat.reduceAdd, Nat.reduceSub, Array.replicate_succ, Array.replicate_zero, List.push_toArray, List.append_toArray, List.nil_append, List.cons_append]
  refine wpIn_wide.2 ?_
  go_wp2
  go_step3
  go_wp2
  go_step3
  go_wp2_with (go_at_call 61; refine (callsIn_wide.1 (parts_in 5 _ _)).mono ?_; rintro e w' ⟨rfl, rfl⟩)
  have bO := Boxed.new w 23 (.slice none 0 0)
  have bN := Boxed.new (w.alloc (.cells #[.slice none 0 0] 23)) 9 (.string (mk s))
  rw [World.size_alloc] at bN
  have hB0 : Below w.heap.size w ((w.alloc (.cells #[.slice none 0 0] 23)).alloc (.cells #[.string (mk s)] 9)) := ((Below.refl _ w).alloc (Nat.le_refl _) _).alloc (by simp) _
  refine (wpIn_wide (n := 5)).1 ?_
  refine wpIn_rangeFunc_ownG rfl (by decide) (gf := 67) (lb := #[.pointer (some ⟨w.heap.size + 1, 0, none⟩)]) rfl trivial (enters_of Tryd.func67 (by kernel_rfl) rfl)
    (parts_stops (5 - 1) (by decide) (w.heap.size + 1) w.heap.size s (by omega) _ (by simp) bN.cell) belowK_t (belowK_b (by simp; omega)) (Below.refl _ _) (fun _ => rfl)
    (fun pre W => (∃ v, Boxed W w.heap.size 23 v ∧ W.ownsRow w.heap.size 9 1 v (keptP pre).length (strV (keptP pre)) ∧ foldP (some []) pre ≠ none) ∧ Below w.heap.size w W)
    (fun c pre W => (∃ v, Boxed W w.heap.size 23 v ∧ W.ownsRow w.heap.size 9 1 v 0 [] ∧ (c = .exit 0 ∧ foldP (some []) pre = none)) ∧ Below w.heap.size w W)
    (OwnFrom.and (Own.from (holdsRow_own w.heap.size w.heap.size 23 9 1 (fun pre => (keptP pre).length) (fun pre => strV (keptP pre)) (fun pre _ => foldP (some []) pre ≠ none)) _) (ownFrom_below (Nat.le_refl _) (by simp; omega)))
    (fun c => OwnFrom.and (Own.from (holdsRow_own w.heap.size w.heap.size 23 9 1 (fun _ => 0) (fun _ => []) (fun pre _ => c = .exit 0 ∧ foldP (some []) pre = none)) _) (ownFrom_below (Nat.le_refl _) (by simp; omega)))
    ⟨⟨_, bO.alloc _, World.ownsRow_nil _ _ _ _, by simp [foldP]⟩, hB0⟩
    (fun x => { tmps := #[.string (mk s), undef, .slice none 0 0, .pointer (some ⟨w.heap.size, 0, none⟩), .string (mk x), .string (mk s), .func (.func 67) #[] #[.pointer (some ⟨w.heap.size + 1, 0, none⟩)], .string (mk x),
        undef, undef, undef, undef, undef, undef, undef, undef, undef, undef, undef, undef, undef, undef, undef, undef, undef, undef, undef], defers := [] }) ?assign ?body ?done ?stop
  case assign =>
    intro l x W K hK
    gi_wp2
    exact hK
  case body =>
    rintro l pre x W ⟨⟨v, hv, hrow, hnn⟩, hB⟩ hlt
    have hc := hv.cell
    have hf := hv.frozen
    have hk := keptP_some hnn
    have hst : foldP (some []) (pre ++ [x]) = stepP (keptP pre) x := by rw [foldP_snoc, hk]; rfl
    have hN : (keptP pre).length ≤ 1000 := by have := keptP_len pre; have := splitC_len s []; omega
    generalize hK : keptP pre = K at *
    by_cases c0 : x = []
    · have e0 : (mk x).toList.isEmpty = true := by rw [mk_toList, c0]; rfl
      have hs2 : stepP K x = some K := by unfold stepP; rw [if_pos (.inl c0)]
      rw [hs2] at hst
      clear c0 hs2
      gi_wp2
      exact ⟨KeepsFrom.refl _ _, Below.refl _ _, ⟨v, hv, by rw [keptP_of hst]; exact hrow, by rw [hst]; simp⟩, hB⟩
    have e0 : (mk x).toList.isEmpty = false := by rw [mk_toList]; cases x with | nil => exact absurd rfl c0 | cons a r => rfl
    by_cases c1 : x = [46]
    · have e1 : ((mk x).toList == [46]) = true := by rw [mk_toList, c1]; rfl
      have hs2 : stepP K x = some K := by unfold stepP; rw [if_pos (.inr c1)]
      rw [hs2] at hst
      clear c0 c1 hs2
      gi_wp2
      exact ⟨KeepsFrom.refl _ _, Below.refl _ _, ⟨v, hv, by rw [keptP_of hst]; exact hrow, by rw [hst]; simp⟩, hB⟩
    have e1 : ((mk x).toList == [46]) = false := by rw [mk_toList]; exact beq_eq_false_iff_ne.2 c1
    by_cases c2 : x = [46, 46]
    · have e2 : ((mk x).toList == [46, 46]) = true := by rw [mk_toList, c2]; rfl
      have hs2 : stepP K x = if K = [] then none else some K.dropLast := by unfold stepP; rw [if_neg (by rintro (h | h); exact c0 h; exact c1 h), if_pos c2]
      rw [hs2] at hst
      clear c0 c1 c2 hs2
      obtain ⟨a, cap, rfl⟩ : ∃ a cap, v = .slice a K.length cap := by
        rcases hrow.2 with ⟨rfl, h⟩ | ⟨g, cap, _, rfl, _⟩
        · exact ⟨none, 0, by rw [h]⟩
        · exact ⟨_, _, rfl⟩
      by_cases hz : K = []
      · subst hz
        rw [if_pos rfl] at hst
        gi_wp2
        exact ⟨KeepsFrom.refl _ _, ⟨_, hv, hrow, rfl, hst⟩, hB⟩
      · rw [if_neg hz] at hst
        have hpos : 0 < K.length := by cases K with | nil => exact absurd rfl hz | cons a r => simp
        obtain ⟨g, rfl⟩ : ∃ g, a = some ⟨g, 0, none⟩ := by
          rcases hrow.2 with ⟨_, h⟩ | ⟨g, cap, _, h, _⟩
          · omega
          · cases h; exact ⟨g, rfl⟩
        have hcap : K.length ≤ cap := by
          rcases hrow.2 with ⟨_, h⟩ | ⟨g, cap, _, h, _, _, h2, _⟩
          · omega
          · cases h; exact h2
        have hcut := owns_cut hrow (Nat.sub_le K.length 1)
        have hne : (g : Nat) ≠ w.heap.size := by
          intro e
          subst e
          exact hv.not_row (by decide) hrow rfl
        generalize hn : K.length = n at *
        gi_wp2
        have hed : (strV K).take (n - 1) = strV K.dropLast := by rw [List.dropLast_eq_take, hn]; simp [strV]
        have hel : K.dropLast.length = n - 1 := by rw [List.length_dropLast, hn]
        refine ⟨(KeepsOthers.setCell _ _ _).from _, (Below.refl _ W).setCell (p := ⟨w.heap.size, 0, none⟩) (Nat.le_refl _) _, ⟨_, hv.set _, ?_, by rw [hst]; simp⟩, hB.setCell (p := ⟨w.heap.size, 0, none⟩) (Nat.le_refl _) _⟩
        rw [keptP_of hst, hel, ← hed]
        exact hcut.kept (grownBy_setCell' W w.heap.size _) (.inr (by simp [Value.ownBlock]; exact hne))
    have e2 : ((mk x).toList == [46, 46]) = false := by rw [mk_toList]; exact beq_eq_false_iff_ne.2 c2
    have hs2 : stepP K x = some (K ++ [x]) := by unfold stepP; rw [if_neg (by rintro (h | h); exact c0 h; exact c1 h), if_neg c2]
    rw [hs2] at hst
    clear c0 c1 c2 hs2
    gi_wp2_with (gi_at_builtin; refine wpListIn_append_own _ rfl _ _ 23 rfl w.heap.size 9 i0 (.string ⟨#[]⟩) 1 16 Tryd.underlying23 hi hz0 hz1 hz2 rfl (by decide) _ _ _ rfl (hrow.alloc _) ⟨W.heap.size, 0, none⟩ 1 1 [.string (mk x)] rfl rfl (cell_one_new _ _ _) (by simp [Value.oneCell']) (by unfold maxLen; omega) (by omega) (by have := hB.size; simp; omega) ?_; intro v' w1 hown' hgrow _; obtain ⟨g', cap', rfl⟩ := ownsRow_succ hown'; obtain ⟨hv1, hv2, hr2, hk2, hb2⟩ := hv.appended (by decide) hrow hB.size (Nat.le_refl _) hown' hgrow; have hc1 := hv1.cell; have hf1 := hv1.frozen)
    exact ⟨hk2.from _, hb2, ⟨_, hv2, by rw [keptP_of hst, strV_snoc, List.length_append]; exact hr2, by rw [hst]; simp⟩, hB.trans hb2⟩
  case done =>
    rintro D ys W hD rfl ⟨⟨v, hv, hrow, hnn⟩, hB⟩ hK
    have hc := hv.cell
    go_wp2
    rw [Exit.noGoto_ret]
    refine ⟨by simp, .inl ⟨_, _, rfl, run_takeDeferred hK, ?_⟩⟩
    exact ⟨_, results_tmp rfl _ _ _, v, rfl, ownsRow_putObj hrow _ hK rfl, hB.trans (belowK_b (w := w) (Nat.le_refl _) W D _ _ (by simp at hD; omega) hK rfl rfl)⟩
  case stop =>
    rintro D c pre W hD hpre ⟨⟨v, hv, hrow, rfl, hno⟩, hB⟩ hK
    have hc := hv.cell
    refine wpIn_wide.2 ?_
    have hks : kept s = [] := by unfold kept; rw [foldP_stopped hpre hno]; rfl
    go_wp2
    rw [Exit.noGoto_ret]
    refine ⟨by simp, .inl ⟨_, _, rfl, run_takeDeferred hK, ?_⟩⟩
    exact ⟨_, results_tmp rfl _ _ _, v, rfl, by rw [hks]; exact ownsRow_putObj hrow _ hK rfl, hB.trans (belowK_b (w := w) (Nat.le_refl _) W D _ _ (by simp at hD; omega) hK rfl rfl)⟩
end Go.Proofs.YtlhhpggjdbbcmaaDoor
