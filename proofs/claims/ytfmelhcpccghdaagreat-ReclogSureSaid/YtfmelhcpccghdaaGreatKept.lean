/-
  THE PARTS OF A NAME, ONE BY ONE: the function that is ranged over keeps its word for every loop that keeps what lay ahead of it.
-/
import Derived.Test.YtfmelhcpccghdaaGreatBase
import Derived.RangeFuncBox
import Derived.RangeFuncLeaves
import Derived.Shelf.Abstract
import Derived.OwnWalkIn
import Derived.TacticsInMore
import Derived.LoopNIn
import Derived.LoopIn
import Derived.Maps.AppendAt
namespace Go.Proofs.YtfmelhcpccghdaaGreat
open Go.RowKit Go.Shelf

attribute [local go_sem] Oper.semAt_some

def strLen : Value → Nat
  | .string s => s.size
  | _ => 0
def moreN : Value → Nat
  | .bool true => 1
  | _ => 0

set_option maxHeartbeats 1000000 in
/-- parts: the name is boxed; the function value captures the box -/
theorem parts_in (n : Nat) (s : ByteArray) (w : World) :
    CallsIn Fence.wide n Tryz.prog 108 #[.string s] w fun e w' => e = .returned (.func (.func 119) #[] #[.pointer (some ⟨w.heap.size, 0, none⟩)]) ∧ w' = w.alloc (.cells #[.string s] 9) := by
  refine callsIn_of_wp Tryz.func108 rfl trivial ?_ rfl
  simp only [Tryz.ntmps108, List.size_toArray, List.length_cons, List.length_nil, Nat.reduceAdd, Nat.reduceSub, Array.replicate_succ, Array.replicate_zero, List.push_toArray, List.append_toArray, List.nil_append, List.cons_append]
  gi_wp2
  go_ret
  exact ⟨rfl, rfl⟩

set_option maxRecDepth 100000 in
set_option maxHeartbeats 1000000 in
theorem parts1_in (n : Nat) (hn : 1 ≤ n) (l Bn n₀ : Nat) (s : Bs) (hs : s.length < 4611686018427387904) (J Jx : List Bs → World → Prop)
    (hJd : ∀ pre W k, J pre W → J pre (W.drewN k))
    (hY : ∀ pre x W, J pre W → pre.length < (splitC [] s).length → YieldAt Fence.wide (n - 1) Tryz.prog l #[.string (mk x)] W fun e W' =>
      (e = .returned (.bool true) ∧ J (pre ++ [x]) W' ∧ Below n₀ W W') ∨ (e = .returned (.bool false) ∧ Jx (pre ++ [x]) W'))
    (W : World) (hBn : W.cell? ⟨Bn, 0, none⟩ = some (.string (mk s))) (h0 : J [] W) :
    CallsIn Fence.wide n Tryz.prog 119 #[.func (.yield l) #[] #[], .pointer (some ⟨Bn, 0, none⟩)] W fun e W' => (∃ v, e = .returned v) ∧
      ((∃ ys, ys = splitC [] s ∧ J ys W') ∨ (∃ pre, pre <+: splitC [] s ∧ Jx pre W')) := by
  obtain ⟨xs, hxs⟩ : ∃ xs, splitC [] s = xs := ⟨_, rfl⟩
  rw [hxs] at hY ⊢
  refine callsIn_of_wp Tryz.func119 rfl trivial ?_ rfl
  simp only [Tryz.ntmps119, List.size_toArray, List.length_cons, List.length_nil, Nat.reduceAdd, Nat.reduceSub, Array.replicate_succ, Array.replicate_zero, List.push_toArray, List.append_toArray, List.nil_append, List.cons_append]
  gi_wp2
  gi_loopw [3, 4] (fun p m wr => ∃ (pre : List Bs) (r : Bs) (b : Bool), p = .string (mk r) ∧ m = .bool b ∧ r.length ≤ s.length ∧ (if b = true then pre ++ splitC [] r = xs else pre = xs) ∧ J pre wr)
    (fun p m _ => moreN m * (strLen p + 1))
  case atStart =>
    exact ⟨[], s, true, rfl, rfl, Nat.le_refl _, by simpa using hxs, h0⟩
  case round =>
    obtain ⟨pre, r, b, rfl, rfl, hr, hx, hJs⟩ := hrel
    cases b with
    | false =>
      rw [if_neg (by decide)] at hx
      gi_wp2
      go_end0
      exact ⟨⟨_, rfl⟩, .inl ⟨pre, hx, hJs⟩⟩
    | true =>
      rw [if_pos rfl] at hx
      gi_wp2
      refine ⟨trivial, (callsIn_wide.2 (cut_c r wr (by omega))).mono ?_⟩
      rintro e W2 ⟨⟨k, rfl⟩, ⟨hc, rfl⟩ | ⟨x, b, hc, hlt, rfl⟩⟩
      · rw [hc] at hx
        obtain ⟨fn, tmps, assign, body, hy, hR⟩ := hY pre r (wr.drewN k) (hJd _ _ _ hJs) (by rw [← hx]; simp)
        gi_wp2
        refine hR.mono ?_
        rintro e W3 (⟨rfl, hJ3, hk3⟩ | ⟨rfl, hJx3⟩)
        · gi_wp2
          go_roundw
          case rel => exact ⟨pre ++ [r], [], false, rfl, rfl, Nat.zero_le _, hx, hJ3⟩
          case measure => simp [moreN]
        · gi_wp2
          refine bodyPost_ret (results_none rfl _ _ _) rfl ?_
          exact ⟨⟨_, rfl⟩, .inr ⟨pre ++ [r], by rw [hx]; exact List.prefix_refl _, hJx3⟩⟩
      · rw [hc] at hx
        obtain ⟨fn, tmps, assign, body, hy, hR⟩ := hY pre x (wr.drewN k) (hJd _ _ _ hJs) (by rw [← hx]; simp)
        gi_wp2
        refine hR.mono ?_
        rintro e W3 (⟨rfl, hJ3, hk3⟩ | ⟨rfl, hJx3⟩)
        · gi_wp2
          go_roundw
          case rel => exact ⟨pre ++ [x], b, true, rfl, rfl, by omega, by rw [if_pos rfl, ← hx]; simp, hJ3⟩
          case measure => simp only [moreN, strLen, mk_size]; omega
        · gi_wp2
          refine bodyPost_ret (results_none rfl _ _ _) rfl ?_
          exact ⟨⟨_, rfl⟩, .inr ⟨pre ++ [x], ⟨splitC [] b, by rw [← hx]; simp⟩, hJx3⟩⟩

theorem parts_stops (n : Nat) (hn : 1 ≤ n) (Bn n₀ : Nat) (s : Bs) (hs : s.length < 4611686018427387904) (w : World) (hBn : Bn < w.heap.size)
    (hc : w.cell? ⟨Bn, 0, none⟩ = some (.string (mk s))) :
    SeqStopsK Fence.wide n Tryz.prog 119 #[.pointer (some ⟨Bn, 0, none⟩)] (fun x : Bs => #[Value.string (mk x)]) (Below n₀) (fun ys => ys = splitC [] s) (fun pre => pre <+: splitC [] s) (splitC [] s).length w :=
  fun l J Jx W hW hJ _ hY h0 =>
    parts1_in n hn l Bn n₀ s hs J Jx (fun pre W k h => hJ pre W _ none h ⟨rfl, rfl, rfl, Nat.le_refl _, fun _ _ _ => rfl⟩ (by simp)) hY W ((hW.cell (p := ⟨Bn, 0, none⟩) hBn).trans hc) h0
end Go.Proofs.YtfmelhcpccghdaaGreat

/-! WHAT IS KEPT OF A NAME's PARTS: the loop that ranges over the parts, its body a labelled switch. -/
namespace Go.Proofs.YtfmelhcpccghdaaGreat
open Go.RowKit Go.Shelf

attribute [local go_sem] Oper.semAt_some

def keptP (ps : List Bs) : List Bs := (foldP (some []) ps).getD []

theorem stepP_len {k k' : List Bs} {p : Bs} (h : stepP k p = some k') : k'.length ≤ k.length + 1 := by
  unfold stepP at h
  split at h
  · cases h; omega
  · split at h
    · split at h
      · cases h
      · cases h; rw [List.length_dropLast]; omega
    · cases h; simp

theorem foldP_len : ∀ (ps : List Bs) (k k' : List Bs), foldP (some k) ps = some k' → k'.length ≤ k.length + ps.length
  | [], k, k', h => by cases h; simp
  | p :: ps, k, k', h => by
    rw [foldP_cons] at h
    cases hs : stepP k p with
    | none => rw [hs, foldP_none] at h; cases h
    | some k1 =>
      rw [hs] at h
      have := foldP_len ps k1 k' h
      have := stepP_len hs
      simp only [List.length_cons]
      omega

theorem keptP_len (ps : List Bs) : (keptP ps).length ≤ ps.length := by
  unfold keptP
  cases h : foldP (some []) ps with
  | none => simp
  | some k => have := foldP_len ps [] k h; simpa using this

/-- a row that is owned, its last ones let go -/
theorem owns_cut {w : World} {base : Nat} {e : TypeId} {g n cap m : Nat} {xs : List Value} (h : w.ownsRow base e 1 (.slice (some ⟨g, 0, none⟩) n cap) n xs) (hm : m ≤ n) :
    w.ownsRow base e 1 (.slice (some ⟨g, 0, none⟩) m cap) m (xs.take m) := by
  have hl := h.1
  rcases h.2 with ⟨e1, _⟩ | ⟨g', cap', cur, e1, hb, hg, hle, hmx, hsz, htake⟩
  · cases e1
  · cases e1
    refine ⟨by rw [List.length_take]; omega, .inr ⟨g, cap, cur, rfl, hb, hg, by omega, hmx, hsz, ?_⟩⟩
    rw [← htake, List.take_take]
    congr 1
    omega

theorem info9 : (Tryz.prog.info? 9).map (fun i => (i.zero, i.size, i.bytes)) = some (some (.string ⟨#[]⟩), 1, 16) := by kernel_rfl

theorem keptP_some {pre : List Bs} (h : foldP (some []) pre ≠ none) : foldP (some []) pre = some (keptP pre) := by
  unfold keptP
  cases h' : foldP (some []) pre with
  | none => exact absurd h' h
  | some k => rfl
theorem keptP_of {ps k : List Bs} (h : foldP (some []) ps = some k) : keptP ps = k := by
  unfold keptP
  rw [h]
  rfl

set_option maxRecDepth 100000 in
set_option maxHeartbeats 2000000 in
theorem kept_in (s : Bs) (hs : s.length ≤ 1000) (w : World) :
    Calls Tryz.prog 92 #[.string (mk s)] w fun e w' => ∃ v, e = .returned v ∧ w'.ownsRow w.heap.size 9 1 v (kept s).length (strV (kept s)) ∧ Below w.heap.size w w' := by
  obtain ⟨i0, hi, hz0, hz1, hz2⟩ := info_parts info9
  refine (callsIn_wide (n := 5)).1 ?_
  refine callsIn_of_wp_marks Tryz.func92 rfl trivial ?_ rfl
  simp only [Tryz.ntmps92, List.size_toArray, List.length_cons, List.length_nil, Nat.reduceAdd, Nat.reduceSub, Array.replicate_succ, Array.replicate_zero, List.push_toArray, List.append_toArray, List.nil_append, List.cons_append]
  refine wpIn_wide.2 ?_
  go_wp2
  go_step3
  go_wp2
  go_step3
  go_wp2_with (go_at_call 108; refine (callsIn_wide.1 (parts_in 5 _ _)).mono ?_; rintro e w' ⟨rfl, rfl⟩)
  have bO := Boxed.new w 74 (.slice none 0 0)
  have bN := Boxed.new (w.alloc (.cells #[.slice none 0 0] 74)) 9 (.string (mk s))
  rw [World.size_alloc] at bN
  have hB0 : Below w.heap.size w ((w.alloc (.cells #[.slice none 0 0] 74)).alloc (.cells #[.string (mk s)] 9)) := ((Below.refl _ w).alloc (Nat.le_refl _) _).alloc (by simp) _
  refine (wpIn_wide (n := 5)).1 ?_
  refine wpIn_rangeFunc_ownG rfl (by decide) (gf := 119) (lb := #[.pointer (some ⟨w.heap.size + 1, 0, none⟩)]) rfl trivial (enters_of Tryz.func119 (by kernel_rfl) rfl)
    (parts_stops (5 - 1) (by decide) (w.heap.size + 1) w.heap.size s (by omega) _ (by simp) bN.cell) belowK_t (belowK_b (by simp; omega)) (Below.refl _ _) (fun _ => rfl)
    (fun pre W => (∃ v, Boxed W w.heap.size 74 v ∧ W.ownsRow w.heap.size 9 1 v (keptP pre).length (strV (keptP pre)) ∧ foldP (some []) pre ≠ none) ∧ Below w.heap.size w W)
    (fun c pre W => (∃ v, Boxed W w.heap.size 74 v ∧ W.ownsRow w.heap.size 9 1 v 0 [] ∧ (c = .exit 0 ∧ foldP (some []) pre = none)) ∧ Below w.heap.size w W)
    (OwnFrom.and (Own.from (holdsRow_own w.heap.size w.heap.size 74 9 1 (fun pre => (keptP pre).length) (fun pre => strV (keptP pre)) (fun pre _ => foldP (some []) pre ≠ none)) _) (ownFrom_below (Nat.le_refl _) (by simp; omega)))
    (fun c => OwnFrom.and (Own.from (holdsRow_own w.heap.size w.heap.size 74 9 1 (fun _ => 0) (fun _ => []) (fun pre _ => c = .exit 0 ∧ foldP (some []) pre = none)) _) (ownFrom_below (Nat.le_refl _) (by simp; omega)))
    ⟨⟨_, bO.alloc _, World.ownsRow_nil _ _ _ _, by simp [foldP]⟩, hB0⟩
    (fun x => { tmps := #[.string (mk s), undef, .slice none 0 0, .pointer (some ⟨w.heap.size, 0, none⟩), .string (mk x), .string (mk s), .func (.func 119) #[] #[.pointer (some ⟨w.heap.size + 1, 0, none⟩)], .string (mk x),
        undef, undef, undef, undef, undef, undef, undef, undef, undef, undef, undef, undef, undef, undef, undef, undef, undef, undef, undef], defers := [] }) ?assign ?body ?done ?stop
  case assign =>
    intro l x W K hK
    gi_wp2
    exact hK
  case body =>
    rintro l pre x W ⟨⟨v, hv, hrow, hnn⟩, hB⟩ hlt
    have hc := hv.cell
    have hf := hv.frozen
    have hk := keptP_some hnn
    have hst : foldP (some []) (pre ++ [x]) = stepP (keptP pre) x := by rw [foldP_snoc, hk]; rfl
    have hN : (keptP pre).length ≤ 1000 := by have := keptP_len pre; have := splitC_len s []; omega
    generalize hK : keptP pre = K at *
    by_cases c0 : x = []
    · have e0 : (mk x).toList.isEmpty = true := by rw [mk_toList, c0]; rfl
      have hs2 : stepP K x = some K := by unfold stepP; rw [if_pos (.inl c0)]
      rw [hs2] at hst
      clear c0 hs2
      gi_wp2
      exact ⟨KeepsFrom.refl _ _, Below.refl _ _, ⟨v, hv, by rw [keptP_of hst]; exact hrow, by rw [hst]; simp⟩, hB⟩
    have e0 : (mk x).toList.isEmpty = false := by rw [mk_toList]; cases x with | nil => exact absurd rfl c0 | cons a r => rfl
    by_cases c1 : x = [46]
    · have e1 : ((mk x).toList == [46]) = true := by rw [mk_toList, c1]; rfl
      have hs2 : stepP K x = some K := by unfold stepP; rw [if_pos (.inr c1)]
      rw [hs2] at hst
      clear c0 c1 hs2
      gi_wp2
      exact ⟨KeepsFrom.refl _ _, Below.refl _ _, ⟨v, hv, by rw [keptP_of hst]; exact hrow, by rw [hst]; simp⟩, hB⟩
    have e1 : ((mk x).toList == [46]) = false := by rw [mk_toList]; exact beq_eq_false_iff_ne.2 c1
    by_cases c2 : x = [46, 46]
    · have e2 : ((mk x).toList == [46, 46]) = true := by rw [mk_toList, c2]; rfl
      have hs2 : stepP K x = if K = [] then none else some K.dropLast := by unfold stepP; rw [if_neg (by rintro (h | h); exact c0 h; exact c1 h), if_pos c2]
      rw [hs2] at hst
      clear c0 c1 c2 hs2
      obtain ⟨a, cap, rfl⟩ : ∃ a cap, v = .slice a K.length cap := by
        rcases hrow.2 with ⟨rfl, h⟩ | ⟨g, cap, _, rfl, _⟩
        · exact ⟨none, 0, by rw [h]⟩
        · exact ⟨_, _, rfl⟩
      by_cases hz : K = []
      · subst hz
        rw [if_pos rfl] at hst
        gi_wp2
        exact ⟨KeepsFrom.refl _ _, ⟨_, hv, hrow, rfl, hst⟩, hB⟩
      · rw [if_neg hz] at hst
        have hpos : 0 < K.length := by cases K with | nil => exact absurd rfl hz | cons a r => simp
        obtain ⟨g, rfl⟩ : ∃ g, a = some ⟨g, 0, none⟩ := by
          rcases hrow.2 with ⟨_, h⟩ | ⟨g, cap, _, h, _⟩
          · omega
          · cases h; exact ⟨g, rfl⟩
        have hcap : K.length ≤ cap := by
          rcases hrow.2 with ⟨_, h⟩ | ⟨g, cap, _, h, _, _, h2, _⟩
          · omega
          · cases h; exact h2
        have hcut := owns_cut hrow (Nat.sub_le K.length 1)
        have hne : (g : Nat) ≠ w.heap.size := by
          intro e
          subst e
          exact hv.not_row (by decide) hrow rfl
        generalize hn : K.length = n at *
        gi_wp2
        have hed : (strV K).take (n - 1) = strV K.dropLast := by rw [List.dropLast_eq_take, hn]; simp [strV]
        have hel : K.dropLast.length = n - 1 := by rw [List.length_dropLast, hn]
        refine ⟨(KeepsOthers.setCell _ _ _).from _, (Below.refl _ W).setCell (p := ⟨w.heap.size, 0, none⟩) (Nat.le_refl _) _, ⟨_, hv.set _, ?_, by rw [hst]; simp⟩, hB.setCell (p := ⟨w.heap.size, 0, none⟩) (Nat.le_refl _) _⟩
        rw [keptP_of hst, hel, ← hed]
        exact hcut.kept (grownBy_setCell' W w.heap.size _) (.inr (by simp [Value.ownBlock]; exact hne))
    have e2 : ((mk x).toList == [46, 46]) = false := by rw [mk_toList]; exact beq_eq_false_iff_ne.2 c2
    have hs2 : stepP K x = some (K ++ [x]) := by unfold stepP; rw [if_neg (by rintro (h | h); exact c0 h; exact c1 h), if_neg c2]
    rw [hs2] at hst
    clear c0 c1 c2 hs2
    gi_wp2_with (gi_at_builtin; refine wpListIn_append_own _ rfl _ _ 74 rfl w.heap.size 9 i0 (.string ⟨#[]⟩) 1 16 Tryz.underlying74 hi hz0 hz1 hz2 rfl (by decide) _ _ _ rfl (hrow.alloc _) ⟨W.heap.size, 0, none⟩ 1 1 [.string (mk x)] rfl rfl (cell_one_new _ _ _) (by simp [Value.oneCell']) (by unfold maxLen; omega) (by omega) (by have := hB.size; simp; omega) ?_; intro v' w1 hown' hgrow _; obtain ⟨g', cap', rfl⟩ := ownsRow_succ hown'; obtain ⟨hv1, hv2, hr2, hk2, hb2⟩ := hv.appended (by decide) hrow hB.size (Nat.le_refl _) hown' hgrow; have hc1 := hv1.cell; have hf1 := hv1.frozen)
    exact ⟨hk2.from _, hb2, ⟨_, hv2, by rw [keptP_of hst, strV_snoc, List.length_append]; exact hr2, by rw [hst]; simp⟩, hB.trans hb2⟩
  case done =>
    rintro D ys W hD rfl ⟨⟨v, hv, hrow, hnn⟩, hB⟩ hK
    have hc := hv.cell
    go_wp2
    rw [Exit.noGoto_ret]
    refine ⟨by simp, .inl ⟨_, _, rfl, run_takeDeferred hK, ?_⟩⟩
    exact ⟨_, results_tmp rfl _ _ _, v, rfl, ownsRow_putObj hrow _ hK rfl, hB.trans (belowK_b (w := w) (Nat.le_refl _) W D _ _ (by simp at hD; omega) hK rfl rfl)⟩
  case stop =>
    rintro D c pre W hD hpre ⟨⟨v, hv, hrow, rfl, hno⟩, hB⟩ hK
    have hc := hv.cell
    refine wpIn_wide.2 ?_
    have hks : kept s = [] := by unfold kept; rw [foldP_stopped hpre hno]; rfl
    go_wp2
    rw [Exit.noGoto_ret]
    refine ⟨by simp, .inl ⟨_, _, rfl, run_takeDeferred hK, ?_⟩⟩
    exact ⟨_, results_tmp rfl _ _ _, v, rfl, by rw [hks]; exact ownsRow_putObj hrow _ hK rfl, hB.trans (belowK_b (w := w) (Nat.le_refl _) W D _ _ (by simp at hD; omega) hK rfl rfl)⟩
end Go.Proofs.YtfmelhcpccghdaaGreat
