/-
  THE ONLY LINE THAT COUNTS: walked.
-/
import Derived.Test.YthgahbjelcmelaaDoorDfLines
namespace Go.Proofs.YthgahbjelcmelaaDoor.Df
open Go.RowKit Go.Shelf Go.Proofs.YthgahbjelcmelaaDoor

attribute [local go_sem] Oper.semAt_some

def nb (L : List Bs) : List Bs := L.filter (fun l => !blank l)
theorem nb_snoc (L : List Bs) (x : Bs) : nb (L ++ [x]) = nb L ++ (if blank x then [] else [x]) := by
  unfold nb
  rw [List.filter_append]
  cases hx : blank x <;> simp [hx]
theorem nb_pre {a b : List Bs} (h : a <+: b) : (nb a).length ≤ (nb b).length := by
  obtain ⟨c, rfl⟩ := h
  unfold nb
  rw [List.filter_append, List.length_append]
  omega
theorem only_le {L : List Bs} (h : (nb L).length ≤ 1) : onlyL L = (nb L).headD [] := by
  unfold onlyL
  show (match nb L with | [l] => l | _ => []) = _
  match hn : nb L, h with
  | [], _ => rfl
  | [l], _ => rfl
theorem only_ge {L : List Bs} (h : 2 ≤ (nb L).length) : onlyL L = [] := by
  unfold onlyL
  show (match nb L with | [l] => l | _ => []) = _
  match hn : nb L, h with
  | a :: b :: r, _ => rfl

theorem spl_len (c : UInt8) : ∀ (l cur x : Bs), x ∈ splS c cur l → x.length ≤ cur.length + l.length
  | [], cur, x, hx => by
    rw [splS, List.mem_singleton] at hx
    rw [hx]
    simp
  | b :: r, cur, x, hx => by
    rw [splS] at hx
    split at hx
    · rcases List.mem_cons.1 hx with rfl | hx
      · simp
      · have := spl_len c r [] x hx
        simp at this ⊢
        omega
    · have := spl_len c r _ x hx
      simp at this ⊢
      omega
theorem trim_blank (x : Bs) : (Lib.trimB x 32 = []) ↔ blank x = true := by
  unfold Lib.trimB Lib.trimLeftB Lib.trimRightB blank
  constructor
  · intro h
    have h1 := dw_nil h
    rw [List.all_eq_true]
    intro b hb
    by_cases h2 : (b == 32) = true
    · exact h2
    · have h3 : x.reverse.dropWhile (· == 32) ≠ [] := fun e => h2 (dw_nil e b (by simpa using hb))
      have h4 := List.head_dropWhile_not (· == (32 : UInt8)) h3
      have h5 := h1 ((x.reverse.dropWhile (· == 32)).head h3) (by
        rw [List.mem_reverse]
        exact List.head_mem h3)
      rw [h4] at h5
      cases h5
  · intro h
    rw [List.all_eq_true] at h
    have h1 : x.reverse.dropWhile (· == 32) = [] := by
      have : ∀ l : Bs, (∀ b ∈ l, (b == 32) = true) → l.dropWhile (· == 32) = [] := fun l => by
        induction l with
        | nil => intro _; rfl
        | cons b l ih =>
          intro hb
          have h1 := hb b (by simp)
          rw [List.dropWhile_cons_of_pos (p := (· == (32 : UInt8))) h1]
          exact ih fun c hc => hb c (by simp [hc])
      exact this _ fun b hb => h b (by simpa using hb)
    rw [h1]
    rfl

theorem trim_c (x : Bs) (hx : x.length ≤ 1000000) (w : World) : Calls Tryd.prog 27 #[.string (mk x), .string ⟨#[32]⟩] w fun e w' => e = .returned (.string (mk (Lib.trimB x 32))) ∧ (w' = w ∨ w' = w.drew) :=
  (shstringsTrimone (mk x) 32 (by decide) w (by rw [mk_size]; omega)).mono fun e w' h => h

set_option maxRecDepth 100000 in
set_option maxHeartbeats 4000000 in
theorem only_c (s : Bs) (hs : s.length ≤ 20000) (w : World) (hg : Gl w) :
    Calls Tryd.prog 14 #[.string (mk s)] w fun e w' => e = .returned (.string (mk (onlyL (splS 10 [] (rep s))))) ∧ Below w.heap.size w w' := by
  have hlen : ∀ x ∈ splS 10 [] (rep s), x.length ≤ 1000000 := fun x hx => by
    have := spl_len 10 (rep s) [] x hx
    have := rep_len s
    simp at *
    omega
  obtain ⟨L, hL⟩ : ∃ L, splS 10 [] (rep s) = L := ⟨_, rfl⟩
  have HLEN := Lib.hid hlen
  refine (callsIn_wide (n := 5)).1 ?_
  refine callsIn_of_wp_marks Tryd.func14 rfl trivial ?_ rfl
  simp only [Tryd.ntmps14, List.size_toArray, List.length_cons, List.length_nil, Nat.reduceAdd, Nat.reduceSub, Array.replicate_succ, Array.replicate_zero, List.push_toArray, List.append_toArray, List.nil_append, List.cons_append]
  refine wpIn_wide.2 ?_
  have bR := Boxed.new w 9 (.string ⟨#[]⟩)
  have bO := Boxed.new (w.alloc (.cells #[.string ⟨#[]⟩] 9)) 9 (.string ⟨#[]⟩)
  rw [World.size_alloc] at bO
  have cO := bO.cell
  have fO := bO.frozen
  clear hlen
  go_wp2_with (go_at_call 26; refine (callsIn_wide.1 (lines_in 5 _ _)).mono ?_; rintro e w' ⟨rfl, rfl⟩)
  obtain ⟨W0, hW0⟩ : ∃ W, ((w.alloc (.cells #[.string ⟨#[]⟩] 9)).alloc (.cells #[.string ⟨#[]⟩] 9)).alloc (.cells #[.string (mk s)] 9) = W := ⟨_, rfl⟩
  have z0 : W0.heap.size = w.heap.size + 3 := by rw [← hW0]; simp
  have hB0 : Below w.heap.size w W0 := by rw [← hW0]; exact (((Below.refl _ w).alloc (Nat.le_refl _) _).alloc (by simp) _).alloc (by simp; omega) _
  have bT : Boxed W0 (w.heap.size + 1 + 1) 9 (.string (mk s)) := by
    have := Boxed.new ((w.alloc (.cells #[.string ⟨#[]⟩] 9)).alloc (.cells #[.string ⟨#[]⟩] 9)) 9 (.string (mk s))
    rw [hW0] at this
    simpa using this
  have bR0 : Boxed W0 w.heap.size 9 (.string ⟨#[]⟩) := by rw [← hW0]; exact (bR.alloc _).alloc _
  have bO0 : Boxed W0 (w.heap.size + 1) 9 (.string ⟨#[]⟩) := by rw [← hW0]; exact bO.alloc _
  have hg0 : Gl W0 := hg.below hB0 hg.lt
  have LS := lines_stops (5 - 1) (by decide) (w.heap.size + 1 + 1) w.heap.size s (by omega) W0 (by omega) bT.cell hg0
  rw [hL] at LS
  clear cO fO bR bO hg0
  rw [hW0]
  refine (wpIn_wide (n := 5)).1 ?_
  refine wpIn_rangeFunc_ownG rfl (by decide) (gf := 35) (lb := #[.pointer (some ⟨w.heap.size + 1 + 1, 0, none⟩)]) rfl trivial (enters_of Tryd.func35 (by kernel_rfl) rfl)
    LS belowK_t (belowK_b (by omega)) (Below.refl _ _) (fun _ => rfl)
    (fun pre W => (Boxed W w.heap.size 9 (.string ⟨#[]⟩) ∧ Boxed W (w.heap.size + 1) 9 (.string (mk ((nb (vals pre)).headD []))) ∧ (nb (vals pre)).length ≤ 1) ∧ Below w.heap.size w W)
    (fun c pre W => (Boxed W w.heap.size 9 (.string ⟨#[]⟩) ∧ (c = .ret ∧ 2 ≤ (nb (vals pre)).length)) ∧ Below w.heap.size w W)
    (OwnFrom.and (OwnFrom.and (Own.from (boxed_own w.heap.size 9 (fun _ => .string ⟨#[]⟩)) _) (OwnFrom.and (Own.from (boxed_own (w.heap.size + 1) 9 (fun pre => .string (mk ((nb (vals pre)).headD [])))) _) (ownFrom_pure _ _))) (ownFrom_below (Nat.le_refl _) (by omega)))
    (fun c => OwnFrom.and (OwnFrom.and (Own.from (boxed_own w.heap.size 9 (fun _ => .string ⟨#[]⟩)) _) (ownFrom_pure _ _)) (ownFrom_below (Nat.le_refl _) (by omega)))
    ⟨⟨bR0, bO0, by simp [nb, vals]⟩, hB0⟩
    (fun x => { tmps := #[.string (mk s), undef, .pointer (some ⟨w.heap.size, 0, none⟩), .pointer (some ⟨w.heap.size + 1, 0, none⟩), .string (mk x.1), .string (mk s), .func (.func 35) #[] #[.pointer (some ⟨w.heap.size + 1 + 1, 0, none⟩)], .string (mk x.1),
        undef, undef, undef, undef, undef, undef, undef], defers := [] }) ?assign ?body ?done ?stop
  case assign =>
    intro l x W K hK
    gi_wp2
    exact hK
  case body =>
    rintro l pre ⟨x, hxl⟩ W ⟨⟨hR, hO, hle⟩, hB⟩ hlt
    have hc := hO.cell
    have hf := hO.frozen
    have hcR := hR.cell
    have hfR := hR.frozen
    have hsn := nb_snoc (vals pre) x
    have hvs := vals_snoc pre ⟨x, hxl⟩
    simp only at hvs
    rw [← hvs] at hsn
    have ht := trim_c x hxl W
    have hne : w.heap.size + 1 ≠ w.heap.size := by omega
    cases hbl : blank x with
    | true =>
      have e1 : (mk (Lib.trimB x 32)).toList.isEmpty = true := by rw [(trim_blank x).2 hbl, mk_toList]; rfl
      rw [hbl, if_pos rfl, List.append_nil] at hsn
      clear hcR hfR hbl
      gi_wp2
      refine ⟨trivial, (callsIn_wide.2 ht).mono ?_⟩
      rintro e W1 ⟨rfl, rfl | rfl⟩
      · gi_wp2
        exact ⟨KeepsFrom.refl _ _, Below.refl _ _, ⟨hR, by rw [hsn]; exact hO, by rw [hsn]; exact hle⟩, hB⟩
      · gi_wp2
        exact ⟨(KeepsOthers.drew W).from _, ⟨rfl, rfl, rfl, Nat.le_refl _, fun _ _ => rfl⟩, ⟨hR, by rw [hsn]; exact hO, by rw [hsn]; exact hle⟩, ⟨hB.os, hB.tape, hB.output, hB.size, hB.block⟩⟩
    | false =>
      have e1 : (mk (Lib.trimB x 32)).toList.isEmpty = false := by
        rw [mk_toList]
        cases ht : Lib.trimB x 32 with
        | nil => have := (trim_blank x).1 ht; rw [hbl] at this; cases this
        | cons a r => rfl
      rw [hbl, if_neg (by simp)] at hsn
      have hxne : x ≠ [] := fun e => by rw [e] at hbl; cases hbl
      cases hnb : nb (vals pre) with
      | nil =>
        rw [hnb] at hc hO hsn
        have e2 : (mk (([] : List Bs).headD [])).toList.isEmpty = true := by show (mk []).toList.isEmpty = true; rw [mk_toList]; rfl
        have hc2 : W.cell? ⟨w.heap.size + 1, 0, none⟩ = some (.string (mk [])) := hc
        have e3 : (mk []).toList.isEmpty = true := by rw [mk_toList]; rfl
        have hcd : W.drew.cell? ⟨w.heap.size + 1, 0, none⟩ = some (.string (mk [])) := hc
        have hfd : W.drew.frozen? ⟨w.heap.size + 1, 0, none⟩ = false := hf
        have hsn1 : nb (vals (pre ++ [⟨x, hxl⟩])) = [x] := hsn
        clear hcR hfR hbl hc hle hnb
        gi_wp2
        refine ⟨trivial, (callsIn_wide.2 ht).mono ?_⟩
        rintro e W1 ⟨rfl, rfl | rfl⟩
        · gi_wp2
          refine ⟨(KeepsOthers.setCell _ _ _).from _, (Below.refl _ _).setCell (p := ⟨w.heap.size + 1, 0, none⟩) (Nat.le_succ _) _, ⟨hR.other (by omega) _, ?_, by rw [hsn1]; simp⟩, hB.setCell (p := ⟨w.heap.size + 1, 0, none⟩) (Nat.le_succ _) _⟩
          rw [hsn1]
          exact hO.set _
        · have hOd : Boxed W.drew (w.heap.size + 1) 9 (.string (mk (([] : List Bs).headD []))) := hO
          have hRd : Boxed W.drew w.heap.size 9 (.string ⟨#[]⟩) := hR
          have hBd : Below w.heap.size w W.drew := ⟨hB.os, hB.tape, hB.output, hB.size, hB.block⟩
          gi_wp2
          refine ⟨((KeepsOthers.drew _).trans (KeepsOthers.setCell _ _ _)).from _, (show Below w.heap.size W W.drew from ⟨rfl, rfl, rfl, Nat.le_refl _, fun _ _ => rfl⟩).setCell (p := ⟨w.heap.size + 1, 0, none⟩) (Nat.le_succ _) _, ⟨hRd.other (by omega) _, ?_, by rw [hsn1]; simp⟩, hBd.setCell (p := ⟨w.heap.size + 1, 0, none⟩) (Nat.le_succ _) _⟩
          rw [hsn1]
          exact hOd.set _
      | cons y r =>
        have hy : y ≠ [] := fun e => by
          have hm : y ∈ nb (vals pre) := by rw [hnb]; simp
          unfold nb at hm
          have := (List.mem_filter.1 hm).2
          rw [e] at this
          simp [blank] at this
        rw [hnb] at hc hO hsn
        have e3 : (mk y).toList.isEmpty = false := by rw [mk_toList]; cases y with | nil => exact absurd rfl hy | cons a r => rfl
        have hc2 : W.cell? ⟨w.heap.size + 1, 0, none⟩ = some (.string (mk y)) := hc
        have hcd : W.drew.cell? ⟨w.heap.size + 1, 0, none⟩ = some (.string (mk y)) := hc
        have hcRd : W.drew.cell? ⟨w.heap.size, 0, none⟩ = some (.string ⟨#[]⟩) := hcR
        have hfRd : W.drew.frozen? ⟨w.heap.size, 0, none⟩ = false := hfR
        have h2 : 2 ≤ (nb (vals (pre ++ [⟨x, hxl⟩]))).length := by rw [hsn]; simp
        clear hbl hc hle hnb hsn
        gi_wp2
        refine ⟨trivial, (callsIn_wide.2 ht).mono ?_⟩
        rintro e W1 ⟨rfl, rfl | rfl⟩
        · gi_wp2
          exact ⟨(KeepsOthers.setCell _ _ _).from _, ⟨hR.set _, rfl, h2⟩, hB.setCell (p := ⟨w.heap.size, 0, none⟩) (Nat.le_refl _) _⟩
        · have hRd : Boxed W.drew w.heap.size 9 (.string ⟨#[]⟩) := hR
          have hBd : Below w.heap.size w W.drew := ⟨hB.os, hB.tape, hB.output, hB.size, hB.block⟩
          gi_wp2
          exact ⟨((KeepsOthers.drew _).trans (KeepsOthers.setCell _ _ _)).from _, ⟨hRd.set _, rfl, h2⟩, hBd.setCell (p := ⟨w.heap.size, 0, none⟩) (Nat.le_refl _) _⟩
  case done =>
    rintro D ys W hD hys ⟨⟨hR, hO, hle⟩, hB⟩ hK
    have hc := hO.cell
    have hf := hR.frozen
    have hcR := hR.cell
    have HV : Hid (mk ((nb (vals ys)).headD []) = mk (onlyL (splS 10 [] (rep s)))) := Lib.hid (by rw [← only_le hle, hys, hL])
    generalize mk ((nb (vals ys)).headD []) = V at *
    go_wp2
    have hKs : (W.setCell ⟨w.heap.size, 0, none⟩ (.string V)).heap[D]? = some (Obj.deferred (some [])) := (Below.heap_setCell _ _ _ _ (show D ≠ w.heap.size by omega)).trans hK
    refine ⟨by simp, .inl ⟨_, _, rfl, run_takeDeferred hKs, ?_⟩⟩
    have hR2 := (hR.set (.string V))
    have c9 := (hR2.kept (grownBy_putObj' _ D (Obj.deferred none)) (fun e => by have := Option.some.inj e; omega)).cell
    refine ⟨.string V, by simp [results, Tryd.f14, go_sem, c9], ?_⟩
    exact ⟨by rw [HV.out], (hB.setCell (p := ⟨w.heap.size, 0, none⟩) (Nat.le_refl _) _).trans (belowK_b (w := w) (Nat.le_refl _) _ D _ _ (by omega) hKs rfl rfl)⟩
  case stop =>
    rintro D c pre W hD hpre ⟨⟨hR, rfl, h2⟩, hB⟩ hK
    have hcR := hR.cell
    have HV : Hid (mk (onlyL (splS 10 [] (rep s))) = ⟨#[]⟩) := Lib.hid (by
      rw [hL, only_ge (Nat.le_trans h2 (nb_pre hpre))]
      rfl)
    refine wpIn_wide.2 ?_
    go_wp2
    refine ⟨by simp, .inl ⟨_, _, rfl, run_takeDeferred hK, ?_⟩⟩
    have c9 := (hR.kept (grownBy_putObj' _ D (Obj.deferred none)) (fun e => by have := Option.some.inj e; omega)).cell
    refine ⟨.string ⟨#[]⟩, by simp [results, Tryd.f14, go_sem, c9], ?_⟩
    exact ⟨by rw [HV.out], hB.trans (belowK_b (w := w) (Nat.le_refl _) _ D _ _ (by omega) hK rfl rfl)⟩
end Go.Proofs.YthgahbjelcmelaaDoor.Df
