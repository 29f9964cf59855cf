/-
  A PLAN IS THE ONLY ONE OF ITS KIND; a plan of fewer is what is left of one of more (pure). New, in two cases.
-/
import Derived.Test.YtbflodefmookiaaGrMkS
import Derived.Test.YtbflodefmookiaaGrReach
import Derived.Test.YtbflodefmookiaaGrNew
namespace Go.Proofs.Ytbflodefmookiaa.Gr
open Go.RowKit Go.Proofs.Ytbflodefmookiaa Go.Proofs.Ytbflodefmookiaa.Pr
section
variable {deps : Nat → List Nat} {M N P Q : List Nat}
theorem Gd.full_len (h : Gd deps M P) (hM : M.Nodup) (c : ∀ x ∈ M, x ∈ P) : P.length = M.length := ((List.perm_ext_iff_of_nodup h.nd hM).2 fun x => ⟨h.sub x, c x⟩).length_eq
theorem at_not_take {t x : Nat} (hnd : P.Nodup) (h : P[t]? = some x) : x ∉ P.take t := fun hx => mem_take_ne hnd h hx rfl
theorem Gd.unique (h1 : Gd deps M P) (h2 : Gd deps M Q) (hM : M.Nodup) (c1 : ∀ x ∈ M, x ∈ P) (c2 : ∀ x ∈ M, x ∈ Q) : P = Q := by
  have l1 := h1.full_len hM c1
  have l2 := h2.full_len hM c2
  have key : ∀ t, t ≤ M.length → P.take t = Q.take t := fun t => by
    induction t with
    | zero => intro _; rfl
    | succ t ih =>
      intro ht
      have e := ih (by omega)
      have hp := List.getElem?_eq_getElem (show t < P.length by omega)
      have hq := List.getElem?_eq_getElem (show t < Q.length by omega)
      generalize P[t] = x at hp
      generalize Q[t] = y at hq
      have hxy : x ≤ y := h1.least t x hp y (h2.sub y (List.mem_of_getElem? hq)) (by rw [e]; exact at_not_take h2.nd hq) (by rw [e]; exact h2.ahead t y hq)
      have hyx : y ≤ x := h2.least t y hq x (h1.sub x (List.mem_of_getElem? hp)) (by rw [← e]; exact at_not_take h1.nd hp) (by rw [← e]; exact h1.ahead t x hp)
      rw [List.take_add_one, List.take_add_one, hp, hq, e, Nat.le_antisymm hxy hyx]
  have := key M.length (Nat.le_refl _)
  rwa [← l1, List.take_length, l1, ← l2, List.take_length] at this
/-- what stands at t of a row that was sifted -/
theorem filter_at {p : Nat → Bool} : ∀ (P : List Nat) (t x : Nat), (P.filter p)[t]? = some x → ∃ s, P[s]? = some x ∧ (P.filter p).take t = (P.take s).filter p
  | [], t, x, h => by simp at h
  | a :: P, t, x, h => by
    rw [List.filter_cons] at h ⊢
    by_cases ha : p a = true
    · rw [if_pos ha] at h ⊢
      cases t with
      | zero =>
        cases h
        exact ⟨0, rfl, by simp⟩
      | succ t =>
        obtain ⟨s, h1, h2⟩ := filter_at P t x h
        refine ⟨s + 1, h1, ?_⟩
        rw [List.take_succ_cons, List.take_succ_cons, List.filter_cons, if_pos ha, h2]
    · rw [if_neg ha] at h ⊢
      obtain ⟨s, h1, h2⟩ := filter_at P t x h
      refine ⟨s + 1, h1, ?_⟩
      rw [List.take_succ_cons, List.filter_cons, if_neg ha, h2]
theorem order_sub (hM : M.Pairwise (· < ·)) (hN : N.Pairwise (· < ·)) (hsub : ∀ x ∈ N, x ∈ M) (hcM : ∀ u ∈ M, ∀ d ∈ deps u, d ∈ M) (hcN : ∀ u ∈ N, ∀ d ∈ deps u, d ∈ N) (hac : ∀ u ∈ M, ¬ Tc deps u u) :
    (order deps M).filter (fun x => decide (x ∈ N)) = order deps N := by
  have gM := order_gd (deps := deps) hM
  have gN := order_gd (deps := deps) hN
  have aM := order_all hM hcM hac
  have aN := order_all hN hcN fun u hu => hac u (hsub u hu)
  have ndN : N.Nodup := hN.imp fun h => Nat.ne_of_lt h
  refine Gd.unique (deps := deps) (M := N) ⟨gM.nd.sublist (List.filter_sublist ..), fun x hx => by simpa using (List.mem_filter.1 hx).2, fun t x hx d hd => ?_, fun t x hx y hy hyt hyd => ?_⟩ gN ndN (fun x hx => List.mem_filter.2 ⟨aM x (hsub x hx), by simpa using hx⟩) aN
  · obtain ⟨s, h1, h2⟩ := filter_at _ t x hx
    have hxN : x ∈ N := by
      have := (List.mem_filter.1 (List.mem_of_getElem? hx)).2
      simpa using this
    rw [h2]
    exact List.mem_filter.2 ⟨gM.ahead s x h1 d hd, by simpa using hcN x hxN d hd⟩
  · obtain ⟨s, h1, h2⟩ := filter_at _ t x hx
    refine gM.least s x h1 y (hsub y hy) (fun hys => hyt ?_) fun d hd => ?_
    · rw [h2]
      exact List.mem_filter.2 ⟨hys, by simpa using hy⟩
    · have := hyd d hd
      rw [h2] at this
      exact (List.mem_filter.1 this).1
theorem mem_order (hM : M.Pairwise (· < ·)) (hcM : ∀ u ∈ M, ∀ d ∈ deps u, d ∈ M) (hac : ∀ u ∈ M, ¬ Tc deps u u) (x : Nat) : x ∈ order deps M ↔ x ∈ M := ⟨(order_gd hM).sub x, order_all hM hcM hac x⟩
end

/-- New, in two cases -/
theorem New2_c {w : World} {vE vD : Value} {L : List Ed} {D : List Bs} (hE : Eds w vE L) (hD : Strs w vD D) (hs : ∀ e ∈ L, Sm e) (hl : L.length ≤ 1000) (hd : D.length ≤ 1000000) :
    Calls Try.prog 11 #[.agg #[vE, vD]] w fun e w' =>
      ((∃ mkr gp ve vd m n, makers L = some mkr ∧ (∀ i, i < L.length → ¬ Tc (depsL mkr L) i i) ∧ e = .returned (.tuple #[.pointer (some ⟨gp, 0, none⟩), .int .i64 0]) ∧ Gph w' gp ve vd m n L D mkr) ∨
       (∃ er : Nat, (er = 11 ∨ er = 12) ∧ e = .returned (.tuple #[.pointer none, .int .i64 (er : Int)]) ∧ ∀ n, Wr L n → n = er)) ∧ (∀ n, Wr L n → n = 0 → ∃ mkr, makers L = some mkr) ∧ Below w.heap.size w w' := by
  refine (New_c hE hD hs hl hd).mono ?_
  rintro e w' ⟨h1, h2, h3, hb⟩
  refine ⟨?_, fun n hn h0 => ?_, hb⟩
  · cases hm : makers L with
    | none =>
      refine .inr ⟨11, .inl rfl, h3 hm, fun n hn => ?_⟩
      rcases hn with ⟨_, h⟩ | ⟨mkr, h, _⟩
      · exact h
      · rw [hm] at h; cases h
    | some mkr =>
      have hof := order_full hm
      by_cases hle : (order (depsL mkr L) (List.range L.length)).length = L.length
      · obtain ⟨gp, ve, vd, m, n, he, hG⟩ := h1 mkr hm hle
        exact .inl ⟨mkr, gp, ve, vd, m, n, rfl, hof.1 hle, he, hG⟩
      · have hlt : (order (depsL mkr L) (List.range L.length)).length < L.length := by
          have := order_le (deps := depsL mkr L) (range_rising L.length)
          rw [List.length_range] at this
          omega
        refine .inr ⟨12, .inr rfl, h2 mkr hm hlt, fun n hn => ?_⟩
        rcases hn with ⟨h, _⟩ | ⟨mkr2, h, hr⟩
        · rw [hm] at h; cases h
        · rw [hm] at h
          cases h
          rcases hr with ⟨h, _⟩ | ⟨_, h⟩
          · exact h
          · exact absurd (hof.2 h) hle
  · rcases hn with ⟨_, h⟩ | ⟨mkr, h, _⟩
    · omega
    · exact ⟨mkr, h⟩
end Go.Proofs.Ytbflodefmookiaa.Gr
