/-
  CookOuts, without a world: a command behind 'once '; a dish of which all outputs have the same bytes.
-/
import Derived.Test.YtgledabcfonbeaaGreatDoorCkJ14
import Derived.Test.YtgledabcfonbeaaGreatDoorCkSmall
import Derived.Test.YtgledabcfonbeaaGreatDoorCkLaid
namespace Go.Proofs.YtgledabcfonbeaaGreatDoor.Df
open Go.RowKit Go.Maps Go.Proofs.YtgledabcfonbeaaGreatDoor

def onceS : Bs := [111, 110, 99, 101, 32]
theorem words_once (s : Bs) : words [] (onceS ++ s) = wOnce :: words [] s := by
  simp [onceS, words, fl, wOnce]
def Cmd.on (o : Cmd) : Cmd := { o with once := true }
theorem readB_on {on : Bool} {verb : Bs} {args : List Bs} {c : List Bs × List Bs × Bool} {o : Cmd} (h : readB on verb args c = some o) : o.once = on ∧ readB true verb args c = some o.on := by
  unfold readB at h ⊢
  split at h
  · rename_i hc
    rw [if_pos hc]
    cases hd : depOf c.2.2 c.2.1 with
    | none => rw [hd] at h; cases h
    | some d => rw [hd] at h; cases h; exact ⟨rfl, rfl⟩
  · cases h
theorem readA_on {on : Bool} {c : List Bs × List Bs × Bool} {o : Cmd} (h : readA on c = some o) : o.once = on ∧ readA true c = some o.on := by
  obtain ⟨ah, be, pt⟩ := c
  cases ah with
  | nil => cases h
  | cons verb args =>
    cases pt with
    | false => cases h
    | true => exact readB_on h
theorem readL_once {ws : List Bs} {o : Cmd} (h : readL ws = some o) (ho : o.once = false) : readL (wOnce :: ws) = some o.on := by
  have h2 : offOnce (wOnce :: ws) = (true, ws) := by simp [offOnce]
  have h1 : offOnce ws = (false, ws) := by
    cases ws with
    | nil => rfl
    | cons x r =>
      by_cases hx : x = wOnce
      · exfalso
        unfold readL at h
        have h3 : offOnce (x :: r) = (true, r) := by simp [offOnce, hx]
        rw [h3] at h
        have := (readA_on h).1
        rw [ho] at this
        cases this
      · simp [offOnce, hx]
  unfold readL at h ⊢
  rw [h1] at h
  rw [h2]
  exact (readA_on h).2
theorem cookL_once {H : Bs → Bs} {ws decl : List Bs} {L : List Fl} {o : Cmd} {p : Bs × List Bs} (h : cookL H ws decl L = some (o, p)) (ho : o.once = false) : cookL H (wOnce :: ws) decl L = some (o.on, p) := by
  unfold cookL at h ⊢
  cases hr : readL ws with
  | none => rw [hr] at h; cases h
  | some q =>
    rw [hr] at h
    have h' : (doneO H decl (fileL L) q.verb q.args).map (fun p => (q, p)) = some (o, p) := h
    cases hd : doneO H decl (fileL L) q.verb q.args with
    | none => rw [hd] at h'; cases h'
    | some d =>
      rw [hd] at h'
      cases h'
      rw [readL_once hr ho]
      show (doneO H decl (fileL L) o.on.verb o.on.args).map (fun p => (o.on, p)) = _
      have e : doneO H decl (fileL L) o.on.verb o.on.args = some p := hd
      rw [e]
      rfl
theorem cookL_ok {H : Bs → Bs} (hH : ∀ r, (H r).length ≤ 65536) {ws decl : List Bs} {L : List Fl} {o : Cmd} {p : Bs × List Bs} (h : cookL H ws decl L = some (o, p)) :
    o.outs ≠ [] ∧ p.1.length ≤ 65536 ∧ decide (o.dep = []) = decide (depsT o p.2 = []) := by
  unfold cookL at h
  cases hr : readL ws with
  | none => rw [hr] at h; cases h
  | some q =>
    rw [hr] at h
    have h' : (doneO H decl (fileL L) q.verb q.args).map (fun p => (q, p)) = some (o, p) := h
    cases hd : doneO H decl (fileL L) q.verb q.args with
    | none => rw [hd] at h'; cases h'
    | some d =>
      rw [hd] at h'
      cases h'
      obtain ⟨i1, i2, -⟩ := readL_ok hr
      obtain ⟨j1, -, j3⟩ := doneO_ok (fun _ => hH) hd
      refine ⟨i1, j1, ?_⟩
      unfold depsT
      by_cases hdp : o.dep = []
      · rw [if_pos hdp, hdp]
      · have hb : ¬ (badL (o.outs.headD []) || p.2.any badL) = true := by
          rw [Bool.or_eq_true]
          rintro (hb | hb)
          · cases ho : o.outs with
            | nil => exact i1 ho
            | cons x r =>
              rw [ho] at hb
              have := i2 x (by rw [ho]; exact List.mem_cons_self)
              unfold badL at hb
              rw [List.headD_cons, this] at hb
              cases hb
          · obtain ⟨x, hx, hbx⟩ := List.any_eq_true.1 hb
            have := j3 x hx
            unfold badL at hbx
            rw [this] at hbx
            cases hbx
        rw [if_neg hdp, if_neg hb, decide_eq_false hdp]
        exact (decide_eq_false (by simp)).symm

/-- all outputs are of one row of bytes -/
theorem DiV.at {W : World} {base : Nat} {o : Cmd} {p : Bs × List Bs} {v : Value} (h : DiV W base o p v) : ∃ (a : Option Addr) (c : Nat), v = .agg #[.slice a o.outs.length c, .bool o.once, .string (mk o.dep), .string (mk (depsT o p.2))] ∧
    (o.outs ≠ [] → ∃ g : Nat, a = some ⟨g, 0, none⟩ ∧ (o.outs.length ≤ c ∧ c ≤ 9223372036854775807) ∧ base ≤ g ∧ g < W.heap.size ∧ ∀ j, j < o.outs.length → ∃ (u : Option Addr) (k : Nat), W.cell? ⟨g, j * 2 + 1, none⟩ = some (.slice u p.1.length k) ∧ Byt W (.slice u p.1.length k) p.1) := by
  obtain ⟨a, c, L, rfl, hfst, hob, hown⟩ := h
  have hlen : L.length = o.outs.length := by rw [← hfst, List.length_map]
  refine ⟨a, c, by rw [hlen], fun hne => ?_⟩
  have hpos : 0 < L.length := by
    rw [hlen]
    exact List.length_pos_iff.2 hne
  have h2 := hown.2
  obtain ⟨g, rfl, hc1, hc9⟩ : ∃ g, a = some ⟨g, 0, none⟩ ∧ L.length ≤ c ∧ c ≤ 9223372036854775807 := by
    rcases h2 with ⟨e1, e2⟩ | ⟨g, cap, cur, e1, _, _, hle, hcap, _⟩
    · omega
    · injection e1 with e1 e2 e3
      unfold maxLen at hcap
      exact ⟨g, e1, by omega, by omega⟩
  obtain ⟨hlo, cur, hcur⟩ := owns_block hown (g := g) rfl
  refine ⟨g, rfl, ⟨by omega, hc9⟩, hlo, lt_some hcur, fun j hj => ?_⟩
  obtain ⟨⟨x, v⟩, hx⟩ : ∃ q, L[j]? = some q := ⟨_, List.getElem?_eq_getElem (by omega)⟩
  obtain ⟨base2, hob2⟩ := hob (x, v) (List.mem_of_getElem? hx)
  obtain ⟨u, k, e1⟩ := own_slice hob2
  have e1 : v = .slice u p.1.length k := e1
  subst e1
  have hc2 := hown.cells (g := g) rfl (j * 2 + 1) (.slice u p.1.length k) (fcells_at L j x _ hx).2
  rw [Go.WideShapes.add_plain] at hc2
  have e0 : 0 + (j * 2 + 1) = j * 2 + 1 := by omega
  rw [e0] at hc2
  exact ⟨u, k, hc2, owns_byt hob2⟩
end Go.Proofs.YtgledabcfonbeaaGreatDoor.Df

/-! CookAlone, without a world: what a command makes hangs on the files that it names and those that it tells. -/
namespace Go.Proofs.YtgledabcfonbeaaGreatDoor.Df
open Go.RowKit Go.Maps Go.Proofs.YtgledabcfonbeaaGreatDoor

theorem foldO_mono {S : Type} {f f' : Bs → S → Option S} : ∀ (l : List Bs) (s t : S), (∀ a ∈ l, ∀ s u, f a s = some u → f' a s = some u) → foldO f l s = some t → foldO f' l s = some t
  | [], _, _, _, h => h
  | a :: l, s, t, hf, h => by
    rw [foldO] at h ⊢
    cases ha : f a s with
    | none => rw [ha] at h; cases h
    | some u =>
      rw [ha] at h
      rw [hf a List.mem_cons_self s u ha]
      exact foldO_mono l u t (fun a h => hf a (List.mem_cons_of_mem _ h)) h
theorem argO_same {decl decl' : List Bs} {F F' : Bs → Option Bs} {a b : Bs} (hd : ∀ x ∈ decl, x ∈ decl') (hF : F' a = F a) (h : argO decl F a = some b) : argO decl' F' a = some b := by
  unfold argO at h ⊢
  split at h
  · rename_i hc
    rw [if_pos (by rw [List.contains_iff_mem] at hc ⊢; exact hd _ hc), hF]
    exact h
  · cases h

/-! ### what is put in -/
def Gr (f : Bs → Kst → Option Kst) : Prop := ∀ b s t, f b s = some t → ∀ x ∈ s.found, x ∈ t.found
theorem fndO_sub {L : List Bs} {x y : Bs} (h : y ∈ L) : y ∈ fndO L x := by
  unfold fndO
  split
  · exact h
  · exact List.mem_append_left _ h
theorem fndO_self (L : List Bs) (x : Bs) : x ∈ fndO L x := by
  unfold fndO
  split
  · rename_i h
    rwa [List.contains_iff_mem] at h
  · exact List.mem_append_right _ List.mem_cons_self
theorem lineO_gr {F : Bs → Option Bs} {f : Option (Bs → Kst → Option Kst)} (hf : ∀ f0, f = some f0 → Gr f0) : Gr (lineO F f) := by
  intro l s t h x hx
  unfold lineO at h
  cases hcp : cutP l with
  | none =>
    rw [hcp] at h
    dsimp only at h
    cases hg : growO s.whole l with
    | none => rw [hg] at h; cases h
    | some w => rw [hg] at h; cases h; exact hx
  | some nm =>
    rw [hcp] at h
    cases f with
    | none => cases h
    | some f0 =>
      dsimp only at h
      unfold inclO at h
      split at h
      · cases hF : F (trimE nm) with
        | none => rw [hF] at h; cases h
        | some b =>
          rw [hF] at h
          exact hf f0 rfl _ _ _ h x (fndO_sub hx)
      · cases h
theorem foldO_gr {f : Bs → Kst → Option Kst} (hf : Gr f) : ∀ (l : List Bs) (s t : Kst), foldO f l s = some t → ∀ x ∈ s.found, x ∈ t.found
  | [], s, t, h, x, hx => by cases h; exact hx
  | a :: l, s, t, h, x, hx => by
    rw [foldO] at h
    cases ha : f a s with
    | none => rw [ha] at h; cases h
    | some u =>
      rw [ha] at h
      exact foldO_gr hf l u t h x (hf _ _ _ ha x hx)
theorem putO_gr (F : Bs → Option Bs) : ∀ r, Gr (putO F r)
  | 0 => fun b s t h => foldO_gr (lineO_gr (fun f0 e => by cases e)) _ s t h
  | r + 1 => fun b s t h => foldO_gr (lineO_gr (fun f0 e => by cases e; exact putO_gr F r)) _ s t h
def Sm (F F' : Bs → Option Bs) (t : Kst) : Prop := ∀ x ∈ t.found, F' x = F x
theorem lineO_same {F F' : Bs → Option Bs} {f f' : Option (Bs → Kst → Option Kst)} (hff : (f = none ∧ f' = none) ∨ ∃ g g', f = some g ∧ f' = some g' ∧ Gr g ∧ ∀ b s t, g b s = some t → Sm F F' t → g' b s = some t) {l : Bs} {s t : Kst} (h : lineO F f l s = some t) (hs : Sm F F' t) : lineO F' f' l s = some t := by
  unfold lineO at h ⊢
  cases hcp : cutP l with
  | none => rw [hcp] at h; exact h
  | some nm =>
    rw [hcp] at h
    rcases hff with ⟨rfl, rfl⟩ | ⟨g, g', rfl, rfl, hg, hgg⟩
    · cases h
    · dsimp only at h ⊢
      unfold inclO at h ⊢
      split at h
      · rename_i hc
        rw [if_pos hc]
        cases hF : F (trimE nm) with
        | none => rw [hF] at h; cases h
        | some b =>
          rw [hF] at h
          have h' : g b ⟨s.whole, s.n + 1, fndO s.found (trimE nm)⟩ = some t := h
          rw [hs _ (hg _ _ _ h' _ (fndO_self _ _)), hF]
          exact hgg _ _ _ h' hs
      · cases h
theorem foldO_same {F F' : Bs → Option Bs} {f f' : Bs → Kst → Option Kst} (hg : Gr f) (hf : ∀ l s t, f l s = some t → Sm F F' t → f' l s = some t) : ∀ (l : List Bs) (s t : Kst), foldO f l s = some t → Sm F F' t → foldO f' l s = some t
  | [], _, _, h, _ => h
  | a :: l, s, t, h, hs => by
    rw [foldO] at h ⊢
    cases ha : f a s with
    | none => rw [ha] at h; cases h
    | some u =>
      rw [ha] at h
      rw [hf _ _ _ ha (fun x hx => hs x (foldO_gr hg l u t h x hx))]
      exact foldO_same hg hf l u t h hs
theorem putO_same {F F' : Bs → Option Bs} : ∀ (r : Nat) (b : Bs) (s t : Kst), putO F r b s = some t → Sm F F' t → putO F' r b s = some t
  | 0, b, s, t, h, hs => foldO_same (lineO_gr (fun f0 e => by cases e)) (fun l s t h hs => lineO_same (.inl ⟨rfl, rfl⟩) h hs) _ s t h hs
  | r + 1, b, s, t, h, hs => foldO_same (lineO_gr (fun f0 e => by cases e; exact putO_gr F r)) (fun l s t h hs => lineO_same (.inr ⟨_, _, rfl, rfl, putO_gr F r, putO_same r⟩) h hs) _ s t h hs

/-! ### a command -/
theorem doneO_same {H : Bs → Bs} {decl decl' : List Bs} {F F' : Bs → Option Bs} {verb : Bs} {A : List Bs} {p : Bs × List Bs} (hd : ∀ x ∈ decl, x ∈ decl') (hA : ∀ a ∈ A, F' a = F a) (hp : ∀ x ∈ p.2, F' x = F x) (h : doneO H decl F verb A = some p) : doneO H decl' F' verb A = some p := by
  have mapS : ∀ {o o' : Option Bs}, (∀ r, o = some r → o' = some r) → o.map (fun r => (r, ([] : List Bs))) = some p → o'.map (fun r => (r, ([] : List Bs))) = some p := by
    intro o o' ho h
    cases o with
    | none => cases h
    | some r => rw [ho r rfl]; exact h
  have one : ∀ {a b : Bs}, a ∈ A → argO decl F a = some b → argO decl' F' a = some b := fun ha h => argO_same hd (hA _ ha) h
  unfold doneO at h ⊢
  split
  · rename_i h1
    rw [if_pos h1] at h
    refine mapS (fun r hr => ?_) h
    exact foldO_mono A [] r (fun a ha s u hu => by
      cases hx : argO decl F a with
      | none => rw [hx] at hu; cases hu
      | some b => rw [one ha hx]; rw [hx] at hu; exact hu) hr
  rename_i h1
  rw [if_neg h1] at h
  split
  · rename_i h1
    rw [if_pos h1] at h
    refine mapS (fun r hr => ?_) h
    unfold revO at hr ⊢
    split at hr
    · rename_i a
      cases hx : argO decl F a with
      | none => rw [hx] at hr; cases hr
      | some b => rw [one List.mem_cons_self hx]; rw [hx] at hr; exact hr
    · cases hr
  rename_i h1
  rw [if_neg h1] at h
  split
  · rename_i h1
    rw [if_pos h1] at h
    refine mapS (fun r hr => ?_) h
    unfold sumO at hr ⊢
    split at hr
    · cases hr
    · rename_i hne
      rw [if_neg hne]
      cases hx : allO decl F A [] with
      | none => rw [hx] at hr; cases hr
      | some b =>
        have : allO decl' F' A [] = some b := foldO_mono A [] b (fun a ha s u hu => by
          cases hx : argO decl F a with
          | none => rw [hx] at hu; cases hu
          | some b => rw [one ha hx]; rw [hx] at hu; exact hu) hx
        rw [this]
        rw [hx] at hr
        exact hr
  rename_i h1
  rw [if_neg h1] at h
  split
  · rename_i h1
    rw [if_pos h1] at h
    exact h
  rename_i h1
  rw [if_neg h1] at h
  split
  · rename_i h1
    rw [if_pos h1] at h
    unfold incO at h ⊢
    split at h
    · rename_i a
      cases hx : argO decl F a with
      | none => rw [hx] at h; cases h
      | some b =>
        rw [one List.mem_cons_self hx]
        rw [hx] at h
        cases hq : putO F 10 b ⟨[], 0, []⟩ with
        | none => simp only [Option.bind_some, hq] at h; cases h
        | some t =>
          simp only [Option.bind_some, hq] at h ⊢
          cases h
          rw [putO_same 10 b _ t hq hp]
          rfl
    · cases h
  rename_i h1
  rw [if_neg h1] at h
  cases h
theorem cookL_same {H : Bs → Bs} {ws decl decl' : List Bs} {L L' : List Fl} {o : Cmd} {p : Bs × List Bs} (hd : ∀ x ∈ decl, x ∈ decl') (hL : ∀ x, x ∈ ws ∨ x ∈ p.2 → fileL L' x = fileL L x) (h : cookL H ws decl L = some (o, p)) : cookL H ws decl' L' = some (o, p) := by
  unfold cookL at h ⊢
  cases hr : readL ws with
  | none => rw [hr] at h; cases h
  | some q =>
    rw [hr] at h
    have h' : (doneO H decl (fileL L) q.verb q.args).map (fun p => (q, p)) = some (o, p) := h
    cases hd2 : doneO H decl (fileL L) q.verb q.args with
    | none => rw [hd2] at h'; cases h'
    | some d =>
      rw [hd2] at h'
      cases h'
      obtain ⟨-, -, -, i4, -⟩ := readL_ok hr
      show (doneO H decl' (fileL L') o.verb o.args).map (fun p => (o, p)) = _
      rw [doneO_same hd (fun a ha => hL a (.inl (i4 a ha))) (fun x hx => hL x (.inr hx)) hd2]
      rfl

/-! ### files that are kept, and turned -/
def someL (K : List Bs) (L : List Fl) : List Fl := L.filter fun x => K.contains x.1
def turnL (K : List Bs) (m : Bs) (L : List Fl) : List Fl := L.map fun x => if K.contains x.1 then x else (x.1, m)
theorem fileL_cons (x : Fl) (L : List Fl) (s : Bs) : fileL (x :: L) s = if x.1 = s then some x.2 else fileL L s := by
  unfold fileL
  rw [List.find?_cons]
  by_cases h : x.1 = s
  · rw [decide_eq_true h, if_pos h]; rfl
  · rw [decide_eq_false h, if_neg h]
theorem fileL_some {K : List Bs} {s : Bs} (hs : s ∈ K) : ∀ L : List Fl, fileL (someL K L) s = fileL L s
  | [] => rfl
  | x :: L => by
    have ih := fileL_some hs L
    rw [fileL_cons]
    unfold someL at ih ⊢
    rw [List.filter_cons]
    by_cases hx : K.contains x.1 = true
    · rw [if_pos hx, fileL_cons, ih]
    · rw [if_neg hx, ih, if_neg]
      intro e
      rw [e] at hx
      exact hx (List.contains_iff_mem.2 hs)
theorem fileL_turn {K : List Bs} {s m : Bs} (hs : s ∈ K) : ∀ L : List Fl, fileL (turnL K m L) s = fileL L s
  | [] => rfl
  | x :: L => by
    have ih := fileL_turn (m := m) hs L
    unfold turnL at ih ⊢
    rw [List.map_cons, fileL_cons, fileL_cons, ih]
    by_cases hx : K.contains x.1 = true
    · rw [if_pos hx]
    · rw [if_neg hx]
      have : ¬ x.1 = s := by
        intro e
        rw [e] at hx
        exact hx (List.contains_iff_mem.2 hs)
      rw [if_neg this, if_neg this]
theorem someL_snoc (K : List Bs) (L : List Fl) (x : Fl) : someL K (L ++ [x]) = someL K L ++ (if K.contains x.1 then [x] else []) := by
  unfold someL
  rw [List.filter_append, List.filter_cons]
  rfl
theorem turnL_snoc (K : List Bs) (m : Bs) (L : List Fl) (x : Fl) : turnL K m (L ++ [x]) = turnL K m L ++ [if K.contains x.1 then x else (x.1, m)] := by
  unfold turnL
  rw [List.map_append]
  rfl
end Go.Proofs.YtgledabcfonbeaaGreatDoor.Df
