/-
  THE DOCUMENT'S READING OF A TEXT: its words, a step at a time; what is around them cut.
-/
import Derived.Test.YtgledabcfonbeaaGreatDoorCkJ15
import Derived.Test.YtgledabcfonbeaaGreatDoorCkJ16
namespace Go.Proofs.YtgledabcfonbeaaGreatDoor.Df
open Go.RowKit Go.Proofs.YtgledabcfonbeaaGreatDoor

theorem once_snoc (L : List Bs) (x : Bs) : onceL (L ++ [x]) = if (onceL L).contains x then onceL L else onceL L ++ [x] := by unfold onceL; simp
theorem once_len : ∀ (n : Nat) (L : List Bs), L.length = n → (onceL L).length ≤ L.length := by
  intro n
  induction n with
  | zero => intro L h; obtain rfl : L = [] := List.eq_nil_of_length_eq_zero h; simp [onceL]
  | succ n ih =>
    intro L h
    rcases List.eq_nil_or_concat L with rfl | ⟨K, x, rfl⟩
    · simp at h
    · rw [List.concat_eq_append] at h ⊢
      have := ih K (by simp at h; exact h)
      rw [once_snoc]
      split
      · simp; omega
      · simp; exact this
theorem tokR_step (c : UInt8) (r cur : Bs) : tokR cur (c :: r) = if c = 92 ∧ r.head? = some 10 then fl cur ++ tokR [] (r.drop 1) else if sepB c then fl cur ++ tk c ++ tokR [] r else tokR (cur ++ [c]) r := by
  cases r with
  | nil =>
    rw [if_neg (by simp)]
    show (if sepB c then fl cur ++ tk c else fl (cur ++ [c])) = _
    split
    · simp [tokR, fl]
    · rfl
  | cons d r =>
    show (if c = 92 ∧ d = 10 then fl cur ++ tokR [] r else if sepB c then fl cur ++ tk c ++ tokR [] (d :: r) else tokR (cur ++ [c]) (d :: r)) = _
    by_cases h : c = 92 ∧ d = 10
    · rw [if_pos h, if_pos ⟨h.1, by simp [h.2]⟩]; rfl
    · have hn : ¬ (c = 92 ∧ (d :: r).head? = some 10) := fun e => h ⟨e.1, Option.some.inj e.2⟩
      rw [if_neg h, if_neg hn]

/-- where the reading stands -/
def TI (s : Bs) (j : Nat) (W : List Bs) (cur : Bs) : Prop :=
  (j ≤ s.length → tokR [] s = W ++ tokR cur (s.drop j)) ∧ (s.length < j → tokR [] s = W)
section
variable {s : Bs} {j : Nat} {W : List Bs} {cur : Bs} {c : UInt8}
theorem TI.start : TI s 0 [] [] := ⟨fun _ => by simp, fun h => by omega⟩
theorem TI.last (h : TI s s.length W cur) : TI s (s.length + 1) (W ++ fl cur) [] := ⟨fun h => by omega, fun _ => by
  have := h.1 (Nat.le_refl _)
  rw [List.drop_length] at this
  exact this⟩
theorem drop_at (h : s[j]? = some c) : s.drop j = c :: s.drop (j + 1) ∧ j < s.length := by
  obtain ⟨hj, e⟩ := List.getElem?_eq_some_iff.1 h
  exact ⟨by rw [List.drop_eq_getElem_cons hj, e], hj⟩
theorem TI.cont (h : TI s j W cur) (h1 : s[j]? = some 92) (h2 : s[j + 1]? = some 10) : TI s (j + 2) (W ++ fl cur) [] := by
  obtain ⟨e1, l1⟩ := drop_at h1
  obtain ⟨e2, l2⟩ := drop_at h2
  refine ⟨fun _ => ?_, fun h => by omega⟩
  rw [h.1 (by omega), e1, tokR_step, if_pos ⟨rfl, by rw [e2]; rfl⟩, e2, List.append_assoc]
  rfl
theorem TI.sep (h : TI s j W cur) (h1 : s[j]? = some c) (hs : sepB c = true) : TI s (j + 1) (W ++ fl cur ++ tk c) [] := by
  obtain ⟨e1, l1⟩ := drop_at h1
  refine ⟨fun _ => ?_, fun h => by omega⟩
  have hc : ¬ (c = 92 ∧ (s.drop (j + 1)).head? = some 10) := fun e => by rw [e.1] at hs; exact absurd hs (by decide)
  rw [h.1 (by omega), e1, tokR_step, if_neg hc, if_pos hs]
  simp
theorem TI.chr (h : TI s j W cur) (h1 : s[j]? = some c) (hc : ¬ (c = 92 ∧ s[j + 1]? = some 10)) (hs : sepB c = false) : TI s (j + 1) W (cur ++ [c]) := by
  obtain ⟨e1, l1⟩ := drop_at h1
  refine ⟨fun _ => ?_, fun h => by omega⟩
  have hc : ¬ (c = 92 ∧ (s.drop (j + 1)).head? = some 10) := fun e => hc ⟨e.1, by rw [← e.2]; simp⟩
  rw [h.1 (by omega), e1, tokR_step, if_neg hc, if_neg (by rw [hs]; decide)]
end

theorem tokR_mem : ∀ (t cur : Bs), ∀ x ∈ tokR cur t, x.length ≤ cur.length + t.length + 1 := by
  intro t
  induction h : t.length using Nat.strongRecOn generalizing t with
  | _ n ih =>
    intro cur x hx
    subst h
    have hfl : ∀ (cur : Bs), x ∈ fl cur → x.length ≤ cur.length := fun cur h => by rw [(fl_mem h).1]; exact Nat.le_refl _
    cases t with
    | nil =>
      have := hfl cur hx
      omega
    | cons c r =>
      rw [tokR_step] at hx
      simp only [List.length_cons]
      split at hx
      · rcases List.mem_append.1 hx with hx | hx
        · have := hfl cur hx; omega
        · have := ih (r.drop 1).length (by simp; omega) (r.drop 1) rfl [] x hx
          rw [List.length_drop] at this
          simp at this
          omega
      · split at hx
        · rcases List.mem_append.1 hx with hx | hx
          · rcases List.mem_append.1 hx with hx | hx
            · have := hfl cur hx; omega
            · unfold tk at hx
              split at hx
              · cases hx
              · rw [List.mem_singleton.1 hx]; simp
          · have := ih r.length (by simp) r rfl [] x hx
            simp at this
            omega
        · have := ih r.length (by simp) r rfl _ x hx
          simp at this
          omega

/-! ### what is around the words, cut -/
theorem dropNL_step {w : List Bs} : dropNL ([10] :: w) = dropNL w := by
  unfold dropNL; rw [List.dropWhile_cons_of_pos (by rfl)]
theorem dropNL_stop {w : List Bs} (h : w.head? ≠ some [10]) : dropNL w = w := by
  cases w with
  | nil => rfl
  | cons x r =>
    unfold dropNL
    rw [List.dropWhile_cons_of_neg]
    intro e
    exact h (by rw [eq_of_beq e]; rfl)
theorem nl_at {T : List Bs} {a : Nat} (h : T[a]? = some [10]) (h0 : dropNL T = dropNL (T.drop a)) : dropNL T = dropNL (T.drop (a + 1)) := by
  obtain ⟨hj, e⟩ := List.getElem?_eq_some_iff.1 h
  rw [h0, List.drop_eq_getElem_cons hj, e, dropNL_step]
theorem nl_end {T : List Bs} {a : Nat} (h : T[a]? ≠ some [10]) (h0 : dropNL T = dropNL (T.drop a)) : dropNL T = T.drop a := by
  rw [h0, dropNL_stop (by rw [List.head?_drop]; exact h)]
/-- .. from behind: of the words a .. b -/
theorem bk_at {T : List Bs} {a b : Nat} (hab : a < b) (h : T[b - 1]? = some [10]) (h0 : trimNL T = (dropNL ((T.take b).drop a).reverse).reverse) : trimNL T = (dropNL ((T.take (b - 1)).drop a).reverse).reverse := by
  obtain ⟨hj, e⟩ := List.getElem?_eq_some_iff.1 h
  have h1 : T.take b = T.take (b - 1) ++ [[10]] := by
    have : b = (b - 1) + 1 := by omega
    rw [this, List.take_add_one, h]
    simp
  rw [h0, h1, List.drop_append_of_le_length (by rw [List.length_take]; omega), List.reverse_append]
  rw [List.reverse_singleton, List.singleton_append, dropNL_step]
theorem bk_end {T : List Bs} {a b : Nat} (hb : b ≤ T.length) (h : a < b → T[b - 1]? ≠ some [10]) (h0 : trimNL T = (dropNL ((T.take b).drop a).reverse).reverse) : trimNL T = (T.take b).drop a := by
  rw [h0, dropNL_stop, List.reverse_reverse]
  rw [List.head?_reverse, List.getLast?_drop, List.getLast?_take]
  split
  · simp
  · rename_i hl
    rw [List.length_take, Nat.min_eq_left hb] at hl
    have hab : a < b := by omega
    rw [if_neg (by omega)]
    have := h hab
    cases hx : T[b - 1]? with
    | none =>
      have := List.getElem?_eq_none_iff.1 hx
      omega
    | some y => rw [hx] at this; simpa using this
theorem bk_start {T : List Bs} {a : Nat} (h0 : dropNL T = T.drop a) : trimNL T = (dropNL ((T.take T.length).drop a).reverse).reverse := by
  unfold trimNL
  rw [h0, List.take_length]

/-! ### what the words tell -/
theorem tell_short {V : List Bs} (h : V.length < 2) : tellW V = none := by
  match V, h with
  | [], _ => rfl
  | [_], _ => rfl
theorem tell_bad {V : List Bs} {o c : Bs} (h0 : V[0]? = some o) (h1 : V[1]? = some c) (h : o = [58] ∨ c ≠ [58] ∨ (cleanL o).2 ≠ 0) : tellW V = none := by
  match V, h0, h1 with
  | _ :: _ :: ds, h0, h1 =>
    cases h0
    cases h1
    rw [tellW_two, if_neg]
    rintro ⟨e1, e2, e3, _⟩
    rcases h with h | h | h
    · exact e1 h
    · exact h e2
    · exact h e3
theorem tell_badD {V : List Bs} {i : Nat} {x : Bs} (hi : 2 ≤ i) (h0 : V[i]? = some x) (h : okTok x = false) : tellW V = none := by
  match V, h0 with
  | [], h0 => simp at h0
  | [_], h0 => rw [List.getElem?_eq_none (by simp; omega)] at h0; cases h0
  | o :: c :: ds, h0 =>
    rw [tellW_two, if_neg]
    rintro ⟨_, _, _, e4⟩
    have hm : x ∈ ds := by
      obtain ⟨k, rfl⟩ : ∃ k, i = k + 2 := ⟨i - 2, by omega⟩
      exact List.mem_of_getElem? (by simpa using h0)
    have := List.all_eq_true.1 e4 x hm
    rw [h] at this
    cases this
theorem tell_good {V : List Bs} {o : Bs} (h0 : V[0]? = some o) (h1 : V[1]? = some [58]) (hn : o ≠ [58]) (hc : (cleanL o).2 = 0) (ha : (V.drop 2).all okTok = true) : tellW V = some ((cleanL o).1, onceL ((V.drop 2).map fun w => (cleanL w).1)) := by
  match V, h0, h1 with
  | _ :: _ :: ds, h0, h1 =>
    cases h0
    cases h1
    rw [tellW_two, if_pos ⟨hn, rfl, hc, ha⟩]
    rfl
/-- the names of the words behind the first two, as far as i -/
def dp (V : List Bs) (i : Nat) : List Bs := onceL (((V.take i).drop 2).map fun w => (cleanL w).1)
theorem dp_two (V : List Bs) : dp V 2 = [] := by
  unfold dp
  rw [List.drop_of_length_le (by rw [List.length_take]; omega)]
  rfl
theorem dp_step {V : List Bs} {i : Nat} {x : Bs} (hi : 2 ≤ i) (h : V[i]? = some x) : dp V (i + 1) = if (dp V i).contains (cleanL x).1 then dp V i else dp V i ++ [(cleanL x).1] := by
  obtain ⟨hj, e⟩ := List.getElem?_eq_some_iff.1 h
  unfold dp
  rw [List.take_add_one, h]
  show onceL (((V.take i ++ [x]).drop 2).map _) = _
  rw [List.drop_append_of_le_length (by rw [List.length_take]; omega), List.map_append]
  exact once_snoc _ _
theorem dp_all (V : List Bs) : dp V V.length = onceL ((V.drop 2).map fun w => (cleanL w).1) := by unfold dp; rw [List.take_length]
theorem dp_len (V : List Bs) (i : Nat) : (dp V i).length ≤ i := by
  unfold dp
  refine Nat.le_trans (once_len _ _ rfl) ?_
  simp
  omega
theorem all_step {V : List Bs} {i : Nat} {x : Bs} (hi : 2 ≤ i) (h : V[i]? = some x) (hx : okTok x = true) (h0 : ((V.take i).drop 2).all okTok = true) : ((V.take (i + 1)).drop 2).all okTok = true := by
  obtain ⟨hj, e⟩ := List.getElem?_eq_some_iff.1 h
  rw [List.take_add_one, h]
  show ((V.take i ++ [x]).drop 2).all okTok = true
  rw [List.drop_append_of_le_length (by rw [List.length_take]; omega), List.all_append, h0]
  simp [hx]
end Go.Proofs.YtgledabcfonbeaaGreatDoor.Df

/-! The form of a command, as the document's Shape goes through it: no world. -/
namespace Go.Proofs.YtgledabcfonbeaaGreatDoor.Df
open Go.Proofs.YtgledabcfonbeaaGreatDoor

theorem cutW_true {c : Bs} : ∀ {ws a b : List Bs}, cutW c ws = (a, b, true) → ws = a ++ c :: b ∧ c ∉ a
  | [], _, _, h => by cases h
  | x :: r, a, b, h => by
    rw [cutW] at h
    by_cases hx : x = c
    · rw [if_pos hx] at h
      cases h
      exact ⟨by rw [hx]; rfl, by simp⟩
    · rw [if_neg hx] at h
      rcases hc : cutW c r with ⟨a', b', f⟩
      rw [hc] at h
      dsimp only at h
      cases h
      obtain ⟨h1, h2⟩ := cutW_true hc
      refine ⟨by rw [h1]; rfl, fun hm => ?_⟩
      rcases List.mem_cons.1 hm with e | e
      · exact hx e.symm
      · exact h2 e
theorem cutW_false {c : Bs} : ∀ {ws a b : List Bs}, cutW c ws = (a, b, false) → ws = a ∧ c ∉ a ∧ b = []
  | [], _, _, h => by cases h; exact ⟨rfl, by simp, rfl⟩
  | x :: r, a, b, h => by
    rw [cutW] at h
    by_cases hx : x = c
    · rw [if_pos hx] at h
      cases h
    · rw [if_neg hx] at h
      rcases hc : cutW c r with ⟨a', b', f⟩
      rw [hc] at h
      dsimp only at h
      cases h
      obtain ⟨h1, h2, h3⟩ := cutW_false hc
      refine ⟨by rw [h1], fun hm => ?_, h3⟩
      rcases List.mem_cons.1 hm with e | e
      · exact hx e.symm
      · exact h2 e
theorem right_ne {d : Bs} (h : rightL d = true) : d ≠ [] := by
  intro e
  rw [e] at h
  revert h
  decide +kernel
structure Form (ws : List Bs) (o : Cmd) (ws2 behind : List Bs) : Prop where
  off : offOnce ws = (o.once, ws2)
  parts : ws2 = (o.verb :: o.args) ++ [62] :: behind
  no62 : ([62] : Bs) ∉ o.verb :: o.args
  tail : (o.dep = [] ∧ behind = o.outs) ∨ (o.dep ≠ [] ∧ behind = o.outs ++ [[58], o.dep] ∧ rightL o.dep = true)
  no58 : ([58] : Bs) ∉ o.outs
  ok : okOuts o.outs = true
  known : (verbF o.verb).isSome = true
  inc : decide (o.dep ≠ []) = decide (o.verb = wInc)
theorem readL_form {ws : List Bs} {o : Cmd} (h : readL ws = some o) : ∃ ws2 behind, Form ws o ws2 behind := by
  unfold readL at h
  rcases hoff : offOnce ws with ⟨on, ws2⟩
  rw [hoff] at h
  dsimp only at h
  rcases hc : cutW [62] ws2 with ⟨ah, be, pt⟩
  rw [hc] at h
  have ho := (readA_on h).1
  cases ah with
  | nil => cases h
  | cons verb args =>
    cases pt with
    | false => cases h
    | true =>
      obtain ⟨p1, p2⟩ := cutW_true hc
      have h2 : readB on verb args (cutW [58] be) = some o := h
      rcases hc2 : cutW [58] be with ⟨outs, deps, parted⟩
      rw [hc2] at h2
      unfold readB at h2
      split at h2
      · rename_i hk
        rw [Bool.and_eq_true, Bool.and_eq_true] at hk
        obtain ⟨⟨hk1, hk2⟩, hk3⟩ := hk
        dsimp only at hk2 hk3 h2
        cases parted with
        | false =>
          have h3 : o = ⟨on, verb, args, outs, []⟩ := by cases h2; rfl
          subst h3
          obtain ⟨q1, q2, -⟩ := cutW_false hc2
          refine ⟨ws2, be, hoff, p1, p2, .inl ⟨rfl, q1⟩, q2, hk2, hk1, ?_⟩
          have : decide (verb = wInc) = false := (beq_iff_eq.1 hk3).symm
          show decide (([] : Bs) ≠ []) = decide (verb = wInc)
          rw [this]
          rfl
        | true =>
          unfold depOf at h2
          rw [if_pos rfl] at h2
          split at h2
          · rename_i d
            split at h2
            · rename_i hd
              have h3 : o = ⟨on, verb, args, outs, d⟩ := by cases h2; rfl
              subst h3
              obtain ⟨q1, q2⟩ := cutW_true hc2
              have hdn := right_ne hd
              refine ⟨ws2, be, hoff, p1, p2, .inr ⟨hdn, q1, hd⟩, q2, hk2, hk1, ?_⟩
              have : decide (verb = wInc) = true := (beq_iff_eq.1 hk3).symm
              show decide (d ≠ []) = decide (verb = wInc)
              rw [this, decide_eq_true hdn]
            · cases h2
          · cases h2
      · cases h2
theorem once_mem : ∀ (n : Nat) (K : List Bs), K.length = n → ∀ x ∈ K, x ∈ onceL K := by
  intro n
  induction n with
  | zero => intro K h x hx; obtain rfl : K = [] := List.eq_nil_of_length_eq_zero h; cases hx
  | succ n ih =>
    intro K h x hx
    rcases List.eq_nil_or_concat K with rfl | ⟨K, y, rfl⟩
    · cases hx
    · rw [List.concat_eq_append] at h hx ⊢
      have hK : K.length = n := by simp at h; omega
      rw [once_snoc]
      rcases List.mem_append.1 hx with hx | hx
      · have := ih K hK x hx
        split
        · exact this
        · exact List.mem_append_left _ this
      · obtain rfl : x = y := List.mem_singleton.1 hx
        split
        · rename_i hc
          exact List.contains_iff_mem.1 hc
        · exact List.mem_append_right _ List.mem_cons_self
/-- outputs that differ and have the form -/
theorem once_nodup : ∀ (n : Nat) (L : List Bs), L.length = n → (onceL L).length = L.length → ∀ j x, L[j]? = some x → (L.take j).contains x = false := by
  intro n
  induction n with
  | zero => intro L h _ j x hx; obtain rfl : L = [] := List.eq_nil_of_length_eq_zero h; simp at hx
  | succ n ih =>
    intro L h hl j x hx
    rcases List.eq_nil_or_concat L with rfl | ⟨K, y, rfl⟩
    · simp at h
    · rw [List.concat_eq_append] at h hl hx ⊢
      have hK : K.length = n := by simp at h; omega
      have hle := once_len n K hK
      rw [once_snoc] at hl
      split at hl
      · rw [List.length_append] at hl
        simp at hl
        omega
      · rename_i hc
        have hKl : (onceL K).length = K.length := by simp at hl; exact hl
        by_cases hj : j < K.length
        · rw [List.getElem?_append_left hj] at hx
          rw [List.take_append_of_le_length (by omega)]
          exact ih K hK hKl j x hx
        · have hjK : j = K.length := by
            have := (List.getElem?_eq_some_iff.1 hx).1
            rw [List.length_append] at this
            simp at this
            omega
          subst hjK
          rw [List.getElem?_append_right (Nat.le_refl _), Nat.sub_self] at hx
          obtain rfl : y = x := by simpa using hx
          rw [List.take_left]
          cases hq : K.contains y with
          | false => rfl
          | true =>
            exfalso
            apply hc
            rw [List.contains_iff_mem] at hq ⊢
            exact once_mem _ K rfl y hq
end Go.Proofs.YtgledabcfonbeaaGreatDoor.Df

/-! IS IT IN THE ROW; a string laid behind a row: walked. -/
namespace Go.Proofs.YtgledabcfonbeaaGreatDoor.Df
open Go.RowKit Go.Proofs.YtgledabcfonbeaaGreatDoor

theorem push_c {w W : World} {base : Nat} {a : Option Addr} {c : Nat} {K : List Bs} (p : Bs) (h : W.ownsRow base 9 1 (.slice a K.length c) K.length (strV K)) (hw : base = w.heap.size) (hB : Below w.heap.size w W) (hK : K.length ≤ 1000000) :
    ∃ a' c' w', (Builtin.append_ #[32, 32] 32 #[.slice a K.length c, .slice (some ⟨W.heap.size, 0, none⟩) 1 1]).run Tryz.prog (W.alloc (.cells #[.string (mk p)] 9)) = .ok (.slice a' (K ++ [p]).length c') w' ∧
      w'.ownsRow base 9 1 (.slice a' (K ++ [p]).length c') (K ++ [p]).length (strV (K ++ [p])) ∧ Below w.heap.size w w' := by
  subst hw
  obtain ⟨a', c', w', h1, h2, h3⟩ := str_run (p := p) h hB.size hK
  have hA := below_alloc W (.cells #[.string (mk p)] 9)
  exact ⟨a', c', w', h1, h2, (hB.trans (hA.mono hB.size)).trans ⟨h3.os, h3.tape, h3.output, h3.size, fun q hq => h3.block q (by have := hB.size; have := hA.size; omega) (fun e => by
    have := (owns_block h e.symm).1
    omega)⟩⟩

set_option maxRecDepth 100000 in
set_option maxHeartbeats 4000000 in
theorem in_c {w : World} {va : Value} {K : List Bs} (s : Bs) (hK : Strs w va K) (hk : K.length ≤ 1000000) :
    Calls Tryz.prog 16 #[va, .string (mk s)] w fun e w' => e = .returned (.bool (K.contains s)) ∧ Below w.heap.size w w' := by
  obtain ⟨a, c, rfl, hc, hra⟩ := hK
  have HA := Lib.hid hra
  clear hra
  go_enter Tryz.func16, Tryz.ntmps16
  go_wp2_with fail
  go_loopw [5] (fun i wr => ∃ j : Nat, j ≤ K.length ∧ i = .int .i64 j ∧ Hid ((K.take j).contains s = false) ∧ Hid (Below w.heap.size w wr)) (fun i _ => K.length - (intOf i).toNat)
  case atStart => exact ⟨0, Nat.zero_le _, rfl, Lib.hid rfl, Lib.hid (Below.refl _ _)⟩
  case round =>
    obtain ⟨j, hj, rfl, hT, hBw⟩ := hrel
    by_cases hlt : j < K.length
    · have hx := List.getElem?_eq_getElem hlt
      have hmem := List.getElem_mem hlt
      rcases HA.out with h0 | ⟨ga, oa, rfl, hga, hca⟩
      · rw [h0] at hlt; simp at hlt
      have c1 : wr.cell? ⟨ga, oa + j, none⟩ = some (.string (mk K[j])) := (cell_of_block (hBw.out.block ga hga)).trans (hca j _ hx)
      have ht1 : K.take (j + 1) = K.take j ++ [K[j]] := by rw [List.take_add_one, hx]; rfl
      generalize K[j] = x at *
      have hi0 : (0 : Int) ≤ (j : Int) := by omega
      have hi1 : (j : Int) < (K.length : Int) := by omega
      have hcmp := cmpS x s
      by_cases hxy : x = s
      · rw [decide_eq_true hxy] at hcmp
        have HE : Hid (K.contains s = true) := Lib.hid (by rw [List.contains_iff_mem, ← hxy]; exact hmem)
        clear hx hca ht1 hxy hmem
        go_wp2_with fail
        go_ret
        exact ⟨by rw [HE.out]; rfl, hBw.out⟩
      · rw [decide_eq_false hxy] at hcmp
        have HTN : Hid ((K.take (j + 1)).contains s = false) := Lib.hid (by
          have h1 := hT.out
          rw [ht1]
          simp at h1 ⊢
          exact ⟨h1, fun e => hxy e.symm⟩)
        clear hx hca ht1 hxy hmem
        go_wp2_with fail
        go_roundw
        case rel => exact ⟨j + 1, by omega, by go_num, HTN, hBw⟩
        case measure => simp [intOf]; omega
    · obtain rfl : j = K.length := by omega
      have HE : Hid (K.contains s = false) := Lib.hid (by
        have h1 := hT.out
        rw [List.take_length] at h1
        exact h1)
      go_wp2_with fail
      go_ret
      exact ⟨by rw [HE.out]; rfl, hBw.out⟩
end Go.Proofs.YtgledabcfonbeaaGreatDoor.Df
