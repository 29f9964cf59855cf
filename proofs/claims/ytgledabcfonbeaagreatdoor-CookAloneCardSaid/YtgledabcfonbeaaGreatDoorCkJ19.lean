/-
  The laws' same: two dishes alike.
-/
import Derived.Test.YtgledabcfonbeaaGreatDoorCkOutsW
import Derived.Test.YtgledabcfonbeaaGreatDoorCkJ17
import Derived.Test.YtgledabcfonbeaaGreatDoorCkJ12
import Derived.Test.YtgledabcfonbeaaGreatDoorCkJ15
namespace Go.Proofs.YtgledabcfonbeaaGreatDoor.Df
open Go.RowKit Go.Maps Go.Proofs.YtgledabcfonbeaaGreatDoor

/-- the outputs of a dish, all of one row of bytes -/
def Dsh (W : World) (g : Nat) (outs : List Bs) (r : Bs) : Prop :=
  g < W.heap.size ∧ ∀ (j : Nat) x, outs[j]? = some x → W.cell? ⟨g, j * 2, none⟩ = some (.string (mk x)) ∧ ∃ (u : Option Addr) (k : Nat), W.cell? ⟨g, j * 2 + 1, none⟩ = some (.slice u r.length k) ∧ Byt W (.slice u r.length k) r
theorem Dsh.below {W W' : World} {g : Nat} {outs : List Bs} {r : Bs} (h : Dsh W g outs r) (hb : Below W.heap.size W W') : Dsh W' g outs r :=
  ⟨Nat.lt_of_lt_of_le h.1 hb.size, fun j x hx => by
    obtain ⟨h1, u, k, h2, h3⟩ := h.2 j x hx
    exact ⟨(cell_of_block (hb.block g h.1)).trans h1, u, k, (cell_of_block (hb.block g h.1)).trans h2, h3.below hb⟩⟩
theorem DiV.dsh {W : World} {base : Nat} {o : Cmd} {p : Bs × List Bs} {v : Value} (h : DiV W base o p v) (hne : o.outs ≠ []) : ∃ (g c : Nat), v = .agg #[.slice (some ⟨g, 0, none⟩) o.outs.length c, .bool o.once, .string (mk o.dep), .string (mk (depsT o p.2))] ∧ o.outs.length ≤ c ∧ c ≤ 9223372036854775807 ∧ Dsh W g o.outs p.1 := by
  obtain ⟨a, c, L, rfl, hfst, hob, hown⟩ := h
  have hlen : L.length = o.outs.length := by rw [← hfst, List.length_map]
  have hpos : 0 < L.length := by
    rw [hlen]
    exact List.length_pos_iff.2 hne
  have h2 := hown.2
  obtain ⟨g, rfl, hc1, hc9⟩ : ∃ g, a = some ⟨g, 0, none⟩ ∧ L.length ≤ c ∧ c ≤ 9223372036854775807 := by
    rcases h2 with ⟨e1, e2⟩ | ⟨g, cap, cur, e1, _, _, hle, hcap, _⟩
    · omega
    · injection e1 with e1 e2 e3
      unfold maxLen at hcap
      exact ⟨g, e1, by omega, by omega⟩
  obtain ⟨hlo, cur, hcur⟩ := owns_block hown (g := g) rfl
  refine ⟨g, c, by rw [hlen], by omega, hc9, lt_some hcur, fun j x hx => ?_⟩
  obtain ⟨⟨y, v⟩, hy⟩ : ∃ q, L[j]? = some q := ⟨_, List.getElem?_eq_getElem (by rw [hlen]; exact (List.getElem?_eq_some_iff.1 hx).1)⟩
  have hxy : y = x := by
    have h3 : (L.map Prod.fst)[j]? = some y := by rw [List.getElem?_map, hy]; rfl
    rw [hfst, hx] at h3
    exact (Option.some.inj h3).symm
  subst hxy
  obtain ⟨base2, hob2⟩ := hob (y, v) (List.mem_of_getElem? hy)
  obtain ⟨u, k, e1⟩ := own_slice hob2
  have e1 : v = .slice u p.1.length k := e1
  subst e1
  have hc1 := hown.cells (g := g) rfl (j * 2) (.string (mk y)) (fcells_at L j y _ hy).1
  have hc2 := hown.cells (g := g) rfl (j * 2 + 1) (.slice u p.1.length k) (fcells_at L j y _ hy).2
  rw [Go.WideShapes.add_plain] at hc1 hc2
  rw [Nat.zero_add] at hc1 hc2
  exact ⟨hc1, u, k, hc2, owns_byt hob2⟩

set_option maxRecDepth 100000 in
set_option maxHeartbeats 16000000 in
theorem same_c {w : World} {g1 g2 c1 c2 : Nat} {outs : List Bs} {r : Bs} {on : Bool} {sd ss : ByteArray} (h1 : Dsh w g1 outs r) (h2 : Dsh w g2 outs r) (hc1 : outs.length ≤ c1) (hc2 : outs.length ≤ c2) (hl : outs.length ≤ 1000000) :
    Calls Tryz.prog 18 #[.agg #[.slice (some ⟨g1, 0, none⟩) outs.length c1, .bool on, .string sd, .string ss], .agg #[.slice (some ⟨g2, 0, none⟩) outs.length c2, .bool on, .string sd, .string ss]] w fun e w' => e = .returned (.bool true) ∧ Below w.heap.size w w' := by
  obtain ⟨w1, hw1⟩ : ∃ W, w.alloc (.cells #[.slice (some ⟨g1, 0, none⟩) outs.length c1, .bool on, .string sd, .string ss] 36) = W := ⟨_, rfl⟩
  obtain ⟨w2, hw2⟩ : ∃ W, w1.alloc (.cells #[.slice (some ⟨g2, 0, none⟩) outs.length c2, .bool on, .string sd, .string ss] 47) = W := ⟨_, rfl⟩
  have b1 : Below w.heap.size w w1 := by rw [← hw1]; exact below_alloc _ _
  have b2 : Below w1.heap.size w1 w2 := by rw [← hw2]; exact below_alloc _ _
  have n1 : w1.heap[w.heap.size]? = some (.cells #[.slice (some ⟨g1, 0, none⟩) outs.length c1, .bool on, .string sd, .string ss] 36 (0, 0)) := by rw [← hw1]; exact heap_alloc_new _ _
  have n2 : w2.heap[w1.heap.size]? = some (.cells #[.slice (some ⟨g2, 0, none⟩) outs.length c2, .bool on, .string sd, .string ss] 47 (0, 0)) := by rw [← hw2]; exact heap_alloc_new _ _
  have b02 := b1.trans (b2.mono b1.size)
  have HN1 := Lib.hid ((b2.block _ (lt_some n1)).trans n1)
  have HN2 := Lib.hid n2
  have HB := Lib.hid b02
  have H1 := Lib.hid (h1.below b02)
  have H2 := Lib.hid (h2.below b02)
  obtain ⟨m, hm⟩ : ∃ m, outs.length = m := ⟨_, rfl⟩
  rw [hm] at HN1 HN2 hc1 hc2 hl hw1 hw2
  rw [hm]
  have HM := Lib.hid hm
  have d0 : w2.cell? ⟨w.heap.size, 0, none⟩ = some (.slice (some ⟨g1, 0, none⟩) m c1) := cell_of_heap HN1.out
  have d1 : w2.cell? ⟨w.heap.size, 1, none⟩ = some (.bool on) := cell_of_heap HN1.out
  have d2 : w2.cell? ⟨w.heap.size, 2, none⟩ = some (.string sd) := cell_of_heap HN1.out
  have d3 : w2.cell? ⟨w.heap.size, 3, none⟩ = some (.string ss) := cell_of_heap HN1.out
  have f0 : w2.cell? ⟨w1.heap.size, 0, none⟩ = some (.slice (some ⟨g2, 0, none⟩) m c2) := cell_of_heap HN2.out
  have f1 : w2.cell? ⟨w1.heap.size, 1, none⟩ = some (.bool on) := cell_of_heap HN2.out
  have f2 : w2.cell? ⟨w1.heap.size, 2, none⟩ = some (.string sd) := cell_of_heap HN2.out
  have f3 : w2.cell? ⟨w1.heap.size, 3, none⟩ = some (.string ss) := cell_of_heap HN2.out
  clear n1 n2 b1 b2 b02 h1 h2 hm
  go_enter Tryz.func18, Tryz.ntmps18
  go_wp2_with fail
  clear d0 d1 d2 d3 f0 f1 f2 f3
  go_loopw [5] (fun i wr => ∃ j : Nat, j ≤ m ∧ i = .int .i64 j ∧ Hid (Below w2.heap.size w2 wr)) (fun i _ => m - (intOf i).toNat)
  case atStart => exact ⟨0, Nat.zero_le _, rfl, Lib.hid (Below.refl _ _)⟩
  case round =>
    obtain ⟨j, hj, rfl, hB⟩ := hrel
    have d0 : wr.cell? ⟨w.heap.size, 0, none⟩ = some (.slice (some ⟨g1, 0, none⟩) m c1) := (cell_of_block (hB.out.block _ (lt_some HN1.out))).trans (cell_of_heap HN1.out)
    have f0 : wr.cell? ⟨w1.heap.size, 0, none⟩ = some (.slice (some ⟨g2, 0, none⟩) m c2) := (cell_of_block (hB.out.block _ (lt_some HN2.out))).trans (cell_of_heap HN2.out)
    by_cases hlt : j < m
    · obtain ⟨x, hx⟩ : ∃ x, outs[j]? = some x := ⟨_, List.getElem?_eq_getElem (by rw [HM.out]; exact hlt)⟩
      obtain ⟨a1, u1, k1, a2, a3⟩ := (H1.out.below hB.out).2 j x hx
      obtain ⟨e1, u2, k2, e2, e3⟩ := (H2.out.below hB.out).2 j x hx
      have hi0 : (0 : Int) ≤ (j : Int) := by omega
      have hi1 : (j : Int) < (m : Int) := by omega
      have v1 := fun a => conv_byt (byt_drewO a a3)
      have v2 := fun a => conv_byt (byt_drewO a e3)
      clear hx a3 e3
      go_wp2_with fail
      go_quiet (fail)
      clear d0 f0 a1 a2 e1 e2 v1 v2
      have hBd := Lib.hid (hB.out.trans ((below_drewN wr nq).mono hB.out.size))
      generalize wr.drewN nq = wq at *
      go_wp2_with fail
      go_roundw
      case rel => exact ⟨j + 1, by omega, by go_num, hBd⟩
      case measure => simp [intOf] <;> omega
    · obtain rfl : m = j := by omega
      go_wp2_with fail
      go_ret
      exact ⟨rfl, HB.out.trans (hB.out.mono HB.out.size)⟩
end Go.Proofs.YtgledabcfonbeaaGreatDoor.Df

/-! What is printed of names is read as those names: no world. -/
namespace Go.Proofs.YtgledabcfonbeaaGreatDoor.Df
open Go.Proofs.YtgledabcfonbeaaGreatDoor

theorem right_split {l : Bs} (h : rightL l = true) : (cleanL l).2 = 0 ∧ (cleanL l).1 = l := by
  unfold rightL at h
  rw [Bool.and_eq_true, decide_eq_true_iff, decide_eq_true_iff] at h
  exact h
theorem right_bytes {l : Bs} (h : rightL l = true) : l ≠ [] ∧ ∀ b ∈ l, plainB b = true := by
  obtain ⟨h1, h2⟩ := right_split h
  have hne : l ≠ [] := by
    intro e
    rw [e] at h
    revert h
    decide +kernel
  refine ⟨hne, ?_⟩
  rcases cleanL_cases l with ⟨e, he, h3⟩ | ⟨hp, -⟩
  · rw [he] at h1
    have h1 : e = 0 := h1
    omega
  · exact List.all_eq_true.1 hp
theorem plain_not {b : UInt8} (h : plainB b = true) : b ≠ 92 ∧ sepB b = false ∧ b ≠ 58 ∧ b ≠ 10 := by
  refine ⟨?_, ?_, ?_, ?_⟩
  · rintro rfl; revert h; decide
  · cases hs : sepB b with
    | false => rfl
    | true =>
      exfalso
      unfold sepB at hs
      simp only [Bool.or_eq_true, beq_iff_eq] at hs
      rcases hs with (rfl | rfl) | rfl <;> revert h <;> decide
  · rintro rfl; revert h; decide
  · rintro rfl; revert h; decide
theorem tok_plain : ∀ (p cur rest : Bs), (∀ b ∈ p, plainB b = true) → tokR cur (p ++ rest) = tokR (cur ++ p) rest
  | [], cur, rest, _ => by simp
  | b :: p, cur, rest, h => by
    obtain ⟨h1, h2, -, -⟩ := plain_not (h b List.mem_cons_self)
    rw [List.cons_append, tokR_step, if_neg (fun e => h1 e.1), if_neg (by rw [h2]; exact Bool.false_ne_true), tok_plain p (cur ++ [b]) rest (fun c hc => h c (List.mem_cons_of_mem _ hc))]
    simp
theorem tok_names : ∀ (K : List Bs) (cur : Bs), (∀ x ∈ K, rightL x = true) → tokR cur (K.flatMap (fun d => 32 :: d) ++ [10]) = fl cur ++ K ++ [[10]]
  | [], cur, _ => by
    show tokR cur [10] = _
    rw [tokR_step, if_neg (by simp), if_pos (by decide)]
    simp [tokR, fl, tk]
  | d :: K, cur, h => by
    obtain ⟨hne, hpl⟩ := right_bytes (h d List.mem_cons_self)
    have ih := tok_names K d (fun x hx => h x (List.mem_cons_of_mem _ hx))
    rw [List.flatMap_cons, List.cons_append, List.cons_append, List.append_assoc, tokR_step, if_neg (by simp), if_pos (by decide), tok_plain d [] _ hpl, List.nil_append, ih]
    have h1 : tk 32 = [] := rfl
    have h2 : fl d = [d] := if_neg hne
    rw [h1, h2]
    simp
theorem not_nl {x : Bs} (h : rightL x = true) : (x == [10]) = false ∧ x ≠ [58] := by
  obtain ⟨-, hp⟩ := right_bytes h
  constructor
  · rw [beq_eq_false_iff_ne]
    rintro rfl
    exact absurd rfl (plain_not (hp 10 List.mem_cons_self)).2.2.2
  · rintro rfl
    exact absurd rfl (plain_not (hp 58 List.mem_cons_self)).2.2.1
theorem parse_back {out : Bs} {K : List Bs} (ho : rightL out = true) (hK : ∀ x ∈ K, rightL x = true) (hn : onceL K = K) (hl : (txt out K ++ [10]).length ≤ 16384) : parseP (txt out K ++ [10]) = some (out, K) := by
  obtain ⟨hone, hopl⟩ := right_bytes ho
  have ht : tokR [] (txt out K ++ [10]) = out :: [58] :: K ++ [[10]] := by
    unfold txt
    rw [List.append_assoc, tok_plain out [] _ hopl, List.nil_append, List.cons_append, tokR_step, if_neg (by simp), if_pos (by decide), tok_names K [] hK]
    have h1 : tk 58 = [[58]] := rfl
    have h2 : fl out = [out] := if_neg hone
    have h3 : fl [] = [] := rfl
    rw [h1, h2, h3]
    simp
  have hd1 : dropNL (out :: [58] :: K ++ [[10]]) = out :: [58] :: K ++ [[10]] := by
    unfold dropNL
    rw [List.cons_append, List.dropWhile_cons, (not_nl ho).1]
    rfl
  have hlast : ∃ M y, out :: [58] :: K = M ++ [y] ∧ (y == [10]) = false := by
    rcases List.eq_nil_or_concat K with rfl | ⟨M, y, rfl⟩
    · exact ⟨[out], [58], rfl, rfl⟩
    · refine ⟨out :: [58] :: M, y, by simp, (not_nl (hK y (by simp))).1⟩
  obtain ⟨M, y, hM, hy⟩ := hlast
  have htr : trimNL (out :: [58] :: K ++ [[10]]) = out :: [58] :: K := by
    unfold trimNL
    rw [hd1, hM, List.reverse_append, List.reverse_append]
    show (dropNL ([10] :: (y :: M.reverse))).reverse = _
    unfold dropNL
    rw [List.dropWhile_cons, if_pos (by decide), List.dropWhile_cons, hy]
    show (y :: M.reverse).reverse = _
    simp
  have hall : K.all okTok = true := by
    rw [List.all_eq_true]
    intro x hx
    have h1 := not_nl (hK x hx)
    have h2 := right_split (hK x hx)
    unfold okTok
    rw [decide_eq_true h2.1, Bool.and_true, Bool.and_eq_true, bne_iff_ne, bne_iff_ne]
    exact ⟨h1.2, fun e => by rw [e] at h1; exact absurd h1.1 (by decide)⟩
  have hmap : K.map (fun w => (cleanL w).1) = K := by
    conv => rhs; rw [← List.map_id K]
    exact List.map_congr_left fun x hx => (right_split (hK x hx)).2
  have h0 := right_split ho
  rw [← parse_eq, refP, if_neg (by omega), ht, htr]
  show (if out ≠ [58] ∧ ([58] : Bs) = [58] ∧ (cleanL out).2 = 0 ∧ K.all okTok = true then some ((cleanL out).1, onceL (K.map fun w => (cleanL w).1)) else none) = some (out, K)
  rw [if_pos ⟨(not_nl ho).2, rfl, h0.1, hall⟩, h0.2, hmap, hn]
/-- names, each once -/
theorem once_self : ∀ (n : Nat) (K : List Bs), K.length = n → K.Nodup → onceL K = K := by
  intro n
  induction n with
  | zero => intro K h _; obtain rfl : K = [] := List.eq_nil_of_length_eq_zero h; rfl
  | succ n ih =>
    intro K h hn
    rcases List.eq_nil_or_concat K with rfl | ⟨K, x, rfl⟩
    · rfl
    · rw [List.concat_eq_append] at h hn ⊢
      have hK : K.length = n := by simp at h; omega
      rw [List.nodup_append] at hn
      rw [once_snoc, ih K hK hn.1, if_neg]
      rw [List.contains_iff_mem]
      intro hx
      exact hn.2.2 x hx x (by simp) rfl
end Go.Proofs.YtgledabcfonbeaaGreatDoor.Df

/-! What a command found: names of files, each once: no world. -/
namespace Go.Proofs.YtgledabcfonbeaaGreatDoor.Df
open Go.Proofs.YtgledabcfonbeaaGreatDoor

def Nd (F : Bs → Option Bs) (s : Kst) : Prop := s.found.Nodup ∧ ∀ x ∈ s.found, (F x).isSome = true
theorem lineO_nd {F : Bs → Option Bs} {f : Option (Bs → Kst → Option Kst)} (hf : ∀ f0, f = some f0 → ∀ b s t, f0 b s = some t → Nd F s → Nd F t) {l : Bs} {s t : Kst} (h : lineO F f l s = some t) (hs : Nd F s) : Nd F t := by
  unfold lineO at h
  cases hcp : cutP l with
  | none =>
    rw [hcp] at h
    dsimp only at h
    unfold growO at h
    split at h
    · cases h; exact hs
    · cases h
  | some nm =>
    rw [hcp] at h
    cases f with
    | none => cases h
    | some f0 =>
      dsimp only at h
      unfold inclO at h
      split at h
      · cases hF : F (trimE nm) with
        | none => rw [hF] at h; cases h
        | some b =>
          rw [hF] at h
          refine hf f0 rfl _ _ _ h ⟨?_, fun y hy => ?_⟩
          · show (fndO s.found (trimE nm)).Nodup
            unfold fndO
            split
            · exact hs.1
            · rename_i hc
              rw [List.nodup_append]
              refine ⟨hs.1, by simp, fun a ha c hcc e => ?_⟩
              rw [List.mem_singleton.1 hcc] at e
              rw [e] at ha
              exact hc (List.contains_iff_mem.2 ha)
          · rcases fndO_mem hy with h1 | h1
            · exact hs.2 y h1
            · rw [h1, hF]; rfl
      · cases h
theorem putO_nd (F : Bs → Option Bs) : ∀ (r : Nat) (b : Bs) (s t : Kst), putO F r b s = some t → Nd F s → Nd F t
  | 0, b, s, t, h, hs => foldO_ok (fun l s t h hs => lineO_nd (fun f0 e => by cases e) h hs) _ s t h hs
  | r + 1, b, s, t, h, hs => foldO_ok (fun l s t h hs => lineO_nd (fun f0 e => by cases e; exact putO_nd F r) h hs) _ s t h hs
theorem nodup_len : ∀ (K M : List Bs), K.Nodup → (∀ x ∈ K, x ∈ M) → K.length ≤ M.length
  | [], _, _, _ => Nat.zero_le _
  | x :: K, M, hn, h => by
    rw [List.nodup_cons] at hn
    have hx := h x List.mem_cons_self
    have ih := nodup_len K (M.erase x) hn.2 fun y hy => by
      have hne : y ≠ x := fun e => by rw [e] at hy; exact hn.1 hy
      exact (List.mem_erase_of_ne hne).2 (h y (List.mem_cons_of_mem _ hy))
    rw [List.length_erase_of_mem hx] at ih
    have hpos : 0 < M.length := List.length_pos_of_mem hx
    rw [List.length_cons]
    omega
/-- found names: each once, no more than there are files -/
theorem done_found {H : Bs → Bs} {decl : List Bs} {L : List Fl} {verb : Bs} {A : List Bs} {b : Bs} {f : List Bs} (h : doneO H decl (fileL L) verb A = some (b, f)) : f.Nodup ∧ f.length ≤ L.length := by
  have key : f.Nodup ∧ ∀ x ∈ f, (fileL L x).isSome = true := by
    unfold doneO at h
    have none_ok : ∀ {o : Option Bs}, o.map (fun r => (r, ([] : List Bs))) = some (b, f) → f = [] := by
      intro o h
      cases o with
      | none => cases h
      | some r => cases h; rfl
    have nil_ok : f = [] → f.Nodup ∧ ∀ x ∈ f, (fileL L x).isSome = true := fun e => by rw [e]; exact ⟨by simp, fun x hx => by cases hx⟩
    split at h
    · exact nil_ok (none_ok h)
    split at h
    · exact nil_ok (none_ok h)
    split at h
    · exact nil_ok (none_ok h)
    split at h
    · exact nil_ok (none_ok h)
    split at h
    · unfold incO at h
      split at h
      · rename_i a
        cases ha : argO decl (fileL L) a with
        | none => rw [ha] at h; cases h
        | some c =>
          rw [ha] at h
          cases hp : putO (fileL L) 10 c ⟨[], 0, []⟩ with
          | none => simp only [Option.bind_some, hp] at h; cases h
          | some t =>
            simp only [Option.bind_some, hp] at h
            cases h
            exact putO_nd (fileL L) 10 c _ _ hp ⟨by simp, fun x hx => by cases hx⟩
      · cases h
    · cases h
  refine ⟨key.1, ?_⟩
  have := nodup_len f (L.map Prod.fst) key.1 fun x hx => by
    have h2 := key.2 x hx
    unfold fileL at h2
    cases hy : L.find? (fun y => decide (y.1 = x)) with
    | none => rw [hy] at h2; cases h2
    | some y =>
      have h3 := List.mem_of_find?_eq_some hy
      have h4 := List.find?_some hy
      exact List.mem_map.2 ⟨y, h3, of_decide_eq_true h4⟩
  rw [List.length_map] at this
  exact this
theorem txt_bound (out : Bs) : ∀ K : List Bs, (∀ x ∈ K, x.length ≤ 100) → (txt out K).length ≤ out.length + 1 + 101 * K.length := by
  have h : ∀ K : List Bs, (∀ x ∈ K, x.length ≤ 100) → (K.flatMap (fun d => 32 :: d)).length ≤ 101 * K.length := by
    intro K
    induction K with
    | nil => intro _; simp
    | cons x K ih =>
      intro hx
      have h1 := ih fun y hy => hx y (List.mem_cons_of_mem _ hy)
      have h2 := hx x List.mem_cons_self
      rw [List.flatMap_cons, List.length_append, List.length_cons, List.length_cons]
      omega
  intro K hK
  have h1 := h K hK
  unfold txt
  rw [List.length_append, List.length_cons]
  omega
/-- the depfile's text is read as what was found -/
theorem deps_back {H : Bs → Bs} {decl : List Bs} {L : List Fl} (hL : L.length ≤ 10) {verb : Bs} {A : List Bs} {b : Bs} {f : List Bs} (h : doneO H decl (fileL L) verb A = some (b, f)) {out : Bs} (ho : rightL out = true) (hf : ∀ x ∈ f, rightL x = true) : parseP (txt out f ++ [10]) = some (out, f) ∧ (txt out f ++ [10]).length ≤ 16384 ∧ f.length ≤ 10 := by
  obtain ⟨h1, h2⟩ := done_found h
  have h3 := txt_bound out f fun x hx => right_len (hf x hx)
  have h4 := right_len ho
  have h5 : (txt out f ++ [10]).length ≤ 16384 := by rw [List.length_append]; show _ + 1 ≤ _; omega
  exact ⟨parse_back ho hf (once_self _ f rfl h1) h5, h5, by omega⟩
end Go.Proofs.YtgledabcfonbeaaGreatDoor.Df
