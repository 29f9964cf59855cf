/-
  Parse, WALKED.
-/
import Derived.Test.YthgahbjelcmelaaDoorDfOnce
namespace Go.Proofs.YthgahbjelcmelaaDoor.Df
open Go.RowKit Go.Proofs.YthgahbjelcmelaaDoor

theorem na_form {w w' : World} {r : Option (List Bs)} {e : Ending} (h : NaQ w r e w') :
    ∃ a c, e = .returned (.tuple #[.slice a (r.getD []).length c, .bool r.isSome]) ∧ w'.ownsRow w.heap.size 9 1 (.slice a (r.getD []).length c) (r.getD []).length (strV (r.getD [])) ∧ Below w.heap.size w w' := by
  obtain ⟨h1, hb⟩ := h
  cases r with
  | none => exact ⟨none, 0, h1, World.ownsRow_nil _ _ _ _, hb⟩
  | some os =>
    obtain ⟨v, he, ho⟩ := h1
    obtain ⟨a, c, rfl⟩ := owns_len ho
    exact ⟨a, c, he, ho, hb⟩

theorem cutB_len {c : UInt8} {l a b : Bs} (h : cutB c l = some (a, b)) : a.length ≤ l.length ∧ b.length ≤ l.length := by
  unfold cutB at h
  split at h
  · cases h
    exact ⟨by rw [List.length_take]; omega, by rw [List.length_drop]; omega⟩
  · cases h
theorem only_len (s : Bs) : (onlyL (splS 10 [] (rep s))).length ≤ s.length := by
  have h1 := spl_len 10 (rep s) []
  have h2 := rep_len s
  unfold onlyL
  split
  · rename_i l hl
    have hm : l ∈ (splS 10 [] (rep s)).filter (fun l => !blank l) := by rw [hl]; simp
    have := h1 l (List.mem_filter.1 hm).1
    simp at this
    omega
  · simp
theorem cleanAll_mem {ws os : List Bs} (h : cleanAll ws = some os) : ∀ x ∈ os, x.length ≤ 100 := by
  unfold cleanAll at h
  split at h
  · cases h
    intro x hx
    obtain ⟨y, _, rfl⟩ := List.mem_map.1 hx
    exact cleanL_len y
  · cases h

def pairP : Option (List Bs) → Option (List Bs) → Option (Bs × List Bs)
  | some [o], some ds => some (o, onceL ds)
  | _, _ => none
theorem pair_none {r1 r2 : Option (List Bs)} (h : (r1.getD []).length ≠ 1) : pairP r1 r2 = none := by
  match r1, h with
  | none, _ => rfl
  | some [], _ => cases r2 <;> rfl
  | some [o], h => exact absurd rfl h
  | some (o :: p :: os), _ => cases r2 <;> rfl
/-- what Parse comes to -/
def PaQ (w : World) (r : Option (Bs × List Bs)) (e : Ending) (w' : World) : Prop :=
  (match r with
    | none => e = .returned (.tuple #[.string ⟨#[]⟩, .slice none 0 0, .int .i64 14])
    | some (o, ds) => ∃ v, e = .returned (.tuple #[.string (mk o), v, .int .i64 0]) ∧ w'.ownsRow w.heap.size 9 1 v ds.length (strV ds)) ∧ Below w.heap.size w w'

set_option maxRecDepth 100000 in
set_option maxHeartbeats 8000000 in
theorem parse_c (s : Bs) (hs : s.length ≤ 1000000000) (w : World) (hg : Gl w) : Calls Tryd.prog 6 #[.string (mk s)] w (PaQ w (parseP s)) := by
  have hsz := mk_size s
  by_cases hbig : 16384 < s.length
  · have HP : Hid (parseP s = none) := Lib.hid (if_pos hbig)
    have hb : (16384 : Int) < ((mk s).size : Int) := by rw [hsz]; omega
    clear hsz
    generalize mk s = S at *
    go_enter Tryd.func6, Tryd.ntmps6
    go_wp2_with fail
    go_ret3
    exact ⟨by rw [HP.out]; rfl, Below.refl _ _⟩
  have hb : decide ((16384 : Int) < ((mk s).size : Int)) = false := decide_eq_false (by rw [hsz]; omega)
  have co := only_c s (by omega) w hg
  have hol := only_len s
  obtain ⟨line, hline⟩ : ∃ line, onlyL (splS 10 [] (rep s)) = line := ⟨_, rfl⟩
  have hP0 : parseP s = tellL line := by
    unfold parseP
    rw [if_neg hbig, hline]
    rfl
  rw [hline] at co hol
  have hct := fun W => cutB_c 58 line W (by omega)
  obtain ⟨a, b, k, hv, hal, hbl, hPn, hPs⟩ : ∃ (a b : Bs) (k : Bool), cutV 58 line = .tuple #[.string (mk a), .string (mk b), .bool k] ∧ a.length ≤ line.length ∧ b.length ≤ line.length ∧ (k = false → parseP s = none) ∧ (k = true → parseP s = tellA a b) := by
    unfold cutV
    unfold tellL at hP0
    cases hc : cutB 58 line with
    | none =>
      rw [hc] at hP0
      exact ⟨line, [], false, rfl, Nat.le_refl _, Nat.zero_le _, fun _ => hP0, fun h => by cases h⟩
    | some ab =>
      obtain ⟨a, b⟩ := ab
      rw [hc] at hP0
      obtain ⟨h1, h2⟩ := cutB_len hc
      exact ⟨a, b, true, rfl, h1, h2, (fun h => by cases h), fun _ => hP0⟩
  simp only [hv] at hct
  have HCT := Lib.hid hct
  have HPN := Lib.hid hPn
  have HPS := Lib.hid hPs
  have hal2 : a.length ≤ 1000000 := by omega
  have hbl2 : b.length ≤ 1000000 := by omega
  have HT : Hid (tellA a b = pairP (cleanAll (words [] a)) (cleanAll (words [] b))) := Lib.hid rfl
  have HN1 := Lib.hid fun W => names_c a hal2 W
  have HN2 := Lib.hid fun W => names_c b hbl2 W
  have hm1 := fun os (h : cleanAll (words [] a) = some os) => cleanAll_len h
  have hw1 := words_len a []
  have hw2 := words_len b []
  simp only [if_true] at hw1 hw2
  have HM2 : Hid (∀ ds, cleanAll (words [] b) = some ds → ds.length ≤ 900000 ∧ ∀ x ∈ ds, x.length ≤ 1000000) := Lib.hid fun ds h => ⟨by have := cleanAll_len h; omega, fun x hx => by have := cleanAll_mem h x hx; omega⟩
  have HM1 : Hid (((cleanAll (words [] a)).getD []).length ≤ 1000000) := Lib.hid (by
    cases h : cleanAll (words [] a) with
    | none => simp
    | some os => have := cleanAll_len h; simp; omega)
  generalize cleanAll (words [] a) = r1 at *
  generalize cleanAll (words [] b) = r2 at *
  clear hct hPn hPs hv hP0 hm1 hw1 hw2 hol hal hbl hline hbig hs hal2 hbl2
  generalize mk a = A at *
  generalize mk b = B at *
  generalize mk line = LN at *
  generalize mk s = S at *
  clear hsz
  go_enter Tryd.func6, Tryd.ntmps6
  go_wp2_with fail
  refine co.mono ?_
  rintro e w1 ⟨rfl, hb1⟩
  have HB1 := Lib.hid hb1
  have ct := HCT.out w1
  clear co hb1
  go_wp2_with fail
  refine ct.mono ?_
  rintro e w2 ⟨⟨kd, rfl⟩, rfl⟩
  obtain ⟨w2, hw2⟩ : ∃ W, w1.drewN kd = W := ⟨_, rfl⟩
  rw [hw2]
  have HB2 : Hid (Below w.heap.size w w2) := Lib.hid (by rw [← hw2]; exact ⟨HB1.out.os, HB1.out.tape, HB1.out.output, HB1.out.size, HB1.out.block⟩)
  have cn := HN1.out w2
  clear ct hw2
  go_wp2_with fail
  refine cn.mono ?_
  intro e w3 hq
  obtain ⟨oa, oc, rfl, ho3, hb3⟩ := na_form hq
  have HO3 := Lib.hid ho3
  have HB3 := Lib.hid (HB2.out.trans (hb3.mono HB2.out.size))
  have cn := HN2.out w3
  clear hq ho3 hb3
  go_wp2_with fail
  refine cn.mono ?_
  intro e w4 hq
  obtain ⟨da, dc, rfl, ho4, hb4⟩ := na_form hq
  have HO4 := Lib.hid ho4
  have HB4 := Lib.hid (HB3.out.trans (hb4.mono HB3.out.size))
  have HOD := Lib.hid (owns_below HO3.out hb4)
  clear hq ho4 hb4 cn
  cases k with
  | false =>
    go_wp2_with fail
    go_ret3
    exact ⟨by rw [HPN.out trivial]; rfl, HB4.out⟩
  | true =>
    have HP : Hid (parseP s = pairP r1 r2) := Lib.hid (by rw [HPS.out rfl, HT.out])
    clear HPS HPN HT
    by_cases hn1 : (r1.getD []).length = 1
    · obtain ⟨o, rfl⟩ : ∃ o, r1 = some [o] := by
        match r1, hn1 with
        | some [o], _ => exact ⟨o, rfl⟩
      clear hn1
      have ho : w4.ownsRow w2.heap.size 9 1 (.slice oa 1 oc) 1 (strV [o]) := HOD.out
      rcases ho.2 with ⟨_, h0⟩ | ⟨g, cap, cur, e, hbg, hgc, hle, -⟩
      · cases h0
      cases e
      have c0 : w4.cell? ⟨g, 0, none⟩ = some (.string (mk o)) := (ho.cellAt 0 (by omega)).trans rfl
      have hg4 := lt_of_cell c0
      cases r2 with
      | none =>
        have HP2 : Hid (parseP s = none) := Lib.hid HP.out
        clear hbg hgc hle ho c0 hg4
        go_wp2_with fail
        go_ret3
        exact ⟨by rw [HP2.out]; rfl, HB4.out⟩
      | some ds =>
        have HP2 : Hid (parseP s = some (o, onceL ds)) := Lib.hid HP.out
        obtain ⟨hd1, hd2⟩ := HM2.out ds rfl
        have hrow : w4.ownsRow w3.heap.size 9 1 (.slice da ds.length dc) ds.length (strV ds) := HO4.out
        have hst : Strs w4.drew (.slice da ds.length dc) ds := (owns_strs hrow).drew
        have ce := once_c hst hd1 hd2
        have c0d : w4.drew.cell? ⟨g, 0, none⟩ = some (.string (mk o)) := c0
        have HC0 : Hid (∀ W, Below w4.drew.heap.size w4.drew W → W.cell? ⟨g, 0, none⟩ = some (.string (mk o))) := Lib.hid fun W hW => (cell_of_block (hW.block g hg4)).trans c0
        have e1 : ([o] : List Bs).length = 1 := rfl
        have e2 : (((some [o] : Option (List Bs)).getD []).length : Int) = 1 := rfl
        clear hbg hgc hle ho hg4 hst hrow hd1 hd2
        go_wp2_with fail
        go_region_held3 (fun w' => w'.cell? ⟨g, 0, none⟩ = some (.string (mk o)))
          (first | exact c0d | exact CX | fail)
          (first | (go_at_call 16; (with_reducible refine ce.mono ?_); rintro e w5 ⟨v5, rfl, ho5, hb5⟩; have HO5 := Lib.hid ho5; have HB5 := Lib.hid hb5; have CX := HC0.out _ hb5; clear ho5 hb5) | fail)
        go_wp2_with fail
        go_ret3
        refine ⟨?_, HB4.out.trans (show Below w.heap.size w4 w5 from ⟨HB5.out.os, HB5.out.tape, HB5.out.output, HB5.out.size, fun q hq => HB5.out.block q (Nat.lt_of_lt_of_le hq HB4.out.size)⟩)⟩
        rw [HP2.out]
        exact ⟨v5, rfl, owns_mono HO5.out HB4.out.size⟩
    · have HP2 : Hid (parseP s = none) := Lib.hid (by rw [HP.out, pair_none hn1])
      have t1 : ((((r1.getD []).length : Nat) : Int) != 1) = true := by rw [bne_iff_ne]; omega
      generalize (r1.getD []).length = n1 at *
      have t2 : ¬ ((n1 : Int) = 1) := by omega
      clear HOD HO3 HP
      go_wp2_with fail
      go_ret3
      exact ⟨by rw [HP2.out]; rfl, HB4.out⟩
end Go.Proofs.YthgahbjelcmelaaDoor.Df
