/-
  THE LAW DepfileParses, walked.
-/
import Derived.Test.YthgahbjelcmelaaDoorDfRefW
namespace Go.Proofs.YthgahbjelcmelaaDoor.Df
open Go.RowKit Go.Proofs.YthgahbjelcmelaaDoor

theorem parse_len {s o : Bs} {d : List Bs} (h : parseP s = some (o, d)) : d.length ≤ s.length := by
  unfold parseP at h
  split at h
  · cases h
  split at h
  · cases h
  · rename_i a b hc
    split at h
    · rename_i o' ds h1 h2
      cases h
      have e1 := cleanAll_len h2
      have e2 := words_len b []
      have e3 := once_len _ ds rfl
      have e4 := (cutB_len hc).2
      have e5 := only_len s
      simp only [if_true] at e2
      omega
    · cases h

set_option maxRecDepth 100000 in
set_option maxHeartbeats 8000000 in
theorem parses_c (s : Bs) (w : World) (hg : Gl w) : Calls Tryd.prog 3 #[.string (mk s)] w fun e w' => e = .returned (.bool true) ∧ Below w.heap.size w w' := by
  have hsz := mk_size s
  by_cases hbig : 3000 < s.length
  · have t0 : (3000 : Int) < ((mk s).size : Int) := by rw [hsz]; omega
    clear hsz
    generalize mk s = S at *
    go_enter Tryd.func3, Tryd.ntmps3
    go_wp2_with fail
    go_ret
    exact ⟨rfl, Below.refl _ _⟩
  have t0 : decide ((3000 : Int) < ((mk s).size : Int)) = false := decide_eq_false (by rw [hsz]; omega)
  have cp := parse_c s (by omega) w hg
  have HCR := Lib.hid fun W => refParse_c s (by omega) W
  have HGL : Hid (∀ W, Below w.heap.size w W → Gl W) := Lib.hid fun W hW => hg.below hW hg.lt
  clear hg hsz
  cases hP : parseP s with
  | none =>
    rw [hP] at cp HCR
    have cp2 : Calls Tryd.prog 6 #[.string (mk s)] w fun e w' => e = .returned (.tuple #[.string ⟨#[]⟩, .slice none 0 0, .int .i64 14]) ∧ Below w.heap.size w w' := cp
    clear cp hP
    generalize mk s = S at *
    go_enter Tryd.func3, Tryd.ntmps3
    go_wp2_with fail
    refine cp2.mono ?_
    rintro e w1 ⟨rfl, hb1⟩
    have HB1 := Lib.hid hb1
    have c1 : Calls Tryd.prog 7 #[.string S] w1 fun e w' => ∃ v, e = .returned (.tuple #[.string ⟨#[]⟩, v, .bool false]) ∧ Strs w' v [] ∧ Below w1.heap.size w1 w' := HCR.out w1
    clear cp2 hb1
    go_wp2_with fail
    refine c1.mono ?_
    rintro e w2 ⟨v, rfl, hv, hb2⟩
    have HB2 := Lib.hid (HB1.out.trans (hb2.mono HB1.out.size))
    have cn0 := rows_c (w := w2) (va := .slice none 0 0) (K := []) (M := []) ⟨none, 0, rfl, Nat.le_refl _, .inl rfl⟩ hv (by decide)
    have cn : Calls Tryd.prog 8 #[.slice none 0 0, v] w2 fun e w' => e = .returned (.bool true) ∧ Below w2.heap.size w2 w' := cn0
    clear c1 hb2 hv cn0
    go_wp2_with fail
    refine cn.mono ?_
    rintro e w3 ⟨rfl, hb3⟩
    have HB3 := Lib.hid (HB2.out.trans (hb3.mono HB2.out.size))
    have ca := awake_c w3 (HGL.out w3 HB3.out)
    clear cn hb3
    go_wp2_with fail
    refine ca.mono ?_
    rintro e w4 ⟨rfl, hb4⟩
    have HB4 := Lib.hid (HB3.out.trans (hb4.mono HB3.out.size))
    clear ca hb4
    go_wp2_with fail
    go_ret
    exact ⟨rfl, HB4.out⟩
  | some od =>
    obtain ⟨o, d⟩ := od
    have hd : d.length ≤ 1000000 := by have := parse_len hP; omega
    rw [hP] at cp HCR
    have cp2 : Calls Tryd.prog 6 #[.string (mk s)] w fun e w' => (∃ v, e = .returned (.tuple #[.string (mk o), v, .int .i64 0]) ∧ w'.ownsRow w.heap.size 9 1 v d.length (strV d)) ∧ Below w.heap.size w w' := cp
    have hcmp := cmpS o o
    rw [decide_eq_true rfl] at hcmp
    clear cp hP
    generalize mk s = S at *
    go_enter Tryd.func3, Tryd.ntmps3
    go_wp2_with fail
    refine cp2.mono ?_
    rintro e w1 ⟨⟨u, rfl, hu⟩, hb1⟩
    have HB1 := Lib.hid hb1
    have c1 : Calls Tryd.prog 7 #[.string S] w1 fun e w' => ∃ v, e = .returned (.tuple #[.string (mk o), v, .bool true]) ∧ Strs w' v d ∧ Below w1.heap.size w1 w' := HCR.out w1
    have HU := Lib.hid (owns_strs hu)
    clear cp2 hb1 hu
    go_wp2_with fail
    refine c1.mono ?_
    rintro e w2 ⟨v, rfl, hv, hb2⟩
    have HB2 := Lib.hid (HB1.out.trans (hb2.mono HB1.out.size))
    have cn0 := rows_c (HU.out.below hb2) hv hd
    rw [decide_eq_true rfl] at cn0
    have cn : Calls Tryd.prog 8 #[u, v] w2 fun e w' => e = .returned (.bool true) ∧ Below w2.heap.size w2 w' := cn0
    clear c1 hb2 hv cn0
    go_wp2_with fail
    refine cn.mono ?_
    rintro e w3 ⟨rfl, hb3⟩
    have HB3 := Lib.hid (HB2.out.trans (hb3.mono HB2.out.size))
    have ca := awake_c w3 (HGL.out w3 HB3.out)
    clear cn hb3
    go_wp2_with fail
    refine ca.mono ?_
    rintro e w4 ⟨rfl, hb4⟩
    have HB4 := Lib.hid (HB3.out.trans (hb4.mono HB3.out.size))
    clear ca hb4
    go_wp2_with fail
    go_ret
    exact ⟨rfl, HB4.out⟩
end Go.Proofs.YthgahbjelcmelaaDoor.Df
