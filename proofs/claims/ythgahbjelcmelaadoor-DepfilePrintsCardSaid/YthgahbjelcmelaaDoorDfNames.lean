/-
  A ROW's WORDS, CLEANED: walked.
-/
import Derived.Test.YthgahbjelcmelaaDoorDfBase
namespace Go.Proofs.YthgahbjelcmelaaDoor.Df
open Go.RowKit Go.Proofs.YthgahbjelcmelaaDoor

theorem blank_f (W : World) (x : Nat) : Calls Tryd.prog 28 #[.int .i32 (x : Int)] W fun e w' => e = .returned (.bool (x == 32)) ∧ ∃ q, w' = W.drewN q := by
  have h1 : decide ((x : Int) = 32) = (x == 32) := by rw [Bool.eq_iff_iff, decide_eq_true_iff, beq_iff_eq]; omega
  go_enter Tryd.func28, Tryd.ntmps28
  go_wp2_with fail
  go_ret
  refine ⟨?_, 0, rfl⟩
  rw [← h1]
  first | rfl | simp [BEq.beq]

theorem pred_blank (w : World) : PredAtRunes Tryd.prog 28 #[] (fun n => n == 32) w := fun W x _ _ => blank_f W x

theorem fields_c (s : Bs) (hs : s.length ≤ 4294967296) (w : World) :
    Calls Tryd.prog 29 #[.string (mk s), .func (.func 28) #[] #[]] w fun e w' => ∃ A, e = .returned (.slice (some ⟨A, 0, none⟩) (words [] s).length (words [] s).length) ∧ w.heap.size ≤ A ∧
      w'.ownsRow w.heap.size 9 1 (.slice (some ⟨A, 0, none⟩) (words [] s).length (words [] s).length) (words [] s).length (strV (words [] s)) ∧ Below w.heap.size w w' := by
  refine (shstringsFieldsFuncrunes 28 #[] (fun _ _ => rfl) (fun n => n == 32) (mk s) w (by rw [mk_size]; exact hs) (pred_blank w)).mono ?_
  rintro e w' ⟨A, rfl, hA, hown, hb⟩
  rw [fields_mk, List.length_map] at hown ⊢
  refine ⟨A, rfl, hA, ?_, hb⟩
  rw [List.map_map] at hown
  exact hown

theorem words_len : ∀ (p cur : Bs), (words cur p).length ≤ p.length + (if cur = [] then 0 else 1)
  | [], cur => by rw [words, fl]; split <;> simp
  | b :: r, cur => by
    rw [words]
    split
    · have h1 := words_len r []
      have h2 : (fl cur).length ≤ if cur = [] then 0 else 1 := by rw [fl]; split <;> simp
      rw [List.length_append, List.length_cons]
      simp at h1
      omega
    · have h1 := words_len r (cur ++ [b])
      rw [if_neg (by simp)] at h1
      rw [List.length_cons]
      omega
theorem words_lens : ∀ (p cur x : Bs), x ∈ words cur p → x.length ≤ cur.length + p.length
  | [], cur, x, hx => by
    rw [words] at hx
    obtain ⟨rfl, _⟩ := fl_mem hx
    simp
  | b :: r, cur, x, hx => by
    rw [words] at hx
    split at hx
    · rcases List.mem_append.1 hx with hx | hx
      · obtain ⟨rfl, _⟩ := fl_mem hx; simp
      · have := words_lens r [] x hx; simp at this ⊢; omega
    · have := words_lens r _ x hx; simp at this ⊢; omega

/-- the first j words are cleaned -/
def mixW (ws : List Bs) (j : Nat) : List Bs := (ws.take j).map (fun w => (cleanL w).1) ++ ws.drop j
theorem mix_len (ws : List Bs) (j : Nat) : (mixW ws j).length = ws.length := by unfold mixW; simp; omega
theorem mix_zero (ws : List Bs) : mixW ws 0 = ws := by simp [mixW]
theorem mix_all (ws : List Bs) : mixW ws ws.length = ws.map (fun w => (cleanL w).1) := by simp [mixW]
theorem mix_at {ws : List Bs} {j : Nat} {x : Bs} (h : ws[j]? = some x) : (mixW ws j)[j]? = some x := by
  have hj := (List.getElem?_eq_some_iff.1 h).1
  unfold mixW
  rw [List.getElem?_append_right (by simp; omega)]
  have e : j - (List.map (fun w => (cleanL w).1) (List.take j ws)).length = 0 := by simp; omega
  rw [e, List.getElem?_drop, Nat.add_zero]
  exact h
theorem mix_set {ws : List Bs} {j : Nat} {x : Bs} (h : ws[j]? = some x) : (strV (mixW ws j)).set j (.string (mk (cleanL x).1)) = strV (mixW ws (j + 1)) := by
  have hj := (List.getElem?_eq_some_iff.1 h).1
  have e1 : ws.take (j + 1) = ws.take j ++ [x] := by rw [List.take_add_one, h]; rfl
  have e2 : ws.drop j = x :: ws.drop (j + 1) := by
    rw [List.drop_eq_getElem_cons hj]
    congr 1
    rw [List.getElem?_eq_getElem hj] at h
    exact Option.some.inj h
  have e3 : (mixW ws j).set j (cleanL x).1 = mixW ws (j + 1) := by
    unfold mixW
    rw [e1, e2, List.set_append_right _ _ (by simp; omega)]
    have e : j - (List.map (fun w => (cleanL w).1) (List.take j ws)).length = 0 := by simp; omega
    rw [e]
    simp
  rw [← e3]
  unfold strV
  rw [List.map_set]
theorem ok_take {ws : List Bs} {j : Nat} {x : Bs} (h : ws[j]? = some x) : ((ws.take (j + 1)).all fun w => decide ((cleanL w).2 = 0)) = ((ws.take j).all (fun w => decide ((cleanL w).2 = 0)) && decide ((cleanL x).2 = 0)) := by
  rw [List.take_add_one, h, List.all_append]
  simp

theorem lt_of_cell {w : World} {p : Addr} {v : Value} (h : w.cell? p = some v) : p.block < w.heap.size := by
  rcases Nat.lt_or_ge p.block w.heap.size with h' | h'
  · exact h'
  · simp [World.cell?, Array.getElem?_eq_none h'] at h

/-- what names comes to -/
def NaQ (w : World) (r : Option (List Bs)) (e : Ending) (w' : World) : Prop :=
  (match r with
    | none => e = .returned (.tuple #[.slice none 0 0, .bool false])
    | some os => ∃ v, e = .returned (.tuple #[v, .bool true]) ∧ w'.ownsRow w.heap.size 9 1 v os.length (strV os)) ∧ Below w.heap.size w w'

set_option maxRecDepth 100000 in
set_option maxHeartbeats 4000000 in
theorem names_c (s : Bs) (hs : s.length ≤ 1000000) (w : World) : Calls Tryd.prog 15 #[.string (mk s)] w (NaQ w (cleanAll (words [] s))) := by
  have hf := fields_c s (by omega) w
  have hwl := words_len s []
  have hws := words_lens s []
  simp only [if_true] at hwl
  generalize words [] s = ws at *
  have hWL : ws.length ≤ 1000000 := by omega
  have HWS := Lib.hid hws
  clear hws hwl
  go_enter Tryd.func15, Tryd.ntmps15
  go_wp2_with fail
  refine hf.mono ?_
  rintro e w1 ⟨A, rfl, hA, hown, hb⟩
  have HO := Lib.hid hown
  have HB := Lib.hid hb
  have HA := Lib.hid hA
  clear hf hown hb hA
  go_wp2_with fail
  go_loopw [6, 7, 8, 9, 15] (fun _ _ _ _ i wr => ∃ j : Nat, j ≤ ws.length ∧ i = .int .i64 j ∧ Hid (((ws.take j).all fun w => decide ((cleanL w).2 = 0)) = true) ∧ Hid (wr.ownsRow w.heap.size 9 1 (.slice (some ⟨A, 0, none⟩) ws.length ws.length) ws.length (strV (mixW ws j))) ∧ Hid (Below w.heap.size w wr)) (fun _ _ _ _ i _ => ws.length - (intOf i).toNat)
  case atStart => exact ⟨0, Nat.zero_le _, rfl, Lib.hid (by simp), Lib.hid (by rw [mix_zero]; exact HO.out), HB⟩
  case round =>
    obtain ⟨j, hj, rfl, hOK, hR, hBw⟩ := hrel
    by_cases hlt : j < ws.length
    · have hx := List.getElem?_eq_getElem hlt
      have hsm := HWS.out _ (List.getElem_mem hlt)
      have HOT := Lib.hid (ok_take hx)
      have HMS := Lib.hid (mix_set hx)
      have hat := mix_at hx
      generalize ws[j] = x at *
      have hsl : x.length ≤ 1000000 := by simp at hsm; omega
      have c0 : wr.cell? ⟨A, j, none⟩ = some (.string (mk x)) := by
        have h1 : (strV (mixW ws j))[j]? = some (.string (mk x)) := by unfold strV; rw [List.getElem?_map, hat]; rfl
        exact (hR.out.cellAt j (by omega)).trans h1
      have cc := clean_c x (by omega) wr
      obtain ⟨C, hC⟩ : ∃ C, cleanL x = C := ⟨_, rfl⟩
      rw [hC] at cc HOT HMS
      obtain ⟨C1, C2⟩ := C
      simp only at cc HOT HMS
      have hi0 : (0 : Int) ≤ (j : Int) := by omega
      have hi1 : (j : Int) < (ws.length : Int) := by omega
      clear hx hsm hat hC
      by_cases h0 : C2 = 0
      · have HOK1 : Hid (((ws.take (j + 1)).all fun w => decide ((cleanL w).2 = 0)) = true) := Lib.hid (by rw [HOT.out, hOK.out, h0]; rfl)
        subst h0
        go_wp2_with fail
        refine cc.mono ?_
        rintro e w2 ⟨rfl, hb2⟩
        have hR2 := owns_below hR.out hb2
        have f0 := hR2.frozenAt j
        have c2 : ∃ u, w2.cell? ⟨A, j, none⟩ = some u := ⟨_, (cell_of_block (hb2.block A (lt_of_cell c0))).trans c0⟩
        obtain ⟨u, c2⟩ := c2
        obtain ⟨hR3, hg3⟩ := hR2.stored j (.string (mk C1))
        rw [HMS.out] at hR3
        have HR3 := Lib.hid hR3
        have HB3 : Hid (Below w.heap.size w (w2.setCell ⟨A, j, none⟩ (.string (mk C1)))) := Lib.hid ((hBw.out.trans (hb2.mono hBw.out.size)).trans ⟨hg3.os, hg3.tape, hg3.output, hg3.size, fun k hk => hg3.block k (by have := hBw.out.size; have := hb2.size; omega) (fun e => by have := Option.some.inj e; have := HA.out; omega)⟩)
        clear cc hb2 hR2 hR3 hg3 c0
        go_wp2_with fail
        go_roundw
        case rel => exact ⟨j + 1, by omega, by go_num, HOK1, HR3, HB3⟩
        case measure => simp [intOf]; omega
      · have HN : Hid (cleanAll ws = none) := Lib.hid (by
          unfold cleanAll
          refine if_neg fun hz => ?_
          have h1 : ((ws.take (j + 1)).all fun w => decide ((cleanL w).2 = 0)) = true := by
            rw [List.all_eq_true] at hz ⊢
            exact fun w hw => hz w (List.mem_of_mem_take hw)
          rw [HOT.out, decide_eq_false h0, Bool.and_false] at h1
          cases h1)
        have t1 : (C2 != 0) = true := by simpa using h0
        go_wp2_with fail
        refine cc.mono ?_
        rintro e w2 ⟨rfl, hb2⟩
        have HB2 := Lib.hid (hBw.out.trans (hb2.mono hBw.out.size))
        clear cc hb2 c0
        go_wp2_with fail
        go_ret2
        exact ⟨by rw [HN.out]; rfl, HB2.out⟩
    · obtain rfl : j = ws.length := by omega
      rw [List.take_length] at hOK
      rw [mix_all] at hR
      have HS : Hid (cleanAll ws = some (ws.map fun w => (cleanL w).1)) := Lib.hid (by unfold cleanAll; rw [if_pos hOK.out])
      go_wp2_with fail
      go_ret2
      refine ⟨?_, hBw.out⟩
      rw [HS.out]
      refine ⟨_, rfl, ?_⟩
      rw [List.length_map]
      exact hR.out
end Go.Proofs.YthgahbjelcmelaaDoor.Df
