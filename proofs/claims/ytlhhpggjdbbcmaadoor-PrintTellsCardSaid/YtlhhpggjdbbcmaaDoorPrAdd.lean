/-
  WHAT IS ADDED TO A SHEET: parts, names, an edge.
-/
import Derived.Test.YtlhhpggjdbbcmaaDoorPrSheet
namespace Go.Proofs.YtlhhpggjdbbcmaaDoor.Pr
open Go.RowKit Go.Proofs.YtlhhpggjdbbcmaaDoor Go.Proofs.YtlhhpggjdbbcmaaDoor.Df

/-- a sheet at b to which all of T was added -/
structure Sht (w0 : World) (b : Nat) (T : Bs) (w : World) : Prop where
  at_ : ∃ p l g, SelfP b p ∧ ShAt w0.heap.size b p l g w ∧ ((g = false ∧ l = T ∧ T.length ≤ 16384) ∨ (g = true ∧ 16384 < T.length ∧ l.length ≤ 16384))
  bel : Below w0.heap.size w0 w

section
variable {w0 w w' : World} {b : Nat} {T : Bs}
theorem Sht.keep (h : Sht w0 b T w) (hb : Below w.heap.size w w') : Sht w0 b T w' := by
  obtain ⟨⟨p, l, g, h1, h2, h3⟩, h4⟩ := h
  exact ⟨⟨p, l, g, h1, h2.keep hb, h3⟩, h4.trans (hb.mono h4.size)⟩
theorem Sht.block (h : Sht w0 b T w) : ∃ C, w.heap[b]? = some (.cells C 44 (0, 0)) := by
  obtain ⟨⟨p, l, g, h1, ⟨_, v, h2, _⟩, h3⟩, h4⟩ := h
  exact ⟨_, h2⟩
theorem sht_new (w : World) : Sht w w.heap.size [] (w.alloc (.cells #[.pointer none, .slice none 0 0, .bool false] 44)) :=
  ⟨⟨_, _, _, .inl rfl, sh_new w, .inl ⟨rfl, rfl, by decide⟩⟩, below_alloc w _⟩
/-- a row of parts, in a block of its own -/
def Parts (w : World) (k : Nat) (P : List Bs) : Prop := w.heap[k]? = some (.cells (strV P).toArray 9 (0, 0))
theorem Parts.ne {k : Nat} {P : List Bs} (hp : Parts w k P) (h : Sht w0 b T w) : k ≠ b := by
  obtain ⟨C, hC⟩ := h.block
  rintro rfl
  unfold Parts at hp
  rw [hC] at hp
  cases hp
theorem Parts.keep {k : Nat} {P : List Bs} (hp : Parts w k P) (hne : k ≠ b) (ho : Others b w w') : Parts w' k P :=
  ho k _ hp (fun e => hne (Option.some.inj e)) (fun c fz e => by cases e)
theorem Parts.at {k : Nat} {P : List Bs} (hp : Parts w k P) {j : Nat} {x : Bs} (hx : P[j]? = some x) : w.cell? ⟨k, j, none⟩ = some (.string (mk x)) := by
  unfold Parts at hp
  simp [World.cell?, hp, strV, hx]
end

theorem flat_take {P : List Bs} {j : Nat} {x : Bs} (h : P[j]? = some x) : (P.take (j + 1)).flatten = (P.take j).flatten ++ x := by
  rw [List.take_add_one, h]
  simp

set_option maxRecDepth 100000 in
set_option maxHeartbeats 8000000 in
theorem add_c {w0 w : World} {b k : Nat} {T : Bs} {P : List Bs} (h : Sht w0 b T w) (hp : Parts w k P) (hl : P.length ≤ 1000) (hx : ∀ x ∈ P, x.length ≤ 900000) :
    Calls Tryd.prog 13 #[.pointer (some ⟨b, 0, none⟩), .slice (some ⟨k, 0, none⟩) P.length P.length] w fun e w' => (∃ z, e = .returned z) ∧ Sht w0 b (T ++ P.flatten) w' ∧ Others b w w' := by
  have hne := hp.ne h
  have HX := Lib.hid hx
  have HS0 := Lib.hid h
  have HP0 := Lib.hid hp
  have HO0 := Lib.hid (Lib.OthersKept.refl 5 (some b) w)
  clear hx h hp
  go_enter Tryd.func13, Tryd.ntmps13
  go_wp2_with fail
  go_loopw [5, 8] (fun _ i wr => ∃ j : Nat, j ≤ P.length ∧ i = .int .i64 j ∧ Hid (Sht w0 b (T ++ (P.take j).flatten) wr) ∧ Hid (Parts wr k P) ∧ Hid (Others b w wr)) (fun _ i _ => P.length - (intOf i).toNat)
  case atStart => exact ⟨0, Nat.zero_le _, rfl, by simpa using HS0, HP0, HO0⟩
  case round =>
    obtain ⟨j, hj, rfl, HS, HP, HO⟩ := hrel
    by_cases hlt : j < P.length
    · have hxj := List.getElem?_eq_getElem hlt
      have hlen := HX.out _ (List.getElem_mem hlt)
      have hft := flat_take hxj
      have hc := HP.out.at hxj
      generalize P[j] = x at *
      have hz := mk_size x
      obtain ⟨⟨p, l, g, hsp, hat, his⟩, hbel⟩ := HS.out
      have c2 := hat.cell2
      have f2 := hat.frozen 2
      have hn := shLen_c hat
      have hi0 : (0 : Int) ≤ (j : Int) := by omega
      have hi1 : (j : Int) < (P.length : Int) := by omega
      have hll : l.length ≤ 16384 := by rcases his with ⟨_, rfl, h⟩ | ⟨_, _, h⟩ <;> omega
      have hset : ∀ v : Bool, ShAt w0.heap.size b p l v (wr.setCell ⟨b, 2, none⟩ (.bool v)) := fun v => hat.marked v
      have hbelS : ∀ v : Bool, Below w0.heap.size w0 (wr.setCell ⟨b, 2, none⟩ (.bool v)) := fun v => hbel.setCell (p := ⟨b, 2, none⟩) hat.1 _
      have hoS : ∀ v : Bool, Others b w (wr.setCell ⟨b, 2, none⟩ (.bool v)) := fun v => HO.out.setCell ⟨b, 2, none⟩ rfl _
      have hpS : ∀ v : Bool, Parts (wr.setCell ⟨b, 2, none⟩ (.bool v)) k P := fun v => (set_other hne).trans HP.out
      have e2 : T ++ (P.take (j + 1)).flatten = T ++ (P.take j).flatten ++ x := by rw [hft, List.append_assoc]
      have HE2 := Lib.hid e2
      rcases his with ⟨rfl, rfl, hZ⟩ | ⟨rfl, hZ, hl2⟩
      · generalize T ++ (P.take j).flatten = l at *
        by_cases hbig : 16384 < l.length + x.length
        · have hbi : decide ((16384 : Int) < (l.length : Int) + (x.length : Int)) = true := decide_eq_true (by omega)
          have HF := Lib.hid (show Sht w0 b (T ++ (P.take (j + 1)).flatten) (wr.setCell ⟨b, 2, none⟩ (.bool true)) from ⟨⟨p, l, true, hsp, hset true, .inr ⟨rfl, by rw [e2, List.length_append]; exact hbig, hll⟩⟩, hbelS true⟩)
          have HPS := Lib.hid (hpS true)
          have HOS := Lib.hid (hoS true)
          have d2 := (hset true).cell2
          clear hset hbelS hoS hpS hxj hft hat hbel e2 hsp
          go_wp2_with (refine hn.mono ?_; rintro e w1 ⟨rfl, rfl⟩)
          go_roundw
          case rel => exact ⟨j + 1, by omega, by go_num, HF, HPS, HOS⟩
          case measure => simp [intOf] <;> omega
        · have hbi : decide ((16384 : Int) < (l.length : Int) + (x.length : Int)) = false := decide_eq_false (by omega)
          have hw := shWrite_c (s := x) (hset false) hsp (by omega) (hbelS false).size
          have HBS := Lib.hid (hbelS false)
          have HPS := Lib.hid (hpS false)
          have HOS := Lib.hid (hoS false)
          have d2 := (hset false).cell2
          clear hset hbelS hoS hpS hxj hft hat hbel e2 hsp
          go_wp2_with (first | (go_at_call 27; refine hn.mono ?_; rintro e w1 ⟨rfl, rfl⟩) | (go_at_call 28; refine hw.mono ?_; rintro e w1 ⟨⟨z, rfl⟩, hb1, hbe1, hk1⟩))
          have HF := Lib.hid (show Sht w0 b (T ++ (P.take (j + 1)).flatten) w1 from ⟨⟨_, _, false, .inr rfl, hb1, .inl ⟨rfl, by rw [HE2.out], by rw [HE2.out, List.length_append]; omega⟩⟩, HBS.out.trans hbe1⟩)
          have HP2 := Lib.hid (HPS.out.keep hne hk1)
          have HO2 := Lib.hid (HOS.out.trans hk1)
          clear hb1 hbe1 hk1
          go_roundw
          case rel => exact ⟨j + 1, by omega, by go_num, HF, HP2, HO2⟩
          case measure => simp [intOf] <;> omega
      · have HF := Lib.hid (show Sht w0 b (T ++ (P.take (j + 1)).flatten) (wr.setCell ⟨b, 2, none⟩ (.bool true)) from ⟨⟨p, l, true, hsp, hset true, .inr ⟨rfl, by rw [e2, List.length_append]; omega, hll⟩⟩, hbelS true⟩)
        have HPS := Lib.hid (hpS true)
        have HOS := Lib.hid (hoS true)
        have d2 := (hset true).cell2
        clear hset hbelS hoS hpS hxj hft hat hbel e2 hsp
        go_wp2_with (refine hn.mono ?_; rintro e w1 ⟨rfl, rfl⟩)
        go_roundw
        case rel => exact ⟨j + 1, by omega, by go_num, HF, HPS, HOS⟩
        case measure => simp [intOf] <;> omega
    · obtain rfl : j = P.length := by omega
      rw [List.take_length] at HS
      go_wp2_with fail
      go_end0
      exact ⟨⟨_, rfl⟩, HS.out, HO.out⟩

/-- parts that were laid in a row of their own just ahead -/
theorem addA_c {w0 w : World} {b : Nat} {T : Bs} (P : List Bs) (h : Sht w0 b T w) (hl : P.length ≤ 1000) (hx : ∀ x ∈ P, x.length ≤ 900000) :
    Calls Tryd.prog 13 #[.pointer (some ⟨b, 0, none⟩), .slice (some ⟨w.heap.size, 0, none⟩) P.length P.length] (w.alloc (.cells (strV P).toArray 9)) fun e w' => (∃ z, e = .returned z) ∧ Sht w0 b (T ++ P.flatten) w' ∧ Others b w w' := by
  have hb := below_alloc w (.cells (strV P).toArray 9)
  refine (add_c (h.keep hb) (k := w.heap.size) (P := P) (heap_alloc_new w _) hl hx).mono ?_
  rintro e w' ⟨h1, h2, h3⟩
  exact ⟨h1, h2, ((Lib.OthersKept.refl _ _ w).alloc _).trans h3⟩
theorem add1_c {w0 w : World} {b : Nat} {T : Bs} (x : Bs) (h : Sht w0 b T w) (hx : x.length ≤ 900000) :
    Calls Tryd.prog 13 #[.pointer (some ⟨b, 0, none⟩), .slice (some ⟨w.heap.size, 0, none⟩) 1 1] (w.alloc (.cells #[.string (mk x)] 9)) fun e w' => (∃ z, e = .returned z) ∧ Sht w0 b (T ++ x) w' ∧ Others b w w' := by
  have := addA_c [x] h (by simp) (fun y hy => by simp at hy; subst hy; exact hx)
  rwa [show [x].flatten = x by simp] at this
theorem add2_c {w0 w : World} {b : Nat} {T : Bs} (x y : Bs) (h : Sht w0 b T w) (hx : x.length ≤ 900000) (hy : y.length ≤ 900000) :
    Calls Tryd.prog 13 #[.pointer (some ⟨b, 0, none⟩), .slice (some ⟨w.heap.size, 0, none⟩) 2 2] (w.alloc (.cells #[.string (mk x), .string (mk y)] 9)) fun e w' => (∃ z, e = .returned z) ∧ Sht w0 b (T ++ (x ++ y)) w' ∧ Others b w w' := by
  have := addA_c [x, y] h (by simp) (fun z hz => by simp at hz; rcases hz with rfl | rfl <;> assumption)
  rwa [show [x, y].flatten = x ++ y by simp] at this
theorem add3_c {w0 w : World} {b : Nat} {T : Bs} (x y z : Bs) (h : Sht w0 b T w) (hx : x.length ≤ 900000) (hy : y.length ≤ 900000) (hz : z.length ≤ 900000) :
    Calls Tryd.prog 13 #[.pointer (some ⟨b, 0, none⟩), .slice (some ⟨w.heap.size, 0, none⟩) 3 3] (w.alloc (.cells #[.string (mk x), .string (mk y), .string (mk z)] 9)) fun e w' => (∃ z, e = .returned z) ∧ Sht w0 b (T ++ (x ++ y ++ z)) w' ∧ Others b w w' := by
  have := addA_c [x, y, z] h (by simp) (fun u hu => by simp at hu; rcases hu with rfl | rfl | rfl <;> assumption)
  rwa [show [x, y, z].flatten = x ++ y ++ z by simp] at this
theorem add5_c {w0 w : World} {b : Nat} {T : Bs} (x y z u v : Bs) (h : Sht w0 b T w) (hx : x.length ≤ 900000) (hy : y.length ≤ 900000) (hz : z.length ≤ 900000) (hu : u.length ≤ 900000) (hv : v.length ≤ 900000) :
    Calls Tryd.prog 13 #[.pointer (some ⟨b, 0, none⟩), .slice (some ⟨w.heap.size, 0, none⟩) 5 5] (w.alloc (.cells #[.string (mk x), .string (mk y), .string (mk z), .string (mk u), .string (mk v)] 9)) fun e w' => (∃ z, e = .returned z) ∧ Sht w0 b (T ++ (x ++ y ++ z ++ u ++ v)) w' ∧ Others b w w' := by
  have := addA_c [x, y, z, u, v] h (by simp) (fun q hq => by simp at hq; rcases hq with rfl | rfl | rfl | rfl | rfl <;> assumption)
  rwa [show [x, y, z, u, v].flatten = x ++ y ++ z ++ u ++ v by simp] at this

set_option maxRecDepth 100000 in
set_option maxHeartbeats 8000000 in
theorem addNames_c {w0 w : World} {b : Nat} {T : Bs} {v : Value} {K : List Bs} (h : Sht w0 b T w) (hk : Strs w0 v K) (hl : K.length ≤ 1000) (hx : ∀ x ∈ K, x.length ≤ 200) :
    Calls Tryd.prog 14 #[.pointer (some ⟨b, 0, none⟩), v] w fun e w' => (∃ z, e = .returned z) ∧ Sht w0 b (T ++ rowT K) w' ∧ Others b w w' := by
  obtain ⟨a, c, rfl, hc, hrow⟩ := hk
  have HROW := Lib.hid hrow
  have HX := Lib.hid hx
  have HS0 := Lib.hid h
  have HO0 := Lib.hid (Lib.OthersKept.refl 5 (some b) w)
  clear hx h hrow
  go_enter Tryd.func14, Tryd.ntmps14
  go_wp2_with fail
  go_loopw [5, 8] (fun _ i wr => ∃ j : Nat, j ≤ K.length ∧ i = .int .i64 j ∧ Hid (Sht w0 b (T ++ rowT (K.take j)) wr) ∧ Hid (Others b w wr)) (fun _ i _ => K.length - (intOf i).toNat)
  case atStart => exact ⟨0, Nat.zero_le _, rfl, by simpa [rowT] using HS0, HO0⟩
  case round =>
    obtain ⟨j, hj, rfl, HS, HO⟩ := hrel
    by_cases hlt : j < K.length
    · have hxj := List.getElem?_eq_getElem hlt
      have hlen := HX.out _ (List.getElem_mem hlt)
      have hrt := rowT_take hxj
      rcases HROW.out with h0 | ⟨g, off, rfl, hg, hcell⟩
      · rw [h0] at hlt; simp at hlt
      have hc0 : wr.cell? ⟨g, off + j, none⟩ = some (.string (mk K[j])) := (cell_of_block (HS.out.bel.block g hg)).trans (hcell j _ hxj)
      generalize K[j] = x at *
      have hesc := escape_c x (by omega) wr
      have hel := esc_len x
      have HRT := Lib.hid hrt
      have hi0 : (0 : Int) ≤ (j : Int) := by omega
      have hi1 : (j : Int) < (K.length : Int) := by omega
      clear hcell hxj hrt
      go_wp2_with fail
      refine hesc.mono ?_
      rintro e w1 ⟨rfl, hb1⟩
      have hadd := add2_c [32] (esc x) (HS.out.keep hb1) (by decide) (by omega)
      have HO1 := Lib.hid (show Others b w w1 from fun k o hk hb ho => (hb1.block k (lt_some (HO.out k o hk hb ho))).trans (HO.out k o hk hb ho))
      clear hesc hb1
      go_wp2_with fail
      refine hadd.mono ?_
      rintro e w2 ⟨⟨z, rfl⟩, h2, ho2⟩
      have H2 := Lib.hid (show Sht w0 b (T ++ rowT (K.take (j + 1))) w2 by rw [HRT.out, ← List.append_assoc]; exact h2)
      have HO2 := Lib.hid (HO1.out.trans ho2)
      clear hadd h2 ho2
      go_wp2_with fail
      go_roundw
      case rel => exact ⟨j + 1, by omega, by go_num, H2, HO2⟩
      case measure => simp [intOf] <;> omega
    · obtain rfl : j = K.length := by omega
      rw [List.take_length] at HS
      go_wp2_with fail
      go_end0
      exact ⟨⟨_, rfl⟩, HS.out, HO.out⟩
end Go.Proofs.YtlhhpggjdbbcmaaDoor.Pr
