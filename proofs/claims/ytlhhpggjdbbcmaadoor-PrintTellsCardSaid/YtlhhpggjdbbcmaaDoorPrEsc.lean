/-
  TEXTS THAT ARE ESCAPED (the program's and the document's); a builder by own contracts.
-/
import Derived.Test.YtlhhpggjdbbcmaaDoorPrMath
import Derived.Test.YtlhhpggjdbbcmaaDoorPaRef
import Derived.Test.YtlhhpggjdbbcmaaDoorPrBase
import Derived.Lib.FrozenHead2
import Derived.Lib.OthersKept
namespace Go.Proofs.YtlhhpggjdbbcmaaDoor.Pr
open Go.RowKit Go.Proofs.YtlhhpggjdbbcmaaDoor Go.Proofs.YtlhhpggjdbbcmaaDoor.Df

theorem get_mk (s : Bs) {j : Nat} (h : j < (mk s).size) : s[j]? = some (mk s)[j] := byte_at (mk s) h

/-- is a byte one of these? -/
def ofB (o : Bs) (c : UInt8) : Bool := decide (0 ≤ Lib.indexByte o c)
theorem of_esc : ∀ n : Nat, n < 256 → ofB [36, 32, 58, 124] (UInt8.ofNat n) = escB (UInt8.ofNat n) := by decide +kernel
theorem ofB_esc (c : UInt8) : ofB [36, 32, 58, 124] c = escB c := by have := of_esc c.toNat c.toNat_lt; simpa using this

set_option maxHeartbeats 1000000 in
theorem isOf_c (o : Bs) (c : UInt8) (w : World) : Calls Tryd.prog 35 #[.string (mk o), .int .u8 (c.toNat : Int)] w fun e w' => e = .returned (.bool (ofB o c)) ∧ w = w' := by
  have hi := shstringsIndexByte (mk o) (c.toNat : Int) w
  rw [mk_bytes, Int.toNat_natCast] at hi
  rw [show c.toNat.toUInt8 = c from by simp] at hi
  have hd : ofB o c = decide (0 ≤ Lib.indexByte o c) := rfl
  rw [hd]
  generalize Lib.indexByte o c = p at *
  clear hd
  go_enter Tryd.func35, Tryd.ntmps35
  go_wp2_with fail
  refine hi.mono ?_
  rintro e w1 ⟨rfl, rfl⟩
  go_wp2
  go_ret
  exact ⟨rfl, rfl⟩

/-- a builder at b holds these bytes; its row lies at B or above -/
def Bld (B b : Nat) (l : Bs) (w : World) : Prop := Lib.IsBuilderF 42 5 B b (Lib.byteCells l) w
/-- blocks that are no builder's stand -/
def Others (b : Nat) (w w' : World) : Prop := Lib.OthersKept 5 (some b) w w'

theorem infoU8 : (Tryd.prog.info? 5).map (fun i => (i.zero, i.size, i.bytes)) = some (some (.int .u8 0), 1, 1) := by kernel_rfl
theorem infoBld : (Tryd.prog.info? 42).map (·.size) = some 2 := by kernel_rfl
theorem liesBld : liesAt Tryd.prog Tryd.prog.depth 42 (2 / Tryd.prog.cellsOf 42) 0 42 1 = true := by kernel_rfl

theorem byteCells_app (a b : Bs) : Lib.byteCells (a ++ b) = Lib.byteCells a ++ Lib.byteCells b := by simp [Lib.byteCells]
theorem byteCells_length (a : Bs) : (Lib.byteCells a).length = a.length := by simp [Lib.byteCells]
theorem strCells_mk (a : Bs) : Lib.strCells (mk a) = Lib.byteCells a := by simp [Lib.strCells, Lib.byteCells, mk_bytes]

set_option maxHeartbeats 2000000 in
set_option maxRecDepth 100000 in
theorem copy_c {B b : Nat} {bs : List Value} {w : World} (h : Lib.IsBuilderF 42 5 B b bs w) :
    Calls Tryd.prog 38 #[.pointer (some ⟨b, 0, none⟩)] w fun e w' => (∃ z, e = .returned z) ∧ Lib.BuilderAtF 42 5 B b (.pointer (some ⟨b, 0, none⟩)) bs w' ∧ Below B w w' ∧ Others b w w' := by
  obtain ⟨j, hj, hjs⟩ := Option.map_eq_some_iff.1 infoBld
  have hne := fun w => Lib.run_neq_ptr_same (w := w) (P := Tryd.prog) (tp := 39) ⟨b, 0, none⟩ Tryd.underlying39 hj
  rcases h with h | h
  · have hto := Lib.run_to_unsafe (w := w) ⟨b, 0, none⟩ Tryd.underlying39 Tryd.underlying83 hj (by rw [hjs]; decide) h.shape (Nat.zero_lt_succ 1)
    have hfrom := Lib.run_from_unsafe (w := w) ⟨b, 0, none⟩ Tryd.underlying83 Tryd.underlying39 hj h.shape liesBld
    have hext : ∀ (x : Value) (W : World), (callFunc 47 #[x]).run Tryd.prog W = .ok (.value x) W := fun x W => by
      rw [run_callFunc_extern Tryd.func47 (by kernel_rfl) (by kernel_rfl) (by kernel_rfl) (e := Extern.AbiNoEscape.same) (by kernel_rfl), Lib.run_noEscape]
      rfl
    have c0 := h.cell0
    have f0 := h.frozen0
    have HU := Lib.hid (h.used (.pointer (some ⟨b, 0, none⟩)))
    have HB := Lib.hid h.1
    clear h hj hjs
    go_enter Tryd.func38, Tryd.ntmps38
    go_wp2
    go_end0
    exact ⟨⟨_, rfl⟩, HU.out, (Below.refl B w).setCell (p := ⟨b, 0, none⟩) HB.out _, (Lib.OthersKept.refl _ _ w).setCell ⟨b, 0, none⟩ rfl _⟩
  · have c0 := h.cell0
    have HH := Lib.hid h
    clear h hj hjs
    go_enter Tryd.func38, Tryd.ntmps38
    go_wp2
    go_end0
    exact ⟨⟨_, rfl⟩, HH.out, Below.refl B w, Lib.OthersKept.refl _ _ w⟩

/-- the buffer's cell, and what an append leaves -/
theorem bld_append {B b n : Nat} {bs add : List Value} {v v' : Value} {w1 w2 w3 : World} (hB : B ≤ b) (hBw : B ≤ w1.heap.size) (hbk : w1.heap[b]? = some (.cells #[.pointer (some ⟨b, 0, none⟩), v] 42 (0, 0))) (hne : v.ownBlock ≠ some b)
    (hw2 : w2.heap[b]? = w1.heap[b]?) (hs : w1.heap.size ≤ w2.heap.size) (hb12 : Below B w1 w2) (hk12 : Others b w1 w2) (hrow : ∀ g, v.ownBlock = some g → B ≤ g ∧ ∃ c fz, w2.heap[g]? = some (.cells c 5 fz))
    (hown' : w3.ownsRowF B 5 1 v' n (bs ++ add)) (hn : n = (bs ++ add).length) (hg : w2.grownBy w3 v.ownBlock) :
    w3.cell? ⟨b, 0, none⟩ = some (.pointer (some ⟨b, 0, none⟩)) ∧ w3.cell? ⟨b, 1, none⟩ = some v ∧ w3.frozen? ⟨b, 1, none⟩ = false ∧ (∃ a m c, v' = .slice a m c) ∧
      Lib.BuilderAtF 42 5 B b (.pointer (some ⟨b, 0, none⟩)) (bs ++ add) (w3.setCell ⟨b, 1, none⟩ v') ∧ Below B w1 (w3.setCell ⟨b, 1, none⟩ v') ∧ Others b w1 (w3.setCell ⟨b, 1, none⟩ v') := by
  have hlt := lt_some hbk
  have hb3 : w3.heap[b]? = some (.cells #[.pointer (some ⟨b, 0, none⟩), v] 42 (0, 0)) := by
    rw [hg.block b (by omega) (fun e => hne e.symm), hw2]
    exact hbk
  refine ⟨by simp [World.cell?, hb3], by simp [World.cell?, hb3], by simp [World.frozen?, hb3], ?_, ?_, ?_, ?_⟩
  · rcases hown'.2 with ⟨hv, _⟩ | ⟨g, cap, cur, fz, hv, _⟩
    · exact ⟨_, _, _, hv⟩
    · exact ⟨_, _, _, hv⟩
  · subst hn
    exact Lib.BuilderAtF.put hB hb3 hown' (by decide)
  · exact (hb12.grown hg (by omega) fun k hk => (hrow k hk).1).setCell (p := ⟨b, 1, none⟩) hB _
  · exact (hk12.grown hg fun g hgg => (hrow g hgg).2).setCell ⟨b, 1, none⟩ rfl _

set_option maxHeartbeats 2000000 in
set_option maxRecDepth 100000 in
theorem writeS_c {B b : Nat} {l s : Bs} {w : World} (h : Bld B b l w) (hl : l.length + s.length ≤ 1000000) (hBw : B ≤ w.heap.size) :
    Calls Tryd.prog 28 #[.pointer (some ⟨b, 0, none⟩), .string (mk s)] w fun e w' => (∃ z, e = .returned z) ∧ Bld B b (l ++ s) w' ∧ Below B w w' ∧ Others b w w' := by
  obtain ⟨i0, hi, hz0, hz1, hz2⟩ := info_parts infoU8
  have hcp := copy_c h
  have hz := mk_size s
  have hbl := byteCells_length l
  unfold Bld
  rw [byteCells_app]
  have hsc := strCells_mk s
  generalize Lib.byteCells l = bs at *
  rw [← hsc]
  clear h hsc
  go_enter Tryd.func28, Tryd.ntmps28
  go_wp2_with fail
  refine hcp.mono ?_
  rintro e w1 ⟨⟨z, rfl⟩, h1, hb1, hk1⟩
  obtain ⟨hB, v, hbk, hown, hne⟩ := h1
  have c0 : w1.cell? ⟨b, 0, none⟩ = some (.pointer (some ⟨b, 0, none⟩)) := by simp [World.cell?, hbk]
  have c1 : w1.cell? ⟨b, 1, none⟩ = some v := by simp [World.cell?, hbk]
  have hsz := hb1.size
  have HB1 := Lib.hid hb1
  have HK1 := Lib.hid hk1
  have HBK := Lib.hid hbk
  clear hb1 hk1 hbk hcp
  go_wp2_with (at_builtin; refine Lib.wpList_append_own_stringF _ rfl (.tmp 12) (.tmp 13) 40 9 rfl B 5 i0 Tryd.underlying40 Tryd.underlying9 hi hz0 hz1 hz2 v bs.length bs rfl hown (mk s) rfl (by unfold maxLen; omega) (by omega) (by omega) ?_)
  intro v' w2 hown' hgrow _
  have hfin := bld_append (w3 := w2) hB (by omega) HBK.out hne rfl (Nat.le_refl _) (Below.refl B w1) (Lib.OthersKept.refl _ _ w1) (fun g hg => ⟨(hown.lt g hg).1, Lib.ownsRowF_kind hown g hg⟩) hown' (by rw [List.length_append, Lib.strCells_length, hbl, hz]) hgrow
  obtain ⟨d0, d1, f1, ⟨a', m', c', rfl⟩, q1, q2, q3⟩ := hfin
  have Q1 := Lib.hid q1
  have Q2 := Lib.hid (HB1.out.trans q2)
  have Q3 := Lib.hid (HK1.out.trans q3)
  clear q1 q2 q3 hown' hgrow hown hne c0 c1
  go_wp2_with fail
  go_ret2
  exact ⟨⟨_, rfl⟩, .inr Q1.out, Q2.out, Q3.out⟩

set_option maxHeartbeats 2000000 in
set_option maxRecDepth 100000 in
theorem writeB_c {B b : Nat} {l : Bs} {x : UInt8} {w : World} (h : Bld B b l w) (hl : l.length ≤ 1000000) (hBw : B ≤ w.heap.size) :
    Calls Tryd.prog 36 #[.pointer (some ⟨b, 0, none⟩), .int .u8 (x.toNat : Int)] w fun e w' => (∃ z, e = .returned z) ∧ Bld B b (l ++ [x]) w' ∧ Below B w w' ∧ Others b w w' := by
  obtain ⟨i0, hi, hz0, hz1, hz2⟩ := info_parts infoU8
  have hcp := copy_c h
  have hbl := byteCells_length l
  unfold Bld
  rw [byteCells_app]
  have hsc : Lib.byteCells [x] = [.int .u8 (x.toNat : Int)] := rfl
  generalize Lib.byteCells l = bs at *
  rw [hsc]
  clear h hsc
  go_enter Tryd.func36, Tryd.ntmps36
  go_wp2_with fail
  refine hcp.mono ?_
  rintro e w1 ⟨⟨z, rfl⟩, h1, hb1, hk1⟩
  obtain ⟨hB, v, hbk, hown, hne⟩ := h1
  have c0 : w1.cell? ⟨b, 0, none⟩ = some (.pointer (some ⟨b, 0, none⟩)) := by simp [World.cell?, hbk]
  have c1 : w1.cell? ⟨b, 1, none⟩ = some v := by simp [World.cell?, hbk]
  have hsz := hb1.size
  have hblt := lt_some hbk
  have HB1 := Lib.hid hb1
  have HK1 := Lib.hid hk1
  have HBK := Lib.hid hbk
  clear hb1 hk1 hbk hcp
  go_wp2_with (at_builtin; refine wpList_append_ownF _ rfl (.tmp 11) (.tmp 13) 40 rfl B 5 i0 (.int .u8 0) 1 1 Tryd.underlying40 hi hz0 hz1 hz2 rfl (by decide) v bs.length bs rfl (hown.alloc _) ⟨w1.heap.size, 0, none⟩ 1 1 [.int .u8 (x.toNat : Int)] rfl rfl (cell_one_new _ _ _) (by simp [Value.oneCell']) (by unfold maxLen; omega) (by omega) (by simp; omega) ?_)
  intro v' w2 hown' hgrow _
  have hrowA : ∀ g, v.ownBlock = some g → B ≤ g ∧ ∃ c fz, (w1.alloc (.cells #[.int .u8 (x.toNat : Int)] 5)).heap[g]? = some (.cells c 5 fz) := fun g hg => ⟨((hown.alloc (.cells #[.int .u8 (x.toNat : Int)] 5)).lt g hg).1, Lib.ownsRowF_kind (hown.alloc _) g hg⟩
  have hfin := bld_append (w3 := w2) hB (by omega) HBK.out hne (Below.heap_alloc _ _ _ hblt) (by simp) ((Below.refl B w1).alloc (by omega) _) ((Lib.OthersKept.refl _ _ w1).alloc _) hrowA hown' (by rw [List.length_append, hbl]; rfl) hgrow
  obtain ⟨d0, d1, f1, ⟨a', m', c', rfl⟩, q1, q2, q3⟩ := hfin
  have Q1 := Lib.hid q1
  have Q2 := Lib.hid (HB1.out.trans q2)
  have Q3 := Lib.hid (HK1.out.trans q3)
  clear q1 q2 q3 hown' hgrow hown hne c0 c1 hrowA
  go_wp2_with fail
  go_ret
  exact ⟨⟨_, rfl⟩, .inr Q1.out, Q2.out, Q3.out⟩

theorem len_c {B b : Nat} {l : Bs} {w : World} (h : Bld B b l w) : Calls Tryd.prog 27 #[.pointer (some ⟨b, 0, none⟩)] w fun e w' => e = .returned (.int .i64 l.length) ∧ w = w' := by
  refine (shBuilderLenf B b (Lib.byteCells l) w h).mono ?_
  rintro e w1 ⟨rfl, rfl⟩
  rw [byteCells_length]
  exact ⟨rfl, rfl⟩

theorem string_c {B b : Nat} {l : Bs} {w : World} (h : Bld B b l w) (hBw : B ≤ w.heap.size) : Calls Tryd.prog 15 #[.pointer (some ⟨b, 0, none⟩)] w fun e w' => e = .returned (.string (mk l)) ∧ Below B w w' := by
  refine (shBuilderStringanyk B b l w h hBw).mono ?_
  rintro e w1 ⟨rfl, _, hb, _⟩
  exact ⟨rfl, hb⟩

theorem bld_new (w : World) : Bld w.heap.size w.heap.size [] (w.alloc (.cells #[.pointer none, .slice none 0 0] 42)) :=
  Lib.IsBuilderF.of (Lib.fresh_isBuilder _ _ w)

theorem esc_take {s : Bs} {j : Nat} {c : UInt8} (h : s[j]? = some c) : esc (s.take (j + 1)) = esc (s.take j) ++ (if escB c = true then [36, c] else [c]) := by
  rw [List.take_add_one, h]
  exact esc_snoc _ _

set_option maxRecDepth 100000 in
set_option maxHeartbeats 4000000 in
theorem escape_c (s : Bs) (hs : s.length ≤ 400000) (w : World) : Calls Tryd.prog 25 #[.string (mk s)] w fun e w' => e = .returned (.string (mk (esc s))) ∧ Below w.heap.size w w' := by
  have hz := mk_size s
  have HB0 := Lib.hid (bld_new w)
  go_enter Tryd.func25, Tryd.ntmps25
  go_wp2
  go_loopw [4, 7] (fun _ i W' => ∃ j : Nat, i = .int .i64 j ∧ j ≤ s.length ∧ Hid (Bld w.heap.size w.heap.size (esc (s.take j)) W') ∧ Hid (Below w.heap.size w W')) (fun _ i _ => s.length - (intOf i).toNat)
  case atStart => exact ⟨0, rfl, Nat.zero_le _, HB0, Lib.hid (below_alloc _ _)⟩
  case round =>
    clear HB0
    obtain ⟨j, rfl, hj, HBL, HB⟩ := hrel
    by_cases hlt : j < s.length
    · have hjs : j < (mk s).size := by rw [hz]; exact hlt
      have hb := get_mk s hjs
      obtain ⟨c, hc⟩ : ∃ c, (mk s)[j] = c := ⟨_, rfl⟩
      have hcN : ((mk s)[j].toNat : Int) = (c.toNat : Int) := by rw [hc]
      rw [hc] at hb
      have ho := fun W => isOf_c [36, 32, 58, 124] c W
      rw [ofB_esc] at ho
      have hnext := esc_take hb
      have hl := esc_len (s.take j)
      have hlj : (s.take j).length ≤ 400000 := by rw [List.length_take]; omega
      have hji : (j : Int) < (s.length : Int) := by omega
      cases he : escB c with
      | true =>
        rw [he] at ho hnext
        have HN := Lib.hid hnext
        have hw1 := writeB_c (x := 36) HBL.out (by omega) HB.out.size
        clear hc hb hnext he
        go_wp2_with fail
        refine (ho _).mono ?_
        rintro e w1 ⟨rfl, rfl⟩
        go_wp2_with fail
        refine hw1.mono ?_
        rintro e w2 ⟨⟨z, rfl⟩, hb1, hbe1, _⟩
        have hw2 := writeB_c (x := c) hb1 (by rw [List.length_append]; simp; omega) (Nat.le_trans HB.out.size hbe1.size)
        have HB2 := Lib.hid (HB.out.trans hbe1)
        clear hb1 hbe1 hw1
        go_wp2_with fail
        refine hw2.mono ?_
        rintro e w3 ⟨⟨z, rfl⟩, hb3, hbe3, _⟩
        have HB3 := Lib.hid (HB2.out.trans hbe3)
        have HBL3 := Lib.hid (show Bld w.heap.size w.heap.size (esc (s.take (j + 1))) w3 by
          rw [HN.out, if_pos trivial]
          rw [List.append_assoc] at hb3
          exact hb3)
        clear hb3 hbe3
        go_wp2_with fail
        go_roundw
        case rel => exact ⟨j + 1, by go_num, by omega, HBL3, HB3⟩
        case measure => simp [intOf]; omega
      | false =>
        rw [he] at ho hnext
        have HN := Lib.hid hnext
        have hw2 := writeB_c (x := c) HBL.out (by omega) HB.out.size
        clear hc hb hnext he
        go_wp2_with fail
        refine (ho _).mono ?_
        rintro e w1 ⟨rfl, rfl⟩
        go_wp2_with fail
        refine hw2.mono ?_
        rintro e w3 ⟨⟨z, rfl⟩, hb3, hbe3, _⟩
        have HB3 := Lib.hid (HB.out.trans hbe3)
        have HBL3 := Lib.hid (show Bld w.heap.size w.heap.size (esc (s.take (j + 1))) w3 by
          rw [HN.out]
          exact hb3)
        clear hb3 hbe3
        go_wp2_with fail
        go_roundw
        case rel => exact ⟨j + 1, by go_num, by omega, HBL3, HB3⟩
        case measure => simp [intOf]; omega
    · have hji : ¬ (j : Int) < (s.length : Int) := by omega
      have hall : s.take j = s := List.take_of_length_le (by omega)
      have hst := string_c HBL.out HB.out.size
      rw [hall] at hst
      clear hall
      go_wp2_with fail
      refine hst.mono ?_
      rintro e w1 ⟨rfl, hb1⟩
      go_wp2_with fail
      go_ret
      exact ⟨rfl, HB.out.trans hb1⟩

theorem escB_eqs (c : UInt8) : ∃ b1 b2 b3 b4 : Bool, ((c.toNat : Int) == 36) = b1 ∧ ((c.toNat : Int) == 32) = b2 ∧ ((c.toNat : Int) == 58) = b3 ∧ ((c.toNat : Int) == 124) = b4 ∧ escB c = (b1 || b2 || b3 || b4) := by
  refine ⟨_, _, _, _, rfl, rfl, rfl, rfl, ?_⟩
  have key : ∀ n : Nat, n < 256 → escB (UInt8.ofNat n) = (((n : Int) == 36) || ((n : Int) == 32) || ((n : Int) == 58) || ((n : Int) == 124)) := by decide +kernel
  have := key c.toNat c.toNat_lt
  simpa using this

theorem one_of (s : Bs) {j : Nat} {c : UInt8} (h : s[j]? = some c) : (mk s).extract j (j + 1) = mk [c] := by
  rw [mk_extract]
  congr 1
  obtain ⟨hj, e⟩ := List.getElem?_eq_some_iff.1 h
  rw [List.drop_eq_getElem_cons hj, e, Nat.add_sub_cancel_left]
  rfl

set_option maxRecDepth 100000 in
set_option maxHeartbeats 4000000 in
theorem refEscape_c (s : Bs) (hs : s.length ≤ 400000) (w : World) : Calls Tryd.prog 23 #[.string (mk s)] w fun e w' => e = .returned (.string (mk (esc s))) ∧ w = w' := by
  have hz := mk_size s
  go_enter Tryd.func23, Tryd.ntmps23
  go_wp2
  go_loopw [3, 4] (fun x i W' => ∃ j : Nat, i = .int .i64 j ∧ j ≤ s.length ∧ x = .string (mk (esc (s.take j))) ∧ w = W') (fun _ i _ => s.length - (intOf i).toNat)
  case atStart => exact ⟨0, rfl, Nat.zero_le _, rfl, rfl⟩
  case round =>
    obtain ⟨j, rfl, hj, rfl, rfl⟩ := hrel
    by_cases hlt : j < s.length
    · have hjs : j < (mk s).size := by rw [hz]; exact hlt
      have hb := get_mk s hjs
      obtain ⟨c, hc⟩ : ∃ c, (mk s)[j] = c := ⟨_, rfl⟩
      have hcN : ((mk s)[j].toNat : Int) = (c.toNat : Int) := by rw [hc]
      rw [hc] at hb
      have hex := one_of s hb
      have hnext := esc_take hb
      have hl := esc_len (s.take j)
      have hlj : (s.take j).length ≤ 400000 := by rw [List.length_take]; omega
      have hji : (j : Int) < (s.length : Int) := by omega
      obtain ⟨E, hE⟩ : ∃ E, esc (s.take j) = E := ⟨_, rfl⟩
      rw [hE] at hnext hl ⊢
      have hzE := mk_size E
      have hEl : E.length ≤ 800000 := by omega
      have hj1 : (j : Int) ≤ (j : Int) + 1 := by omega
      have hj2 : (j : Int) + 1 ≤ ((mk s).size : Int) := by rw [hz]; omega
      have hj3 : (j : Int) + 1 ≤ (s.length : Int) := by omega
      have hc1 : (mk [c]).size = 1 := mk_size [c]
      obtain ⟨b1, b2, b3, b4, e1, e2, e3, e4, he⟩ := escB_eqs c
      rw [he] at hnext
      have hcat1 : mk E ++ ⟨#[36]⟩ = mk (E ++ [36]) := mk_append E [36]
      have hzE1 : (mk (E ++ [36])).size = E.length + 1 := by rw [mk_size, List.length_append]; rfl
      have hcat2 : mk (E ++ [36]) ++ mk [c] = mk (E ++ [36, c]) := by rw [mk_append, List.append_assoc]; rfl
      have hcat3 : mk E ++ mk [c] = mk (E ++ [c]) := mk_append E [c]
      have HN := Lib.hid hnext
      clear hc hb hnext he hE hl
      cases b1 <;> cases b2 <;> cases b3 <;> cases b4 <;>
      · go_wp2
        go_roundw
        case rel => exact ⟨j + 1, by go_num, by omega, by rw [HN.out]; rfl, trivial⟩
        case measure => simp [intOf]; omega
    · have hji : ¬ (j : Int) < (s.length : Int) := by omega
      have hall : s.take j = s := List.take_of_length_le (by omega)
      rw [hall]
      clear hall
      go_wp2_with fail
      go_ret
      exact ⟨rfl, rfl⟩

end Go.Proofs.YtlhhpggjdbbcmaaDoor.Pr
