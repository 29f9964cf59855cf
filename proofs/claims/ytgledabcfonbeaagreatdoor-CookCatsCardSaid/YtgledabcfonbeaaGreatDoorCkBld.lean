/-
  A BUILDER THAT A CLOSURE WRITES: this dump's writers (its copy check bears a stop that no walk comes to).
-/
import Derived.Test.YtgledabcfonbeaaGreatDoorCkReadA
import Derived.Lib.FrozenHead2
import Derived.Lib.OthersKept
namespace Go.Proofs.YtgledabcfonbeaaGreatDoor.Df
open Go.RowKit Go.Proofs.YtgledabcfonbeaaGreatDoor

/-- a builder at b holds these bytes; its row lies at B or above -/
def Bld (B b : Nat) (l : Bs) (w : World) : Prop := Lib.IsBuilderF 104 5 B b (Lib.byteCells l) w
/-- blocks that are no builder's stand -/
def Others (b : Nat) (w w' : World) : Prop := Lib.OthersKept 5 (some b) w w'

theorem infoU8 : (Tryz.prog.info? 5).map (fun i => (i.zero, i.size, i.bytes)) = some (some (.int .u8 0), 1, 1) := by kernel_rfl
theorem infoBld : (Tryz.prog.info? 104).map (·.size) = some 2 := by kernel_rfl
theorem liesBld : liesAt Tryz.prog Tryz.prog.depth 104 (2 / Tryz.prog.cellsOf 104) 0 104 1 = true := by kernel_rfl

theorem byteCells_app (a b : Bs) : Lib.byteCells (a ++ b) = Lib.byteCells a ++ Lib.byteCells b := by simp [Lib.byteCells]
theorem byteCells_length (a : Bs) : (Lib.byteCells a).length = a.length := by simp [Lib.byteCells]
theorem strCells_mk (a : Bs) : Lib.strCells (mk a) = Lib.byteCells a := by simp [Lib.strCells, Lib.byteCells, mk_bytes]

set_option maxHeartbeats 2000000 in
set_option maxRecDepth 100000 in
theorem copy_c {B b : Nat} {bs : List Value} {w : World} (h : Lib.IsBuilderF 104 5 B b bs w) :
    Calls Tryz.prog 72 #[.pointer (some ⟨b, 0, none⟩)] w fun e w' => (∃ z, e = .returned z) ∧ Lib.BuilderAtF 104 5 B b (.pointer (some ⟨b, 0, none⟩)) bs w' ∧ Below B w w' ∧ Others b w w' := by
  obtain ⟨j, hj, hjs⟩ := Option.map_eq_some_iff.1 infoBld
  have hne := fun w => Lib.run_neq_ptr_same (w := w) (P := Tryz.prog) (tp := 102) ⟨b, 0, none⟩ Tryz.underlying102 hj
  rcases h with h | h
  · have hto := Lib.run_to_unsafe (w := w) ⟨b, 0, none⟩ Tryz.underlying102 Tryz.underlying141 hj (by rw [hjs]; decide) h.shape (Nat.zero_lt_succ 1)
    have hfrom := Lib.run_from_unsafe (w := w) ⟨b, 0, none⟩ Tryz.underlying141 Tryz.underlying102 hj h.shape liesBld
    have hext : ∀ (x : Value) (W : World), (callFunc 88 #[x]).run Tryz.prog W = .ok (.value x) W := fun x W => by
      rw [run_callFunc_extern Tryz.func88 (by kernel_rfl) (by kernel_rfl) (by kernel_rfl) (e := Extern.AbiNoEscape.same) (by kernel_rfl), Lib.run_noEscape]
      rfl
    have c0 := h.cell0
    have f0 := h.frozen0
    have HU := Lib.hid (h.used (.pointer (some ⟨b, 0, none⟩)))
    have HB := Lib.hid h.1
    clear h hj hjs
    go_enter Tryz.func72, Tryz.ntmps72
    go_wp2
    go_end0
    exact ⟨⟨_, rfl⟩, HU.out, (Below.refl B w).setCell (p := ⟨b, 0, none⟩) HB.out _, (Lib.OthersKept.refl _ _ w).setCell ⟨b, 0, none⟩ rfl _⟩
  · have c0 := h.cell0
    have HH := Lib.hid h
    clear h hj hjs
    go_enter Tryz.func72, Tryz.ntmps72
    go_wp2
    go_end0
    exact ⟨⟨_, rfl⟩, HH.out, Below.refl B w, Lib.OthersKept.refl _ _ w⟩

/-- the buffer's cell, and what an append leaves -/
theorem bld_append {B b n : Nat} {bs add : List Value} {v v' : Value} {w1 w2 w3 : World} (hB : B ≤ b) (hBw : B ≤ w1.heap.size) (hbk : w1.heap[b]? = some (.cells #[.pointer (some ⟨b, 0, none⟩), v] 104 (0, 0))) (hne : v.ownBlock ≠ some b)
    (hw2 : w2.heap[b]? = w1.heap[b]?) (hs : w1.heap.size ≤ w2.heap.size) (hb12 : Below B w1 w2) (hk12 : Others b w1 w2) (hrow : ∀ g, v.ownBlock = some g → B ≤ g ∧ ∃ c fz, w2.heap[g]? = some (.cells c 5 fz))
    (hown' : w3.ownsRowF B 5 1 v' n (bs ++ add)) (hn : n = (bs ++ add).length) (hg : w2.grownBy w3 v.ownBlock) :
    w3.cell? ⟨b, 0, none⟩ = some (.pointer (some ⟨b, 0, none⟩)) ∧ w3.cell? ⟨b, 1, none⟩ = some v ∧ w3.frozen? ⟨b, 1, none⟩ = false ∧ (∃ a m c, v' = .slice a m c) ∧
      Lib.BuilderAtF 104 5 B b (.pointer (some ⟨b, 0, none⟩)) (bs ++ add) (w3.setCell ⟨b, 1, none⟩ v') ∧ Below B w1 (w3.setCell ⟨b, 1, none⟩ v') ∧ Others b w1 (w3.setCell ⟨b, 1, none⟩ v') := by
  have hlt := lt_some hbk
  have hb3 : w3.heap[b]? = some (.cells #[.pointer (some ⟨b, 0, none⟩), v] 104 (0, 0)) := by
    rw [hg.block b (by omega) (fun e => hne e.symm), hw2]
    exact hbk
  refine ⟨by simp [World.cell?, hb3], by simp [World.cell?, hb3], by simp [World.frozen?, hb3], ?_, ?_, ?_, ?_⟩
  · rcases hown'.2 with ⟨hv, _⟩ | ⟨g, cap, cur, fz, hv, _⟩
    · exact ⟨_, _, _, hv⟩
    · exact ⟨_, _, _, hv⟩
  · subst hn
    exact Lib.BuilderAtF.put hB hb3 hown' (by decide)
  · exact (hb12.grown hg (by omega) fun k hk => (hrow k hk).1).setCell (p := ⟨b, 1, none⟩) hB _
  · exact (hk12.grown hg fun g hgg => (hrow g hgg).2).setCell ⟨b, 1, none⟩ rfl _

set_option maxHeartbeats 2000000 in
set_option maxRecDepth 100000 in
theorem writeS_c {B b : Nat} {l s : Bs} {w : World} (h : Bld B b l w) (hl : l.length + s.length ≤ 1000000) (hBw : B ≤ w.heap.size) :
    Calls Tryz.prog 56 #[.pointer (some ⟨b, 0, none⟩), .string (mk s)] w fun e w' => (∃ z, e = .returned z) ∧ Bld B b (l ++ s) w' ∧ Below B w w' ∧ Others b w w' := by
  obtain ⟨i0, hi, hz0, hz1, hz2⟩ := info_parts infoU8
  have hcp := copy_c h
  have hz := mk_size s
  have hbl := byteCells_length l
  unfold Bld
  rw [byteCells_app]
  have hsc := strCells_mk s
  generalize Lib.byteCells l = bs at *
  rw [← hsc]
  clear h hsc
  go_enter Tryz.func56, Tryz.ntmps56
  go_wp2_with fail
  refine hcp.mono ?_
  rintro e w1 ⟨⟨z, rfl⟩, h1, hb1, hk1⟩
  obtain ⟨hB, v, hbk, hown, hne⟩ := h1
  have c0 : w1.cell? ⟨b, 0, none⟩ = some (.pointer (some ⟨b, 0, none⟩)) := by simp [World.cell?, hbk]
  have c1 : w1.cell? ⟨b, 1, none⟩ = some v := by simp [World.cell?, hbk]
  have hsz := hb1.size
  have HB1 := Lib.hid hb1
  have HK1 := Lib.hid hk1
  have HBK := Lib.hid hbk
  clear hb1 hk1 hbk hcp
  go_wp2_with (at_builtin; refine Lib.wpList_append_own_stringF _ rfl (.tmp 12) (.tmp 13) 24 9 rfl B 5 i0 Tryz.underlying24 Tryz.underlying9 hi hz0 hz1 hz2 v bs.length bs rfl hown (mk s) rfl (by unfold maxLen; omega) (by omega) (by omega) ?_)
  intro v' w2 hown' hgrow _
  have hfin := bld_append (w3 := w2) hB (by omega) HBK.out hne rfl (Nat.le_refl _) (Below.refl B w1) (Lib.OthersKept.refl _ _ w1) (fun g hg => ⟨(hown.lt g hg).1, Lib.ownsRowF_kind hown g hg⟩) hown' (by rw [List.length_append, Lib.strCells_length, hbl, hz]) hgrow
  obtain ⟨d0, d1, f1, ⟨a', m', c', rfl⟩, q1, q2, q3⟩ := hfin
  have Q1 := Lib.hid q1
  have Q2 := Lib.hid (HB1.out.trans q2)
  have Q3 := Lib.hid (HK1.out.trans q3)
  clear q1 q2 q3 hown' hgrow hown hne c0 c1
  go_wp2_with fail
  go_ret2
  exact ⟨⟨_, rfl⟩, .inr Q1.out, Q2.out, Q3.out⟩

set_option maxHeartbeats 2000000 in
set_option maxRecDepth 100000 in
theorem writeB_c {B b : Nat} {l : Bs} {x : UInt8} {w : World} (h : Bld B b l w) (hl : l.length ≤ 1000000) (hBw : B ≤ w.heap.size) :
    Calls Tryz.prog 57 #[.pointer (some ⟨b, 0, none⟩), .int .u8 (x.toNat : Int)] w fun e w' => (∃ z, e = .returned z) ∧ Bld B b (l ++ [x]) w' ∧ Below B w w' ∧ Others b w w' := by
  obtain ⟨i0, hi, hz0, hz1, hz2⟩ := info_parts infoU8
  have hcp := copy_c h
  have hbl := byteCells_length l
  unfold Bld
  rw [byteCells_app]
  have hsc : Lib.byteCells [x] = [.int .u8 (x.toNat : Int)] := rfl
  generalize Lib.byteCells l = bs at *
  rw [hsc]
  clear h hsc
  go_enter Tryz.func57, Tryz.ntmps57
  go_wp2_with fail
  refine hcp.mono ?_
  rintro e w1 ⟨⟨z, rfl⟩, h1, hb1, hk1⟩
  obtain ⟨hB, v, hbk, hown, hne⟩ := h1
  have c0 : w1.cell? ⟨b, 0, none⟩ = some (.pointer (some ⟨b, 0, none⟩)) := by simp [World.cell?, hbk]
  have c1 : w1.cell? ⟨b, 1, none⟩ = some v := by simp [World.cell?, hbk]
  have hsz := hb1.size
  have hblt := lt_some hbk
  have HB1 := Lib.hid hb1
  have HK1 := Lib.hid hk1
  have HBK := Lib.hid hbk
  clear hb1 hk1 hbk hcp
  go_wp2_with (at_builtin; refine wpList_append_ownF _ rfl (.tmp 11) (.tmp 13) 24 rfl B 5 i0 (.int .u8 0) 1 1 Tryz.underlying24 hi hz0 hz1 hz2 rfl (by decide) v bs.length bs rfl (hown.alloc _) ⟨w1.heap.size, 0, none⟩ 1 1 [.int .u8 (x.toNat : Int)] rfl rfl (cell_one_new _ _ _) (by simp [Value.oneCell']) (by unfold maxLen; omega) (by omega) (by simp; omega) ?_)
  intro v' w2 hown' hgrow _
  have hrowA : ∀ g, v.ownBlock = some g → B ≤ g ∧ ∃ c fz, (w1.alloc (.cells #[.int .u8 (x.toNat : Int)] 5)).heap[g]? = some (.cells c 5 fz) := fun g hg => ⟨((hown.alloc (.cells #[.int .u8 (x.toNat : Int)] 5)).lt g hg).1, Lib.ownsRowF_kind (hown.alloc _) g hg⟩
  have hfin := bld_append (w3 := w2) hB (by omega) HBK.out hne (Below.heap_alloc _ _ _ hblt) (by simp) ((Below.refl B w1).alloc (by omega) _) ((Lib.OthersKept.refl _ _ w1).alloc _) hrowA hown' (by rw [List.length_append, hbl]; rfl) hgrow
  obtain ⟨d0, d1, f1, ⟨a', m', c', rfl⟩, q1, q2, q3⟩ := hfin
  have Q1 := Lib.hid q1
  have Q2 := Lib.hid (HB1.out.trans q2)
  have Q3 := Lib.hid (HK1.out.trans q3)
  clear q1 q2 q3 hown' hgrow hown hne c0 c1 hrowA
  go_wp2_with fail
  go_ret
  exact ⟨⟨_, rfl⟩, .inr Q1.out, Q2.out, Q3.out⟩

theorem string_c {B b : Nat} {l : Bs} {w : World} (h : Bld B b l w) (hBw : B ≤ w.heap.size) : Calls Tryz.prog 58 #[.pointer (some ⟨b, 0, none⟩)] w fun e w' => e = .returned (.string (mk l)) ∧ Below B w w' := by
  refine (shBuilderStringanyk B b l w h hBw).mono ?_
  rintro e w1 ⟨rfl, _, hb, _⟩
  exact ⟨rfl, hb⟩

theorem bld_new (w : World) : Bld w.heap.size w.heap.size [] (w.alloc (.cells #[.pointer none, .slice none 0 0] 104)) :=
  Lib.IsBuilderF.of (Lib.fresh_isBuilder _ _ w)
end Go.Proofs.YtgledabcfonbeaaGreatDoor.Df
