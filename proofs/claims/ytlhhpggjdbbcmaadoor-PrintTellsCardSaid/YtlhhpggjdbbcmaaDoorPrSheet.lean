/-
  A SHEET: a builder and a mark that it is too long, in one block.
-/
import Derived.Test.YtlhhpggjdbbcmaaDoorPrEsc
import Derived.Lib.UnsafeStr
namespace Go.Proofs.YtlhhpggjdbbcmaaDoor.Pr
open Go.RowKit Go.Proofs.YtlhhpggjdbbcmaaDoor Go.Proofs.YtlhhpggjdbbcmaaDoor.Df

/-- a sheet at b: what its builder's own pointer is, its bytes, its mark -/
def ShAt (B b : Nat) (p : Value) (l : Bs) (g : Bool) (w : World) : Prop :=
  B ≤ b ∧ ∃ v, w.heap[b]? = some (.cells #[p, v, .bool g] 44 (0, 0)) ∧ w.ownsRowF B 5 1 v l.length (Lib.byteCells l) ∧ (l = [] → v = .slice none 0 0)
def SelfP (b : Nat) (p : Value) : Prop := p = .pointer none ∨ p = .pointer (some ⟨b, 0, none⟩)

theorem liesSheet : liesAt Tryd.prog Tryd.prog.depth 44 (3 / Tryd.prog.cellsOf 44) 0 42 1 = true := by kernel_rfl

section
variable {B b : Nat} {p : Value} {l : Bs} {g : Bool} {w : World}
theorem ShAt.cell0 (h : ShAt B b p l g w) : w.cell? ⟨b, 0, none⟩ = some p := by
  obtain ⟨_, v, hb, _⟩ := h
  simp [World.cell?, hb]
theorem ShAt.cell2 (h : ShAt B b p l g w) : w.cell? ⟨b, 2, none⟩ = some (.bool g) := by
  obtain ⟨_, v, hb, _⟩ := h
  simp [World.cell?, hb]
theorem ShAt.frozen (h : ShAt B b p l g w) (j : Nat) : w.frozen? ⟨b, j, none⟩ = false := by
  obtain ⟨_, v, hb, _⟩ := h
  simp [World.frozen?, hb]
theorem ShAt.shape (h : ShAt B b p l g w) : w.shape? b = some (44, 3) := by
  obtain ⟨_, v, hb, _⟩ := h
  simp [World.shape?, hb]
theorem ShAt.lt (h : ShAt B b p l g w) : b < w.heap.size := by
  obtain ⟨_, v, hb, _⟩ := h
  exact lt_some hb
theorem ShAt.ne {v : Value} {n : Nat} {xs : List Value} {C : Array Value} {fr : Nat × Nat} (hown : w.ownsRowF B 5 1 v n xs) (hb : w.heap[b]? = some (.cells C 44 fr)) : v.ownBlock ≠ some b := Lib.ownBlock_neF hown hb (by decide)
theorem ownF_set {v u : Value} {n j : Nat} {xs : List Value} {C : Array Value} (hown : w.ownsRowF B 5 1 v n xs) (hb : w.heap[b]? = some (.cells C 44 (0, 0))) : (w.setCell ⟨b, j, none⟩ u).ownsRowF B 5 1 v n xs :=
  hown.kept (row := some b) ⟨rfl, rfl, rfl, by simp [World.setCell], fun k _ hk => Below.heap_setCell _ _ _ _ (fun e => hk (by simp [e]))⟩ (Or.inr (ShAt.ne hown hb))
theorem ShAt.used (h : ShAt B b p l g w) (q : Value) : ShAt B b q l g (w.setCell ⟨b, 0, none⟩ q) := by
  obtain ⟨hB, v, hb, hown, hn⟩ := h
  exact ⟨hB, v, set_block hb, ownF_set hown hb, hn⟩
theorem ShAt.marked (h : ShAt B b p l g w) (q : Bool) : ShAt B b p l q (w.setCell ⟨b, 2, none⟩ (.bool q)) := by
  obtain ⟨hB, v, hb, hown, hn⟩ := h
  exact ⟨hB, v, set_block hb, ownF_set hown hb, hn⟩
theorem ShAt.keep {w' : World} (h : ShAt B b p l g w) (hb : Below w.heap.size w w') : ShAt B b p l g w' := by
  obtain ⟨hB, x, hx, hown, hn⟩ := h
  refine ⟨hB, x, (hb.block _ (lt_some hx)).trans hx, ?_, hn⟩
  refine hown.kept (row := none) ⟨hb.os, hb.tape, hb.output, hb.size, fun k hk _ => hb.block k hk⟩ ?_
  cases x.ownBlock <;> simp
theorem sh_new (w : World) : ShAt w.heap.size w.heap.size (.pointer none) [] false (w.alloc (.cells #[.pointer none, .slice none 0 0, .bool false] 44)) :=
  ⟨Nat.le_refl _, _, heap_alloc_new w _, World.ownsRowF_nil _ _ _ _, fun _ => rfl⟩
end

set_option maxHeartbeats 2000000 in
set_option maxRecDepth 100000 in
theorem shCopy_c {B b : Nat} {p : Value} {l : Bs} {g : Bool} {w : World} (h : ShAt B b p l g w) (hp : SelfP b p) :
    Calls Tryd.prog 38 #[.pointer (some ⟨b, 0, none⟩)] w fun e w' => (∃ z, e = .returned z) ∧ ShAt B b (.pointer (some ⟨b, 0, none⟩)) l g w' ∧ Below B w w' ∧ Others b w w' := by
  obtain ⟨j, hj, hjs⟩ := Option.map_eq_some_iff.1 infoBld
  have hne := fun w => Lib.run_neq_ptr_same (w := w) (P := Tryd.prog) (tp := 39) ⟨b, 0, none⟩ Tryd.underlying39 hj
  rcases hp with rfl | rfl
  · have hto := Lib.run_to_unsafe (w := w) ⟨b, 0, none⟩ Tryd.underlying39 Tryd.underlying83 hj (by rw [hjs]; decide) h.shape (Nat.zero_lt_succ 2)
    have hfrom := Lib.run_from_unsafe (w := w) ⟨b, 0, none⟩ Tryd.underlying83 Tryd.underlying39 hj h.shape liesSheet
    have hext : ∀ (x : Value) (W : World), (callFunc 47 #[x]).run Tryd.prog W = .ok (.value x) W := fun x W => by
      rw [run_callFunc_extern Tryd.func47 (by kernel_rfl) (by kernel_rfl) (by kernel_rfl) (e := Extern.AbiNoEscape.same) (by kernel_rfl), Lib.run_noEscape]
      rfl
    have c0 := h.cell0
    have f0 := h.frozen 0
    have HU := Lib.hid (h.used (.pointer (some ⟨b, 0, none⟩)))
    have HB := Lib.hid h.1
    clear h hj hjs
    go_enter Tryd.func38, Tryd.ntmps38
    go_wp2
    go_end0
    exact ⟨⟨_, rfl⟩, HU.out, (Below.refl B w).setCell (p := ⟨b, 0, none⟩) HB.out _, (Lib.OthersKept.refl _ _ w).setCell ⟨b, 0, none⟩ rfl _⟩
  · have c0 := h.cell0
    have HH := Lib.hid h
    clear h hj hjs
    go_enter Tryd.func38, Tryd.ntmps38
    go_wp2
    go_end0
    exact ⟨⟨_, rfl⟩, HH.out, Below.refl B w, Lib.OthersKept.refl _ _ w⟩

/-- the buffer's cell, and what an append leaves -/
theorem sh_append {B b : Nat} {g : Bool} {l s : Bs} {v v' : Value} {w1 w3 : World} (hB : B ≤ b) (hbk : w1.heap[b]? = some (.cells #[.pointer (some ⟨b, 0, none⟩), v, .bool g] 44 (0, 0))) (hown : w1.ownsRowF B 5 1 v l.length (Lib.byteCells l))
    (hown' : w3.ownsRowF B 5 1 v' (l.length + s.length) (Lib.byteCells l ++ Lib.byteCells s)) (hg : w1.grownBy w3 v.ownBlock) (hBw : B ≤ w1.heap.size) (hn : l ++ s = [] → v' = .slice none 0 0) :
    w3.cell? ⟨b, 0, none⟩ = some (.pointer (some ⟨b, 0, none⟩)) ∧ w3.cell? ⟨b, 1, none⟩ = some v ∧ w3.frozen? ⟨b, 1, none⟩ = false ∧ (∃ a m c, v' = .slice a m c) ∧
      ShAt B b (.pointer (some ⟨b, 0, none⟩)) (l ++ s) g (w3.setCell ⟨b, 1, none⟩ v') ∧ Below B w1 (w3.setCell ⟨b, 1, none⟩ v') ∧ Others b w1 (w3.setCell ⟨b, 1, none⟩ v') := by
  have hlt := lt_some hbk
  have hne := ShAt.ne hown hbk
  have hb3 : w3.heap[b]? = some (.cells #[.pointer (some ⟨b, 0, none⟩), v, .bool g] 44 (0, 0)) := by
    rw [hg.block b hlt (fun e => hne e.symm)]
    exact hbk
  have hrow : ∀ k, v.ownBlock = some k → B ≤ k ∧ ∃ c fz, w1.heap[k]? = some (.cells c 5 fz) := fun k hk => ⟨(hown.lt k hk).1, Lib.ownsRowF_kind hown k hk⟩
  have e1 : l.length + s.length = (l ++ s).length := by simp
  rw [← byteCells_app, e1] at hown'
  refine ⟨by simp [World.cell?, hb3], by simp [World.cell?, hb3], by simp [World.frozen?, hb3], ?_, ?_, ?_, ?_⟩
  · rcases hown'.2 with ⟨hv, _⟩ | ⟨g, cap, cur, fz, hv, _⟩
    · exact ⟨_, _, _, hv⟩
    · exact ⟨_, _, _, hv⟩
  · exact ⟨hB, v', set_block hb3, ownF_set hown' hb3, hn⟩
  · exact ((Below.refl B w1).grown hg hBw fun k hk => (hrow k hk).1).setCell (p := ⟨b, 1, none⟩) hB _
  · exact ((Lib.OthersKept.refl _ _ w1).grown hg fun g hgg => (hrow g hgg).2).setCell ⟨b, 1, none⟩ rfl _

set_option maxHeartbeats 2000000 in
set_option maxRecDepth 100000 in
theorem shWrite_c {B b : Nat} {p : Value} {l s : Bs} {g : Bool} {w : World} (h : ShAt B b p l g w) (hp : SelfP b p) (hl : l.length + s.length ≤ 1000000) (hBw : B ≤ w.heap.size) :
    Calls Tryd.prog 28 #[.pointer (some ⟨b, 0, none⟩), .string (mk s)] w fun e w' => (∃ z, e = .returned z) ∧ ShAt B b (.pointer (some ⟨b, 0, none⟩)) (l ++ s) g w' ∧ Below B w w' ∧ Others b w w' := by
  obtain ⟨i0, hi, hz0, hz1, hz2⟩ := info_parts infoU8
  have hcp := shCopy_c h hp
  have hz := mk_size s
  have hbl := byteCells_length l
  have hsc := strCells_mk s
  clear h hp
  go_enter Tryd.func28, Tryd.ntmps28
  go_wp2_with fail
  refine hcp.mono ?_
  rintro e w1 ⟨⟨z, rfl⟩, h1, hb1, hk1⟩
  obtain ⟨hB, v, hbk, hown, hnil⟩ := h1
  have HN := Lib.hid hnil
  clear hnil
  have c0 : w1.cell? ⟨b, 0, none⟩ = some (.pointer (some ⟨b, 0, none⟩)) := by simp [World.cell?, hbk]
  have c1 : w1.cell? ⟨b, 1, none⟩ = some v := by simp [World.cell?, hbk]
  have hsz := hb1.size
  have HB1 := Lib.hid hb1
  have HK1 := Lib.hid hk1
  have HBK := Lib.hid hbk
  have HOW := Lib.hid hown
  clear hb1 hk1 hbk hcp
  go_wp2_with (at_builtin; refine Lib.wpList_append_own_stringF _ rfl (.tmp 12) (.tmp 13) 40 9 rfl B 5 i0 Tryd.underlying40 Tryd.underlying9 hi hz0 hz1 hz2 v l.length (Lib.byteCells l) rfl hown (mk s) rfl (by unfold maxLen; omega) (by omega) (by omega) ?_)
  intro v' w2 hown' hgrow hiff
  have hfin := sh_append hB HBK.out HOW.out hown' hgrow (by omega) (fun e => hiff.2 ⟨HN.out (List.append_eq_nil_iff.1 e).1, (List.append_eq_nil_iff.1 e).2⟩)
  obtain ⟨d0, d1, f1, ⟨a', m', c', rfl⟩, q1, q2, q3⟩ := hfin
  have Q1 := Lib.hid q1
  have Q2 := Lib.hid (HB1.out.trans q2)
  have Q3 := Lib.hid (HK1.out.trans q3)
  clear q1 q2 q3 hown' hgrow hown c0 c1 hiff
  go_wp2_with fail
  go_ret2
  exact ⟨⟨_, rfl⟩, Q1.out, Q2.out, Q3.out⟩

set_option maxHeartbeats 2000000 in
theorem shLen_c {B b : Nat} {p : Value} {l : Bs} {g : Bool} {w : World} (h : ShAt B b p l g w) : Calls Tryd.prog 27 #[.pointer (some ⟨b, 0, none⟩)] w fun e w' => e = .returned (.int .i64 l.length) ∧ w = w' := by
  obtain ⟨hB, v, hb, hown, -⟩ := h
  have c1 : w.cell? ⟨b, 1, none⟩ = some v := by simp [World.cell?, hb]
  obtain ⟨a, c, rfl⟩ : ∃ a c, v = .slice a l.length c := by
    rcases hown.2 with ⟨hv, h0⟩ | ⟨g, cap, cur, fz, hv, _⟩
    · exact ⟨none, 0, by rw [hv, h0]⟩
    · exact ⟨_, _, hv⟩
  clear hb hown
  go_enter Tryd.func27, Tryd.ntmps27
  go_wp2_with fail
  go_ret
  exact ⟨rfl, rfl⟩

set_option maxHeartbeats 4000000 in
set_option maxRecDepth 100000 in
theorem shString_c {B b : Nat} {p : Value} {l : Bs} {g : Bool} {w : World} (h : ShAt B b p l g w) :
    Calls Tryd.prog 15 #[.pointer (some ⟨b, 0, none⟩)] w fun e w' => e = .returned (.string (mk l)) ∧ Below B w w' := by
  obtain ⟨hB, v, hbk, hown, hn⟩ := h
  have mixed : Tryd.prog.follows .mixedOrders = true := by kernel_rfl
  by_cases h0 : l = []
  · obtain rfl := hn h0
    subst h0
    have hUS : ∀ W : World, (Builtin.unsafeString_ #[64, 3] 9 #[.pointer none, .int .i64 0]).run Tryd.prog W = .ok (.string .empty) W := fun W => Lib.run_unsafeString_none W 64 3 9 none
    have c1 : w.drew.cell? ⟨b, 1, none⟩ = some (.slice none 0 0) := by
      have : w.drew.heap[b]? = some (.cells #[p, .slice none 0 0, .bool g] 44 (0, 0)) := hbk
      rw [Lib.cell_of_heap this]; rfl
    have hSD : (Builtin.unsafeSliceData_ #[40] 64 #[.slice none 0 0]).run Tryd.prog w.drew = .ok (.pointer none) w.drew := rfl
    clear hbk hown hn
    go_enter Tryd.func15, Tryd.ntmps15
    go_wp2
    go_region_o
    all_goals (go_wp2; go_ret; exact ⟨rfl, Below.drew (Below.refl B w)⟩)
  · have hl0 : l.length ≠ 0 := by simpa using h0
    obtain ⟨k, cap, cur, fz, rfl, hbg, hg, hfz, hnc, hcm, hcs, htake⟩ : ∃ k cap cur fz, v = .slice (some ⟨k, 0, none⟩) l.length cap ∧ B ≤ k ∧ w.heap[k]? = some (.cells cur 5 fz) ∧ fz.2 ≤ l.length * 1 ∧ l.length ≤ cap ∧ cap ≤ maxLen ∧ cur.size = cap * 1 ∧ cur.toList.take (l.length * 1) = Lib.byteCells l := by
      rcases hown.2 with ⟨_, hz⟩ | ⟨k, cap, cur, fz, hv, r⟩
      · exact absurd hz hl0
      · exact ⟨k, cap, cur, fz, hv, r⟩
    have c1 : w.drew.cell? ⟨b, 1, none⟩ = some (.slice (some ⟨k, 0, none⟩) l.length cap) := by
      have : w.drew.heap[b]? = some (.cells #[p, .slice (some ⟨k, 0, none⟩) l.length cap, .bool g] 44 (0, 0)) := hbk
      rw [Lib.cell_of_heap this]; rfl
    have hSD : (Builtin.unsafeSliceData_ #[40] 64 #[.slice (some ⟨k, 0, none⟩) l.length cap]).run Tryd.prog w.drew = .ok (.pointer (some ⟨k, 0, none⟩)) w.drew :=
      Lib.run_unsafeSliceData_row _ _ _ _ _ _ (by omega)
    have hUS : (Builtin.unsafeString_ #[64, 3] 9 #[.pointer (some ⟨k, 0, none⟩), .int .i64 l.length]).run Tryd.prog w.drew = .ok (.string ⟨l.toArray⟩) (w.drew.freeze ⟨k, 0, none⟩ l.length) := by
      refine Lib.run_unsafeString_row w.drew 64 3 9 5 Tryd.underlying64 (by kernel_rfl) k cur.size (by have hg' : w.drew.heap[k]? = some (.cells cur 5 fz) := hg; simp [World.shape?, hg']) l h0 (by omega) (by unfold maxLen at hcm; omega) ?_
      intro j x hx
      have := hown.cells (g := k) rfl j (.int .u8 x.toNat) (by simp [Lib.byteCells, hx])
      exact this
    clear hbk hown hn hg htake
    go_enter Tryd.func15, Tryd.ntmps15
    go_wp2
    go_region_o
    all_goals (go_wp2; go_ret; exact ⟨rfl, Lib.below_freeze (Below.drew (Below.refl B w)) (p := ⟨k, 0, none⟩) hbg _⟩)
end Go.Proofs.YtlhhpggjdbbcmaaDoor.Pr
