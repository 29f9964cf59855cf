/-
  A LOAD MAY BE TAKEN FIRST, THOUGH A LATER OPERATION n WRITES ITS CELL, where n waits for it: what is held is asked only till n has run; an operation that asks nothing of the world may be taken first at any time.
-/
import Derived.Deep.RegionHeld3
import Derived.Test.YtgledabcfonbeaaGreatDoorRows
import Derived.Test.YtgledabcfonbeaaGreatDoorCkReadA
import Derived.Lib.FrozenHead2
import Derived.Lib.OthersKept
namespace Go.Proofs.YtgledabcfonbeaaGreatDoor.Nt
open Go

section
variable {P : Program} {ops : Array Oper} {Q : Exit → Act → World → Prop} {md : Region.Mode} {S : World → Prop} {n : Nat}

/-- whatever order is picked; S holds behind every operation till n has run -/
def wpAnyN (P : Program) (md : Region.Mode) (ops : Array Oper) (Q : Exit → Act → World → Prop) (S : World → Prop) (n : Nat) : Nat → Array Bool → Act → World → Prop
  | 0, listed, a, w => Region.ready md ops listed = [] ∧ Q .normal a w
  | fuel + 1, listed, a, w =>
    (Region.ready md ops listed = [] → Q .normal a w) ∧
    ∀ i ∈ Region.ready md ops listed, wpOp P ops Q i (fun a' w' => ((listed.setIfInBounds i true).getD n true = false → S w') ∧ wpAnyN P md ops Q S n fuel (listed.setIfInBounds i true) a' w') a w

theorem wpAny_of_N : ∀ (fuel : Nat) (listed : Array Bool) (a : Act) (w : World), wpAnyN P md ops Q S n fuel listed a w → wpAny P md ops Q fuel listed a w
  | 0, _, _, _, h => h
  | fuel + 1, _, _, _, h => ⟨h.1, fun i hi => wpOp_mono (fun a' w' h' => wpAny_of_N fuel _ a' w' h'.2) (h.2 i hi)⟩

/-- taken first: R is what it asks of the world, and holds till n has run -/
theorem wpAnyN_first {i : Nat} {oi : Oper} {v : Value} (hi : ops[i]? = some oi) (hsel : ∀ (j : Nat) (o : Oper) cs b, ops[j]? = some o → o.op ≠ .select cs b)
    (hQ : ∀ c a w, Q (.panic c) (a.put oi.dst v) w → Q (.panic c) a w) {R : World → Prop}
    (hR : (∀ w, R w) ∨ ((∀ w, S w → R w) ∧ ∃ on, ops[n]? = some on ∧ ∃ e ∈ on.after, Region.binds md e = true ∧ e.on = i)) (hin : i ≠ n) :
    ∀ (fuel : Nat) (listed : Array Bool) (a : Act) (w : World),
      (∀ j oj, ops[j]? = some oj → j ≠ i → listed.getD j true = false → (∀ e ∈ oj.after, Region.binds md e = true → e.on ≠ i) → oi.apart ops oj = true) →
      i ∈ Region.ready md ops listed → YieldsIf P ops R oi v a → R w → (listed.getD n true = false → S w) → ((∀ w, R w) ∨ listed.getD n true = false) →
      wpAnyN P md ops Q S n fuel (listed.setIfInBounds i true) (a.put oi.dst v) w → wpAnyN P md ops Q S n (fuel + 1) listed a w := by
  intro fuel
  induction fuel with
  | zero =>
    intro listed a w _ hr hy hRw hS hl H
    refine ⟨fun h => (by rw [h] at hr; cases hr), fun j hj => ?_⟩
    by_cases hji : j = i
    · subst hji; exact hy.wpOp hi hRw ⟨fun h => hS (by rw [getD_set_ne true hin] at h; exact h), H⟩
    · have := ready_mono hj hji
      rw [H.1] at this
      cases this
  | succ fuel ih =>
    intro listed a w hfree hr hy hRw hS hl H
    refine ⟨fun h => (by rw [h] at hr; cases hr), fun j hj => ?_⟩
    by_cases hji : j = i
    · subst hji; exact hy.wpOp hi hRw ⟨fun h => hS (by rw [getD_set_ne true hin] at h; exact h), H⟩
    · have h1 := H.2 j (ready_mono hj hji)
      obtain ⟨hjun, oj, hoj, hall⟩ := mem_ready.1 hj
      have hnot : ∀ e ∈ oj.after, Region.binds md e = true → e.on ≠ i := fun e he hb heq => by
        have h1 := hall e he hb
        have h0 := (mem_ready.1 hr).1
        rw [heq] at h1
        rcases Nat.lt_or_ge i listed.size with h' | h'
        · simp [h'] at h0 h1; rw [h0] at h1; cases h1
        · simp [Array.getElem?_eq_none h'] at h1
      have h2 := wpOp_putIf hoj (hfree j oj hoj hji hjun hnot) (fun cs b => hsel i oi cs b hi) (fun cs b => hsel j oj cs b hoj) hQ hy h1
      have hfree' : ∀ k ok, ops[k]? = some ok → k ≠ i → (listed.setIfInBounds j true).getD k true = false →
          (∀ e ∈ ok.after, Region.binds md e = true → e.on ≠ i) → oi.apart ops ok = true := fun k ok hk hki hun hno => by
        refine hfree k ok hk hki ?_ hno
        by_cases hjk : j = k
        · subst hjk; exact hjun
        · rw [getD_set_ne true hjk] at hun; exact hun
      have hin' : i ≠ j := fun e => hji e.symm
      refine wpOp_mono (fun a' w' h3 => ?_) h2
      have hS' : (listed.setIfInBounds j true).getD n true = false → S w' := fun h => h3.2.1 (by
        rw [Array.setIfInBounds_comm _ _ hin', getD_set_ne true hin]
        exact h)
      have hl' : (∀ w, R w) ∨ (listed.setIfInBounds j true).getD n true = false := by
        rcases hR with h | ⟨_, on, hon, e, he, hb, hei⟩
        · exact .inl h
        · rcases hl with h | h
          · exact .inl h
          · have hjn : j ≠ n := by
              rintro rfl
              rw [hoj] at hon
              cases hon
              exact hnot e he hb hei
            exact .inr (by rw [getD_set_ne true hjn]; exact h)
      have hRw' : R w' := by
        rcases hl' with h | h
        · exact h w'
        · rcases hR with h2 | ⟨hSR, _⟩
          · exact h2 w'
          · exact hSR w' (hS' h)
      refine ⟨hS', ih (listed.setIfInBounds j true) a' w' hfree' (ready_mono hr (Ne.symm hji)) h3.1 hRw' hS' hl' ?_⟩
      rw [Array.setIfInBounds_comm _ _ hji]
      exact h3.2.2

/-- does operation n wait for number i? -/
def waitsFor (md : Region.Mode) (ops : Array Oper) (n i : Nat) : Bool :=
  match ops[n]? with
  | some on => on.after.any fun e => Region.binds md e && (e.on == i)
  | none => false

theorem waitsFor_spec {i : Nat} (h : waitsFor md ops n i = true) : ∃ on, ops[n]? = some on ∧ ∃ e ∈ on.after, Region.binds md e = true ∧ e.on = i := by
  unfold waitsFor at h
  split at h
  · rename_i on hon
    simp only [Array.any_eq_true'] at h
    obtain ⟨e, he, hb⟩ := h
    simp only [Bool.and_eq_true, beq_iff_eq] at hb
    exact ⟨on, hon, e, he, hb.1, hb.2⟩
  · cases h

/-- a load that n waits for, taken first -/
theorem takeS {i : Nat} {oi : Oper} {v : Value} {fuel : Nat} {listed : Array Bool} {a : Act} {w : World} (hi : ops[i]? = some oi)
    (hs : Region.noSelect ops = true) (hf : Region.free md ops listed i = true) (hr : (Region.ready md ops listed).contains i = true)
    (hw : waitsFor md ops n i = true) (hin : (i == n) = false) (hl : listed.getD n true = false)
    (hQ : ∀ c a w, Q (.panic c) (a.put oi.dst v) w → Q (.panic c) a w) (hy : YieldsIf P ops S oi v a) (hS : S w)
    (h : wpAnyN P md ops Q S n fuel (listed.setIfInBounds i true) (a.put oi.dst v) w) : wpAnyN P md ops Q S n (fuel + 1) listed a w :=
  wpAnyN_first hi (Region.noSelect_spec hs) hQ (.inr ⟨fun _ h => h, waitsFor_spec hw⟩) (by simpa using hin) fuel listed a w (Region.free_spec hi hf) (by simpa using hr) hy hS (fun _ => hS) (.inr hl) h

/-- an operation that asks nothing of the world, taken first -/
theorem takeT {i : Nat} {oi : Oper} {v : Value} {fuel : Nat} {listed : Array Bool} {a : Act} {w : World} (hi : ops[i]? = some oi)
    (hs : Region.noSelect ops = true) (hf : Region.free md ops listed i = true) (hr : (Region.ready md ops listed).contains i = true) (hin : (i == n) = false)
    (hQ : ∀ c a w, Q (.panic c) (a.put oi.dst v) w → Q (.panic c) a w) (hy : YieldsIf P ops (fun _ => True) oi v a) (hS : listed.getD n true = false → S w)
    (h : wpAnyN P md ops Q S n fuel (listed.setIfInBounds i true) (a.put oi.dst v) w) : wpAnyN P md ops Q S n (fuel + 1) listed a w :=
  wpAnyN_first hi (Region.noSelect_spec hs) hQ (.inl fun _ => trivial) (by simpa using hin) fuel listed a w (Region.free_spec hi hf) (by simpa using hr) hy trivial hS (.inl fun _ => trivial) h

theorem doneN {listed : Array Bool} {a : Act} {w : World} (hr : Region.ready md ops listed = []) (h : Q .normal a w) :
    ∀ fuel, wpAnyN P md ops Q S n fuel listed a w
  | 0 => ⟨hr, h⟩
  | _ + 1 => ⟨fun _ => h, by rw [hr]; simp⟩

/-- number i comes up next, and no other one may -/
theorem nextN {i : Nat} {o : Oper} {fuel : Nat} {listed : Array Bool} {a : Act} {w : World} (hr : Region.ready md ops listed = [i]) (ho : ops[i]? = some o)
    (h : ∀ K' : Act → World → Prop, Shut (∀ a w, ((listed.setIfInBounds i true).getD n true = false → S w) → (wpAnyN P md ops Q S n fuel (listed.setIfInBounds i true) a w) → K' a w) → if Region.wanted o (yielded ops a.tmps) = true then Oper.wp P o a w K' Q else K' (a.put o.dst undef) w) :
    wpAnyN P md ops Q S n (fuel + 1) listed a w := by
  refine ⟨fun h0 => (by rw [hr] at h0; cases h0), fun j hj => ?_⟩
  rw [hr] at hj
  obtain rfl := List.mem_singleton.1 hj
  exact wpOp_step ho (fun K' hK => h K' (fun a w hS hW => hK a w ⟨hS, hW⟩))

/-- numbers i and j may come up next -/
theorem twoN {i j : Nat} {oi oj : Oper} {fuel : Nat} {listed : Array Bool} {a : Act} {w : World} (hr : Region.ready md ops listed = [i, j]) (hoi : ops[i]? = some oi) (hoj : ops[j]? = some oj)
    (hi : ∀ K' : Act → World → Prop, Shut (∀ a w, ((listed.setIfInBounds i true).getD n true = false → S w) → (wpAnyN P md ops Q S n fuel (listed.setIfInBounds i true) a w) → K' a w) → if Region.wanted oi (yielded ops a.tmps) = true then Oper.wp P oi a w K' Q else K' (a.put oi.dst undef) w)
    (hj : ∀ K' : Act → World → Prop, Shut (∀ a w, ((listed.setIfInBounds j true).getD n true = false → S w) → (wpAnyN P md ops Q S n fuel (listed.setIfInBounds j true) a w) → K' a w) → if Region.wanted oj (yielded ops a.tmps) = true then Oper.wp P oj a w K' Q else K' (a.put oj.dst undef) w) :
    wpAnyN P md ops Q S n (fuel + 1) listed a w := by
  refine ⟨fun h0 => (by rw [hr] at h0; cases h0), fun k hk => ?_⟩
  rw [hr] at hk
  rcases List.mem_cons.1 hk with rfl | hk
  · exact wpOp_step hoi (fun K' hK => hi K' (fun a w hS hW => hK a w ⟨hS, hW⟩))
  · obtain rfl := List.mem_singleton.1 hk
    exact wpOp_step hoj (fun K' hK => hj K' (fun a w hS hW => hK a w ⟨hS, hW⟩))

theorem wp_region_N {id : Nat} {a : Act} {w : World} (n : Nat) (S : World → Prop) (hm : P.follows .mixedOrders = true)
    (h : wpAnyN P .any ops Q S n ops.size (Array.replicate ops.size false) a w.drew) : (Code.region id ops true).wp P Q a w :=
  wp_region_any hm (wpAny_of_N _ _ _ _ h)
end
end Go.Proofs.YtgledabcfonbeaaGreatDoor.Nt

/-! A BUILDER THAT A CLOSURE WRITES: this dump's writers (its copy check bears a stop that no walk comes to). -/
namespace Go.Proofs.YtgledabcfonbeaaGreatDoor.Df
open Go.RowKit Go.Proofs.YtgledabcfonbeaaGreatDoor

/-- a builder at b holds these bytes; its row lies at B or above -/
def Bld (B b : Nat) (l : Bs) (w : World) : Prop := Lib.IsBuilderF 104 5 B b (Lib.byteCells l) w
/-- blocks that are no builder's stand -/
def Others (b : Nat) (w w' : World) : Prop := Lib.OthersKept 5 (some b) w w'

theorem infoU8 : (Tryz.prog.info? 5).map (fun i => (i.zero, i.size, i.bytes)) = some (some (.int .u8 0), 1, 1) := by kernel_rfl
theorem infoBld : (Tryz.prog.info? 104).map (·.size) = some 2 := by kernel_rfl
theorem liesBld : liesAt Tryz.prog Tryz.prog.depth 104 (2 / Tryz.prog.cellsOf 104) 0 104 1 = true := by kernel_rfl

theorem byteCells_app (a b : Bs) : Lib.byteCells (a ++ b) = Lib.byteCells a ++ Lib.byteCells b := by simp [Lib.byteCells]
theorem byteCells_length (a : Bs) : (Lib.byteCells a).length = a.length := by simp [Lib.byteCells]
theorem strCells_mk (a : Bs) : Lib.strCells (mk a) = Lib.byteCells a := by simp [Lib.strCells, Lib.byteCells, mk_bytes]

set_option maxHeartbeats 2000000 in
set_option maxRecDepth 100000 in
theorem copy_c {B b : Nat} {bs : List Value} {w : World} (h : Lib.IsBuilderF 104 5 B b bs w) :
    Calls Tryz.prog 72 #[.pointer (some ⟨b, 0, none⟩)] w fun e w' => (∃ z, e = .returned z) ∧ Lib.BuilderAtF 104 5 B b (.pointer (some ⟨b, 0, none⟩)) bs w' ∧ Below B w w' ∧ Others b w w' := by
  obtain ⟨j, hj, hjs⟩ := Option.map_eq_some_iff.1 infoBld
  have hne := fun w => Lib.run_neq_ptr_same (w := w) (P := Tryz.prog) (tp := 102) ⟨b, 0, none⟩ Tryz.underlying102 hj
  rcases h with h | h
  · have hto := Lib.run_to_unsafe (w := w) ⟨b, 0, none⟩ Tryz.underlying102 Tryz.underlying141 hj (by rw [hjs]; decide) h.shape (Nat.zero_lt_succ 1)
    have hfrom := Lib.run_from_unsafe (w := w) ⟨b, 0, none⟩ Tryz.underlying141 Tryz.underlying102 hj h.shape liesBld
    have hext : ∀ (x : Value) (W : World), (callFunc 88 #[x]).run Tryz.prog W = .ok (.value x) W := fun x W => by
      rw [run_callFunc_extern Tryz.func88 (by kernel_rfl) (by kernel_rfl) (by kernel_rfl) (e := Extern.AbiNoEscape.same) (by kernel_rfl), Lib.run_noEscape]
      rfl
    have c0 := h.cell0
    have f0 := h.frozen0
    have HU := Lib.hid (h.used (.pointer (some ⟨b, 0, none⟩)))
    have HB := Lib.hid h.1
    clear h hj hjs
    go_enter Tryz.func72, Tryz.ntmps72
    go_wp2
    go_end0
    exact ⟨⟨_, rfl⟩, HU.out, (Below.refl B w).setCell (p := ⟨b, 0, none⟩) HB.out _, (Lib.OthersKept.refl _ _ w).setCell ⟨b, 0, none⟩ rfl _⟩
  · have c0 := h.cell0
    have HH := Lib.hid h
    clear h hj hjs
    go_enter Tryz.func72, Tryz.ntmps72
    go_wp2
    go_end0
    exact ⟨⟨_, rfl⟩, HH.out, Below.refl B w, Lib.OthersKept.refl _ _ w⟩

/-- the buffer's cell, and what an append leaves -/
theorem bld_append {B b n : Nat} {bs add : List Value} {v v' : Value} {w1 w2 w3 : World} (hB : B ≤ b) (hBw : B ≤ w1.heap.size) (hbk : w1.heap[b]? = some (.cells #[.pointer (some ⟨b, 0, none⟩), v] 104 (0, 0))) (hne : v.ownBlock ≠ some b)
    (hw2 : w2.heap[b]? = w1.heap[b]?) (hs : w1.heap.size ≤ w2.heap.size) (hb12 : Below B w1 w2) (hk12 : Others b w1 w2) (hrow : ∀ g, v.ownBlock = some g → B ≤ g ∧ ∃ c fz, w2.heap[g]? = some (.cells c 5 fz))
    (hown' : w3.ownsRowF B 5 1 v' n (bs ++ add)) (hn : n = (bs ++ add).length) (hg : w2.grownBy w3 v.ownBlock) :
    w3.cell? ⟨b, 0, none⟩ = some (.pointer (some ⟨b, 0, none⟩)) ∧ w3.cell? ⟨b, 1, none⟩ = some v ∧ w3.frozen? ⟨b, 1, none⟩ = false ∧ (∃ a m c, v' = .slice a m c) ∧
      Lib.BuilderAtF 104 5 B b (.pointer (some ⟨b, 0, none⟩)) (bs ++ add) (w3.setCell ⟨b, 1, none⟩ v') ∧ Below B w1 (w3.setCell ⟨b, 1, none⟩ v') ∧ Others b w1 (w3.setCell ⟨b, 1, none⟩ v') := by
  have hlt := lt_some hbk
  have hb3 : w3.heap[b]? = some (.cells #[.pointer (some ⟨b, 0, none⟩), v] 104 (0, 0)) := by
    rw [hg.block b (by omega) (fun e => hne e.symm), hw2]
    exact hbk
  refine ⟨by simp [World.cell?, hb3], by simp [World.cell?, hb3], by simp [World.frozen?, hb3], ?_, ?_, ?_, ?_⟩
  · rcases hown'.2 with ⟨hv, _⟩ | ⟨g, cap, cur, fz, hv, _⟩
    · exact ⟨_, _, _, hv⟩
    · exact ⟨_, _, _, hv⟩
  · subst hn
    exact Lib.BuilderAtF.put hB hb3 hown' (by decide)
  · exact (hb12.grown hg (by omega) fun k hk => (hrow k hk).1).setCell (p := ⟨b, 1, none⟩) hB _
  · exact (hk12.grown hg fun g hgg => (hrow g hgg).2).setCell ⟨b, 1, none⟩ rfl _

set_option maxHeartbeats 2000000 in
set_option maxRecDepth 100000 in
theorem writeS_c {B b : Nat} {l s : Bs} {w : World} (h : Bld B b l w) (hl : l.length + s.length ≤ 1000000) (hBw : B ≤ w.heap.size) :
    Calls Tryz.prog 56 #[.pointer (some ⟨b, 0, none⟩), .string (mk s)] w fun e w' => (∃ z, e = .returned z) ∧ Bld B b (l ++ s) w' ∧ Below B w w' ∧ Others b w w' := by
  obtain ⟨i0, hi, hz0, hz1, hz2⟩ := info_parts infoU8
  have hcp := copy_c h
  have hz := mk_size s
  have hbl := byteCells_length l
  unfold Bld
  rw [byteCells_app]
  have hsc := strCells_mk s
  generalize Lib.byteCells l = bs at *
  rw [← hsc]
  clear h hsc
  go_enter Tryz.func56, Tryz.ntmps56
  go_wp2_with fail
  refine hcp.mono ?_
  rintro e w1 ⟨⟨z, rfl⟩, h1, hb1, hk1⟩
  obtain ⟨hB, v, hbk, hown, hne⟩ := h1
  have c0 : w1.cell? ⟨b, 0, none⟩ = some (.pointer (some ⟨b, 0, none⟩)) := by simp [World.cell?, hbk]
  have c1 : w1.cell? ⟨b, 1, none⟩ = some v := by simp [World.cell?, hbk]
  have hsz := hb1.size
  have HB1 := Lib.hid hb1
  have HK1 := Lib.hid hk1
  have HBK := Lib.hid hbk
  clear hb1 hk1 hbk hcp
  go_wp2_with (at_builtin; refine Lib.wpList_append_own_stringF _ rfl (.tmp 12) (.tmp 13) 24 9 rfl B 5 i0 Tryz.underlying24 Tryz.underlying9 hi hz0 hz1 hz2 v bs.length bs rfl hown (mk s) rfl (by unfold maxLen; omega) (by omega) (by omega) ?_)
  intro v' w2 hown' hgrow _
  have hfin := bld_append (w3 := w2) hB (by omega) HBK.out hne rfl (Nat.le_refl _) (Below.refl B w1) (Lib.OthersKept.refl _ _ w1) (fun g hg => ⟨(hown.lt g hg).1, Lib.ownsRowF_kind hown g hg⟩) hown' (by rw [List.length_append, Lib.strCells_length, hbl, hz]) hgrow
  obtain ⟨d0, d1, f1, ⟨a', m', c', rfl⟩, q1, q2, q3⟩ := hfin
  have Q1 := Lib.hid q1
  have Q2 := Lib.hid (HB1.out.trans q2)
  have Q3 := Lib.hid (HK1.out.trans q3)
  clear q1 q2 q3 hown' hgrow hown hne c0 c1
  go_wp2_with fail
  go_ret2
  exact ⟨⟨_, rfl⟩, .inr Q1.out, Q2.out, Q3.out⟩

set_option maxHeartbeats 2000000 in
set_option maxRecDepth 100000 in
theorem writeB_c {B b : Nat} {l : Bs} {x : UInt8} {w : World} (h : Bld B b l w) (hl : l.length ≤ 1000000) (hBw : B ≤ w.heap.size) :
    Calls Tryz.prog 57 #[.pointer (some ⟨b, 0, none⟩), .int .u8 (x.toNat : Int)] w fun e w' => (∃ z, e = .returned z) ∧ Bld B b (l ++ [x]) w' ∧ Below B w w' ∧ Others b w w' := by
  obtain ⟨i0, hi, hz0, hz1, hz2⟩ := info_parts infoU8
  have hcp := copy_c h
  have hbl := byteCells_length l
  unfold Bld
  rw [byteCells_app]
  have hsc : Lib.byteCells [x] = [.int .u8 (x.toNat : Int)] := rfl
  generalize Lib.byteCells l = bs at *
  rw [hsc]
  clear h hsc
  go_enter Tryz.func57, Tryz.ntmps57
  go_wp2_with fail
  refine hcp.mono ?_
  rintro e w1 ⟨⟨z, rfl⟩, h1, hb1, hk1⟩
  obtain ⟨hB, v, hbk, hown, hne⟩ := h1
  have c0 : w1.cell? ⟨b, 0, none⟩ = some (.pointer (some ⟨b, 0, none⟩)) := by simp [World.cell?, hbk]
  have c1 : w1.cell? ⟨b, 1, none⟩ = some v := by simp [World.cell?, hbk]
  have hsz := hb1.size
  have hblt := lt_some hbk
  have HB1 := Lib.hid hb1
  have HK1 := Lib.hid hk1
  have HBK := Lib.hid hbk
  clear hb1 hk1 hbk hcp
  go_wp2_with (at_builtin; refine wpList_append_ownF _ rfl (.tmp 11) (.tmp 13) 24 rfl B 5 i0 (.int .u8 0) 1 1 Tryz.underlying24 hi hz0 hz1 hz2 rfl (by decide) v bs.length bs rfl (hown.alloc _) ⟨w1.heap.size, 0, none⟩ 1 1 [.int .u8 (x.toNat : Int)] rfl rfl (cell_one_new _ _ _) (by simp [Value.oneCell']) (by unfold maxLen; omega) (by omega) (by simp; omega) ?_)
  intro v' w2 hown' hgrow _
  have hrowA : ∀ g, v.ownBlock = some g → B ≤ g ∧ ∃ c fz, (w1.alloc (.cells #[.int .u8 (x.toNat : Int)] 5)).heap[g]? = some (.cells c 5 fz) := fun g hg => ⟨((hown.alloc (.cells #[.int .u8 (x.toNat : Int)] 5)).lt g hg).1, Lib.ownsRowF_kind (hown.alloc _) g hg⟩
  have hfin := bld_append (w3 := w2) hB (by omega) HBK.out hne (Below.heap_alloc _ _ _ hblt) (by simp) ((Below.refl B w1).alloc (by omega) _) ((Lib.OthersKept.refl _ _ w1).alloc _) hrowA hown' (by rw [List.length_append, hbl]; rfl) hgrow
  obtain ⟨d0, d1, f1, ⟨a', m', c', rfl⟩, q1, q2, q3⟩ := hfin
  have Q1 := Lib.hid q1
  have Q2 := Lib.hid (HB1.out.trans q2)
  have Q3 := Lib.hid (HK1.out.trans q3)
  clear q1 q2 q3 hown' hgrow hown hne c0 c1 hrowA
  go_wp2_with fail
  go_ret
  exact ⟨⟨_, rfl⟩, .inr Q1.out, Q2.out, Q3.out⟩

theorem string_c {B b : Nat} {l : Bs} {w : World} (h : Bld B b l w) (hBw : B ≤ w.heap.size) : Calls Tryz.prog 58 #[.pointer (some ⟨b, 0, none⟩)] w fun e w' => e = .returned (.string (mk l)) ∧ Below B w w' := by
  refine (shBuilderStringanyk B b l w h hBw).mono ?_
  rintro e w1 ⟨rfl, _, hb, _⟩
  exact ⟨rfl, hb⟩

theorem bld_new (w : World) : Bld w.heap.size w.heap.size [] (w.alloc (.cells #[.pointer none, .slice none 0 0] 104)) :=
  Lib.IsBuilderF.of (Lib.fresh_isBuilder _ _ w)
end Go.Proofs.YtgledabcfonbeaaGreatDoor.Df
