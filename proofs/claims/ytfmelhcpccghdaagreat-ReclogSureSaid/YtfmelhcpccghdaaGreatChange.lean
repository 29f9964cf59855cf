/-
  A CHANGE OF THE DIRECTORY.
-/
import Derived.Test.YtfmelhcpccghdaaGreatTurn
import Derived.Test.YtfmelhcpccghdaaGreatRight
import Derived.Deep.AppendLies
namespace Go.Proofs.YtfmelhcpccghdaaGreat
open Go.RowKit Go.Maps

variable {X : Nat → Prop} {K : Nat} {w : World} {p : Nat} {q : Pl} {d : Ds}

theorem DkAt.withChange {w' : World} {c : Ch} {cv : Value} {n : Nat} (h : DkAt X K w p q d) (hs : w.heap.size ≤ w'.heap.size) (hb : ∀ k, k < w.heap.size → k ≠ p → k ≠ q.m1 → q.cv.ownBlock ≠ some k → ¬ X k → w'.heap[k]? = w.heap[k]?)
    (hr : w'.heap[p]? = some (.cells (rootC (changed d c) { q with cv := cv }) 58 (0, 0))) (hn : n ≤ K + 1) (hnow : Dir w' n q.m1 (turn1 d.now c)) (hrow : w'.ownsRow 0 96 3 cv (d.changes ++ [c]).length (chsV (d.changes ++ [c])))
    (hcv : ∀ k, cv.ownBlock = some k → q.cv.ownBlock = some k ∨ w.heap.size ≤ k) (h1 : c.src.length ≤ 1000000) (h2 : c.dst.length ≤ 1000000)
    (hf : ∀ i, c.file = some i → FileAt X w i (q.bv i) (d.files i) ∧ ∀ j k, Ref d j → (q.bv i).ownBlock = some k → (q.bv j).ownBlock = some k → i = j) : DkAt X (K + 1) w' p { q with cv := cv } (changed d c) := by
  obtain ⟨n1, l1, d1⟩ := h.now
  obtain ⟨n2, l2, d2⟩ := h.sure
  obtain ⟨es1, c1, b1⟩ := d1.map
  obtain ⟨es2, c2, b2⟩ := d2.map
  have nrow : ∀ k c e z, w.heap[k]? = some (.cells c e z) → e ≠ 96 → q.cv.ownBlock ≠ some k := by
    intro k c e z hk he how
    obtain ⟨cur, hcur⟩ := row_elem h.chg how
    exact kind_ne hk hcur he rfl
  have nmap : ∀ k es c, w.heap[k]? = some (.map es c) → q.cv.ownBlock ≠ some k := by
    intro k es c hk how
    obtain ⟨cur, hcur⟩ := row_elem h.chg how
    exact map_ne hcur hk rfl
  have fkeep : ∀ i v f, FileAt X w i v f → FileAt X w' i v f := by
    intro i v f hi
    refine ⟨hi.off, (hb i (lt_of_some hi.cells) (kind_ne hi.cells h.root (by decide)) (map_ne hi.cells b1) (nrow _ _ _ _ hi.cells (by decide)) hi.off).trans hi.cells, row_kept hi.row fun k hk => ?_, hi.rowOff, hi.le, hi.len⟩
    obtain ⟨cur, hcur⟩ := row_elem hi.row hk
    exact hb k (lt_of_some hcur) (kind_ne hcur h.root (by decide)) (map_ne hcur b1) (nrow _ _ _ _ hcur (by decide)) (hi.rowOff k hk)
  refine ⟨fun k hk => Nat.lt_of_lt_of_le (h.inX k hk) hs, h.offp, h.off1, h.off2, fun k hk hX => ?_, h.ne, hr, ⟨n, hn, hnow⟩, ⟨n2, ?_, ?_⟩, hrow, ?_, fun i hi => ?_, ?_, by have := h.clock; show d.clock ≤ _; omega, by have := h.deeds; show d.deeds ≤ _; omega, h.quota⟩
  · rcases hcv k hk with e | e
    · exact h.offc k e hX
    · have := h.inX k hX; omega
  · show n2 + (d.changes ++ [c]).length ≤ _
    simp; omega
  · exact d2.kept (hb _ d2.lt (map_ne h.root b2).symm h.ne.symm (nmap _ _ _ b2) h.off2)
  · intro x hx
    rcases List.mem_append.1 hx with hx | hx
    · exact h.short x hx
    · rw [List.mem_singleton] at hx; subst hx; exact ⟨h1, h2⟩
  · rcases ref_changed hi with hi | hi
    · exact fkeep _ _ _ (h.file i hi)
    · exact fkeep _ _ _ (hf i hi).1
  · intro i j k hi hj ki kj
    rcases ref_changed hi with hi | hi
    · rcases ref_changed hj with hj | hj
      · exact h.apart i j k hi hj ki kj
      · exact ((hf j hj).2 i k hi kj ki).symm
    · rcases ref_changed hj with hj | hj
      · exact (hf i hi).2 j k hj ki kj
      · rw [hi] at hj; cases hj; rfl

theorem info86 : (Tryz.prog.info? 96).map (fun i => (i.zero, i.size, i.bytes)) = some (some (.agg #[.string ⟨#[]⟩, .string ⟨#[]⟩, .pointer none]), 3, 40) := by kernel_rfl

theorem change_end {w5 w6 w8 : World} {c : Ch} {n g cap N : Nat} {o : Obj} {fp : Option Addr} (h : DkAt X K w p q d) (hf : ∀ i, c.file = some i → FileAt X w i (q.bv i) (d.files i) ∧ ∀ j k, Ref d j → (q.bv i).ownBlock = some k → (q.bv j).ownBlock = some k → i = j)
    (hB : Below w.heap.size w w5) (hG : w5.grownBy w6 (some q.m1)) (hn : n ≤ K) (hd6 : Dir w6 (n + 1) q.m1 (turn1 d.now c)) (h1 : c.src.length ≤ 1000000) (h2 : c.dst.length ≤ 1000000) (hN : d.changes.length = N)
    (hg8 : (w6.alloc o).grownBy w8 q.cv.ownBlock) (hat : q.cv.ownBlock = some g ∨ w6.heap.size ≤ g) (hfp : ptr c.file = .pointer fp)
    (hown : w8.ownsRow 0 96 3 (.slice (some ⟨g, 0, none⟩) (N + 1) cap) (N + 1) (chsV d.changes ++ [.string (mk c.src), .string (mk c.dst), .pointer fp])) :
    Same X w (w8.setCell ⟨p, 7, none⟩ (.slice (some ⟨g, 0, none⟩) (N + 1) cap)) ∧ ∃ cv, DkAt X (K + 1) (w8.setCell ⟨p, 7, none⟩ (.slice (some ⟨g, 0, none⟩) (N + 1) cap)) p { q with cv := cv } (changed d c) := by
  have l0 := lt_of_some h.root
  obtain ⟨n1, e1, dd⟩ := h.now
  obtain ⟨es1, ck1, b1⟩ := dd.map
  have hcm : q.cv.ownBlock ≠ some q.m1 := fun e => by obtain ⟨cur, hcur⟩ := row_elem h.chg e; exact map_ne hcur b1 rfl
  have hcp : q.cv.ownBlock ≠ some p := fun e => by obtain ⟨cur, hcur⟩ := row_elem h.chg e; exact kind_ne hcur h.root (by decide) rfl
  have hpm : p ≠ q.m1 := map_ne h.root b1
  have hs8 : w.heap.size ≤ w8.heap.size := by have a1 := hB.size; have a2 := hG.size; have a3 := hg8.size; simp at a3; omega
  have step : ∀ k, k < w.heap.size → k ≠ q.m1 → q.cv.ownBlock ≠ some k → w8.heap[k]? = w.heap[k]? := by
    intro k hk hm hc
    have a1 := hB.size
    have a2 := hG.size
    rw [hg8.block k (by simp; omega) (Ne.symm hc), Below.heap_alloc w6 o k (by omega), hG.block k (by omega) (by simp; exact hm), hB.block k hk]
  have hroot8 : w8.heap[p]? = some (.cells (rootC d q) 58 (0, 0)) := (step p l0 hpm hcp).trans h.root
  have hsz9 : (w8.setCell ⟨p, 7, none⟩ (.slice (some ⟨g, 0, none⟩) (N + 1) cap)).heap.size = w8.heap.size := by simp [World.setCell]
  have o9 : ∀ k, k ≠ p → (w8.setCell ⟨p, 7, none⟩ (.slice (some ⟨g, 0, none⟩) (N + 1) cap)).heap[k]? = w8.heap[k]? := fun k hk => Below.heap_setCell _ _ _ _ hk
  refine ⟨?_, .slice (some ⟨g, 0, none⟩) (N + 1) cap, ?_⟩
  · refine ⟨(by show w8.os = _; rw [hg8.os]; exact hG.os.trans hB.os), (by show w8.tape = _; rw [hg8.tape]; exact hG.tape.trans hB.tape), (by show w8.output = _; rw [hg8.output]; exact hG.output.trans hB.output), by rw [hsz9]; exact hs8, fun k hk hX => ?_⟩
    rw [o9 k (by rintro rfl; exact h.offp hX)]
    exact step k hk (by rintro rfl; exact h.off1 hX) (fun e => h.offc k e hX)
  · have hrow9 : (w8.setCell ⟨p, 7, none⟩ (.slice (some ⟨g, 0, none⟩) (N + 1) cap)).ownsRow 0 96 3 (.slice (some ⟨g, 0, none⟩) (N + 1) cap) (d.changes ++ [c]).length (chsV (d.changes ++ [c])) := by
      have e1 : (d.changes ++ [c]).length = N + 1 := by simp [hN]
      have e2 : chsV (d.changes ++ [c]) = chsV d.changes ++ [.string (mk c.src), .string (mk c.dst), .pointer fp] := by simp [chsV, chV, hfp]
      rw [e1, e2]
      refine row_kept hown fun k hk => o9 k ?_
      rintro rfl
      obtain ⟨cur, hcur⟩ := row_elem hown hk
      exact kind_ne hcur hroot8 (by decide) rfl
    refine h.withChange (n := n + 1) (by rw [hsz9]; exact hs8) (fun k hk a b c' _ => (o9 k a).trans (step k hk b c')) ?_ (by omega) ?_ hrow9 ?_ h1 h2 hf
    · exact heap_set_same hroot8 7 _
    · refine hd6.kept ?_
      rw [o9 q.m1 hpm.symm, hg8.block q.m1 (by have := hd6.lt; simp; omega) (Ne.symm hcm)]
      exact Below.heap_alloc _ _ _ hd6.lt
    · intro k hk
      have : g = k := by simpa [Value.ownBlock] using hk
      subst this
      rcases hat with e | e
      · exact .inl e
      · right; have a1 := hB.size; have a2 := hG.size; omega

set_option maxRecDepth 100000 in
set_option maxHeartbeats 4000000 in
theorem change_at (h : DkAt X K w p q d) (hK : K < 1000) {c : Ch} (h1 : c.src.length ≤ 1000000) (h2 : c.dst.length ≤ 1000000)
    (hf : ∀ i, c.file = some i → FileAt X w i (q.bv i) (d.files i) ∧ ∀ j k, Ref d j → (q.bv i).ownBlock = some k → (q.bv j).ownBlock = some k → i = j) :
    Calls Tryz.prog 60 #[.pointer (some ⟨p, 0, none⟩), .agg #[.string (mk c.src), .string (mk c.dst), ptr c.file]] w fun e w' => (∃ x, e = .returned x) ∧ Same X w w' ∧ ∃ cv, DkAt X (K + 1) w' p { q with cv := cv } (changed d c) := by
  obtain ⟨a, b, fo⟩ := c
  simp only at h1 h2 hf ⊢
  have hz1 : (mk a).size ≤ 281474976710656 := by rw [mk_size]; omega
  have hz2 : (mk b).size ≤ 281474976710656 := by rw [mk_size]; omega
  obtain ⟨fv, hfv⟩ : ∃ fv, ptr fo = fv := ⟨_, rfl⟩
  obtain ⟨fp, hfp⟩ : ∃ fp, fv = .pointer fp := ⟨_, hfv.symm⟩
  subst hfp
  have HFV := Lib.hid hfv
  rw [hfv]
  have HD := Lib.hid h
  have HF := Lib.hid hf
  have hpl := lt_of_some h.root
  clear h hf hfv
  go_enter Tryz.func60, Tryz.ntmps60
  go_wp2_with fail
  have tok1 : True := trivial
  generalize hB : w.heap.size = B at *
  have b0 : (w.alloc (.cells #[.string (mk a), .string (mk b), .pointer fp] 96)).heap.size = B + 1 := by simp [hB]
  have k0 : (w.alloc (.cells #[.string (mk a), .string (mk b), .pointer fp] 96)).cell? ⟨B, 0, none⟩ = some (.string (mk a)) := by rw [← hB]; exact cell_at_new _ _ _ _ _ rfl
  have k1 : (w.alloc (.cells #[.string (mk a), .string (mk b), .pointer fp] 96)).cell? ⟨B, 1, none⟩ = some (.string (mk b)) := by rw [← hB]; exact cell_at_new _ _ _ _ _ rfl
  have k2 : (w.alloc (.cells #[.string (mk a), .string (mk b), .pointer fp] 96)).cell? ⟨B, 2, none⟩ = some (.pointer fp) := by rw [← hB]; exact cell_at_new _ _ _ _ _ rfl
  have bl : B < (w.alloc (.cells #[.string (mk a), .string (mk b), .pointer fp] 96)).heap.size := by omega
  have z0 : (w.alloc (.cells #[.string (mk a), .string (mk b), .pointer fp] 96)).frozen? ⟨B, 0, none⟩ = false := by rw [← hB]; exact frozen_of (heap_alloc_new w _) 0
  have z1 : (w.alloc (.cells #[.string (mk a), .string (mk b), .pointer fp] 96)).frozen? ⟨B, 1, none⟩ = false := by rw [← hB]; exact frozen_of (heap_alloc_new w _) 1
  go_region_held3 (fun w' => w'.cell? ⟨B, 0, none⟩ = some (.string (mk a)) ∧ w'.cell? ⟨B, 1, none⟩ = some (.string (mk b))) (first | exact ⟨k0, k1⟩ | exact ⟨m0, m1⟩ | exact ⟨n0, n1⟩ | exact ⟨v0, v1⟩ | exact ⟨u0, u1⟩)
    (first
      | (have _t := tok1; go_at_call 21; refine (clone_c (mk a) _ hz1).mono ?_; rintro e w2 ⟨rfl, hb2⟩; have l2 : B < w2.heap.size := Nat.lt_of_lt_of_le bl hb2.size; have m0 := (hb2.cell (p := ⟨B, 0, none⟩) bl).trans k0; have m1 := (hb2.cell (p := ⟨B, 1, none⟩) bl).trans k1; clear tok1)
      | (go_at_call 21; refine (clone_c (mk b) _ hz2).mono ?_; rintro e w3 ⟨rfl, hb3⟩; have n0 := (hb3.cell (p := ⟨B, 0, none⟩) l2).trans m0; have n1 := (hb3.cell (p := ⟨B, 1, none⟩) l2).trans m1;
          have y0 := (hb3.frozen (p := ⟨B, 0, none⟩) l2).trans ((hb2.frozen (p := ⟨B, 0, none⟩) bl).trans z0); have y1 := (hb3.frozen (p := ⟨B, 1, none⟩) l2).trans ((hb2.frozen (p := ⟨B, 1, none⟩) bl).trans z1);
          have v0 : (w3.setCell ⟨B, 0, none⟩ (.string (mk a))).cell? ⟨B, 0, none⟩ = some (.string (mk a)) := set_same n0;
          have v1 : (w3.setCell ⟨B, 0, none⟩ (.string (mk a))).cell? ⟨B, 1, none⟩ = some (.string (mk b)) := set_off (by decide) n1;
          have u0 : ((w3.setCell ⟨B, 0, none⟩ (.string (mk a))).setCell ⟨B, 1, none⟩ (.string (mk b))).cell? ⟨B, 0, none⟩ = some (.string (mk a)) := set_off (by decide) v0;
          have u1 : ((w3.setCell ⟨B, 0, none⟩ (.string (mk a))).setCell ⟨B, 1, none⟩ (.string (mk b))).cell? ⟨B, 1, none⟩ = some (.string (mk b)) := set_same v1;
          have g2 := (hb3.cell (p := ⟨B, 2, none⟩) l2).trans ((hb2.cell (p := ⟨B, 2, none⟩) bl).trans k2);
          have u2 : ((w3.setCell ⟨B, 0, none⟩ (.string (mk a))).setCell ⟨B, 1, none⟩ (.string (mk b))).cell? ⟨B, 2, none⟩ = some (.pointer fp) := set_off (by decide) (set_off (by decide) g2)))
  have hw5 : Below B w ((w3.setCell ⟨B, 0, none⟩ (.string (mk a))).setCell ⟨B, 1, none⟩ (.string (mk b))) := by
    rw [← hB] at *
    exact ((((below_alloc w _).drew.trans (hb2.mono (by show w.heap.size ≤ _; exact Nat.le_of_lt bl))).trans (hb3.mono (Nat.le_of_lt l2))).setCell (p := ⟨w.heap.size, 0, none⟩) (Nat.le_refl _) _).setCell (p := ⟨w.heap.size, 1, none⟩) (Nat.le_refl _) _
  have l5 : B < ((w3.setCell ⟨B, 0, none⟩ (.string (mk a))).setCell ⟨B, 1, none⟩ (.string (mk b))).heap.size := by
    have := hb3.size; simp only [World.setCell, Array.size_modify]; omega
  clear k0 k1 k2 z0 z1 hb2 hb3 m0 m1 n0 n1 y0 y1 v0 v1 g2 bl b0 _t l2
  generalize ((w3.setCell ⟨B, 0, none⟩ (.string (mk a))).setCell ⟨B, 1, none⟩ (.string (mk b))) = w5 at *
  clear w2 w3
  have hd5 : DkAt X K w5 p q d := HD.out.keep (by rw [hB]; exact hw5)
  obtain ⟨_, _, _, _, _, c5, _, c7⟩ := hd5.cells
  obtain ⟨n, hn, hdir⟩ := hd5.now
  have HN := Lib.hid hn
  have hne1 : p ≠ q.m1 := by obtain ⟨es, ck, e⟩ := hdir.map; exact map_ne hd5.root e
  have hml : q.m1 < B := by obtain ⟨_, _, e⟩ := HD.out.now; have := e.lt; omega
  have hdx := hdir.kept (w' := (w5.alloc (.cells #[.string (mk a), .string (mk b), .pointer fp] 96)).drew) (Below.heap_alloc _ _ _ (by omega))
  have hcr : CRow (w5.alloc (.cells #[.string (mk a), .string (mk b), .pointer fp] 96)).drew (.slice (some ⟨w5.heap.size, 0, none⟩) 1 1) [⟨a, b, fo⟩] := by
    refine ⟨_, _, rfl, .inr ⟨_, rfl, by show w5.heap.size < (w5.alloc _).heap.size; simp, fun j c hc => ?_⟩⟩
    match j, hc with
    | 0, hc =>
      simp at hc
      subst hc
      exact ⟨cell_at_new w5 _ _ _ _ rfl, cell_at_new w5 _ _ _ _ rfl, (cell_at_new w5 _ _ _ _ rfl).trans (by rw [HFV.out]; rfl)⟩
  have hm2 : q.m1 ≠ w5.heap.size := by omega
  have htc := turn_c hdx hcr (by simp; omega) (by intro c hc; simp at hc; subst hc; exact ⟨by unfold maxLen; simp only; omega, by unfold maxLen; simp only; omega⟩) (by intro g hg; simp [Value.ownBlock] at hg; omega)
  have e1 : n + [(⟨a, b, fo⟩ : Ch)].length = n + 1 := rfl
  have e2 : turns d.now [⟨a, b, fo⟩] = turn1 d.now ⟨a, b, fo⟩ := rfl
  rw [e1, e2] at htc
  clear e1 e2 hcr hdx hdir hn
  have HW5 := Lib.hid hw5
  have HD5 := Lib.hid hd5
  have HB := Lib.hid hB
  clear hw5 hd5 hB
  go_wp2_with fail
  have x5 := alloc_cell (.cells #[.string (mk a), .string (mk b), .pointer fp] 96) c5
  have x0 := alloc_cell (.cells #[.string (mk a), .string (mk b), .pointer fp] 96) u0
  have x1 := alloc_cell (.cells #[.string (mk a), .string (mk b), .pointer fp] 96) u1
  have x2 := alloc_cell (.cells #[.string (mk a), .string (mk b), .pointer fp] 96) u2
  go_region_held3 (fun w' => w'.cell? ⟨p, 5, none⟩ = some (.map (some q.m1)) ∧ w'.cell? ⟨B, 0, none⟩ = some (.string (mk a)) ∧ w'.cell? ⟨B, 1, none⟩ = some (.string (mk b)) ∧ w'.cell? ⟨B, 2, none⟩ = some (.pointer fp))
    (first | exact ⟨c5, u0, u1, u2⟩ | exact ⟨x5, x0, x1, x2⟩ | exact ⟨t5, t0, t1, t2⟩)
    (first
      | (go_at_call 61; refine htc.mono ?_; rintro e w6 ⟨⟨xx, rfl⟩, hd6, hg6⟩;
          have t5 := hg6.cell x5 (by simp; exact hne1); have t0 := hg6.cell x0 (by simp; omega); have t1 := hg6.cell x1 (by simp; omega); have t2 := hg6.cell x2 (by simp; omega)))
  have hG : w5.grownBy w6 (some q.m1) := (World.grownBy_alloc w5 _ _).trans (grown_undrew hg6)
  have hpl5 : p < w5.heap.size := by omega
  have t7 := hG.cell c7 (by simp; exact hne1)
  have tf : w6.frozen? ⟨p, 7, none⟩ = false := (World.frozen?_of_block (hG.block p hpl5 (by simp; exact hne1))).trans (frozen_of HD5.out.root 7)
  have hrow6 : w6.ownsRow 0 96 3 q.cv d.changes.length (chsV d.changes) := row_kept HD5.out.chg fun k hk => hG.block k (row_lt HD5.out.chg hk) (by
    obtain ⟨cur, hcur⟩ := row_elem HD5.out.chg hk
    obtain ⟨_, _, e⟩ := HD5.out.now
    obtain ⟨es, ck, e⟩ := e.map
    simp only [ne_eq, Option.some.injEq]
    exact map_ne hcur e)
  have hlen : d.changes.length ≤ 1000 := by obtain ⟨_, e, _⟩ := HD5.out.sure; omega
  have hl6 : w5.heap.size < w6.heap.size := by have := hg6.size; have e : (w5.alloc (.cells #[.string (mk a), .string (mk b), .pointer fp] 96)).drew.heap.size = w5.heap.size + 1 := by show (w5.alloc _).heap.size = _; simp
                                               omega
  have hp6 := hne1
  obtain ⟨i0, hi, hz0, hz1, hz2⟩ := info_parts info86
  have HG6 := Lib.hid hG
  clear x5 x0 x1 x2 hg6 hG htc u0 u1 u2 c5 c7 hm2
  generalize hN : d.changes.length = N at *
  have HNN := Lib.hid hN
  clear hN
  have f63 : N + 1 ≤ maxLen := by unfold maxLen; omega
  have fby : (N + 1) * 40 ≤ 140737488355328 := by omega
  have hone : ∀ u ∈ [Value.string (mk a), .string (mk b), .pointer fp], u.oneCell' = true := by
    intro u hu
    simp at hu
    rcases hu with rfl | rfl | rfl <;> rfl
  have hnews : ∀ j u, [Value.string (mk a), .string (mk b), .pointer fp][j]? = some u → (w6.alloc (.cells #[.string (mk a), .string (mk b), .pointer fp] 96)).drew.cell? ((⟨w6.heap.size, 0, none⟩ : Addr).add j) = some u :=
    fun j u hu => World.news_of_block (w := (w6.alloc (.cells #[.string (mk a), .string (mk b), .pointer fp] 96)).drew) (cs := #[.string (mk a), .string (mk b), .pointer fp]) (t := 96) (fr := (0, 0)) (heap_alloc_new w6 _) j u hu
  have hrowD : (w6.alloc (.cells #[.string (mk a), .string (mk b), .pointer fp] 96)).drew.ownsRow 0 96 3 q.cv N (chsV d.changes) := hrow6.alloc _
  have hpc : some p ≠ q.cv.ownBlock := fun e => by
    obtain ⟨cur, hcur⟩ := row_elem HD5.out.chg e.symm
    exact kind_ne hcur HD5.out.root (by decide) rfl
  have s7 := alloc_cell (.cells #[.string (mk a), .string (mk b), .pointer fp] 96) t7
  have sf := (alloc_frozen (w := w6) (a := ⟨p, 7, none⟩) (.cells #[.string (mk a), .string (mk b), .pointer fp] 96) (by show p < _; omega)).trans tf
  have HONE := Lib.hid hone
  have HNEWS := Lib.hid hnews
  clear hone hnews
  go_wp2_with fail
  go_region_law (first
    | (refine step_append_lies _ rfl (.tmp 23) (.tmp 25) 56 rfl 0 96 i0 (.agg #[.string ⟨#[]⟩, .string ⟨#[]⟩, .pointer none]) 3 40 Tryz.underlying56 hi hz0 hz1 hz2 rfl (by decide) q.cv N (chsV d.changes) (by simp [Act.eval]) hrowD ⟨w6.heap.size, 0, none⟩ 1 1 [.string (mk a), .string (mk b), .pointer fp] (by simp [Act.eval]) rfl HNEWS.out HONE.out (by decide) f63 fby (Nat.zero_le _) _ rfl ?_; intro g cap w8 hown8 hg8 hat8 hlt8;
        have r7 := hg8.cell s7 hpc; have rf := (World.frozen?_of_block (a := ⟨p, 7, none⟩) (hg8.block p (by show p < (w6.alloc _).heap.size; simp; omega) hpc)).trans sf))
  all_goals
    go_wp2
    go_end0
    have hB' := HW5.out
    rw [← HB.out] at hB'
    have hs6 : w6.heap.size ≤ (w6.alloc (.cells #[.string (mk a), .string (mk b), .pointer fp] 96)).drew.heap.size := by show w6.heap.size ≤ (w6.alloc _).heap.size; simp
    exact ⟨⟨_, rfl⟩, change_end (c := ⟨a, b, fo⟩) HD.out HF.out hB' HG6.out HN.out hd6 h1 h2 HNN.out (grown_undrew hg8) (hat8.imp id (fun e => by omega)) HFV.out hown8⟩
end Go.Proofs.YtfmelhcpccghdaaGreat
