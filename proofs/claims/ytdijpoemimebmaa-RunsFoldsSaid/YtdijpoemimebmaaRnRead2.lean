/-
  runs.Read, WALKED: the closures that put what is read to the run.
-/
import Derived.Test.YtdijpoemimebmaaRnRead
import Derived.Test.YtdijpoemimebmaaRgLate
import Derived.Deep.AppendLies
namespace Go.Proofs.Ytdijpoemimebmaa.Rn
open Go.RowKit
open Go.Proofs.Ytdijpoemimebmaa.Cr

/-- inputs, and times, as cells -/
def insV (L : List (ByteArray × Nat)) : List Value := L.flatMap fun x => [.string x.1, .int .i64 (tmI x.2)]
def fdsV (L : List Nat) : List Value := L.map fun n => .int .i64 (tmI n)

theorem insV_length (L : List (ByteArray × Nat)) : (insV L).length = L.length * 2 := by
  induction L with
  | nil => rfl
  | cons x L ih =>
    have : insV (x :: L) = [.string x.1, .int .i64 (tmI x.2)] ++ insV L := rfl
    rw [this, List.length_append, ih, List.length_cons]
    simp
    omega

theorem info59 : (Try.prog.info? 59).map (fun i => (i.zero, i.size, i.bytes)) = some (some (.agg #[.string ⟨#[]⟩, .int .i64 0]), 2, 24) := by kernel_rfl
theorem info3 : (Try.prog.info? 3).map (fun i => (i.zero, i.size, i.bytes)) = some (some (.int .i64 0), 1, 8) := by kernel_rfl

section
variable {W W1 W2 : World} {p g b4 b5 b6 b9 base : Nat} {s s' : St} {o c : ByteArray} {t m : Int} {L : List (ByteArray × Nat)} {F : List Nat} {vi vf : Value}

/-- the box of the run, its rows -/
structure BoxS (W : World) (b9 base : Nat) (o c : ByteArray) (t m : Int) (vi vf : Value) (L : List (ByteArray × Nat)) (F : List Nat) : Prop where
  box : W.heap[b9]? = some (.cells #[.string o, .string c, .int .i64 t, .int .i64 m, vi, vf] 33 (0, 0))
  ins : W.ownsRow base 59 2 vi L.length (insV L)
  fds : W.ownsRow base 3 1 vf F.length (fdsV F)

theorem BoxS.off {C : Nat → Prop} (h : BoxS W b9 base o c t m vi vf L F) (ho : Off C W W1) (hb9 : base ≤ b9) (hC : ∀ k, C k → k < base) : BoxS W1 b9 base o c t m vi vf L F :=
  ⟨(ho.block _ (lt_some h.box) fun hc => by have := hC _ hc; omega).trans h.box,
   owns_kept h.ins fun g hg => by obtain ⟨hb, cur, hc⟩ := owns_block h.ins hg; exact ho.block g (lt_some hc) fun hcc => by have := hC _ hcc; omega,
   owns_kept h.fds fun g hg => by obtain ⟨hb, cur, hc⟩ := owns_block h.fds hg; exact ho.block g (lt_some hc) fun hcc => by have := hC _ hcc; omega⟩

theorem BoxS.drew (h : BoxS W b9 base o c t m vi vf L F) : BoxS W.drew b9 base o c t m vi vf L F := ⟨h.box, h.ins, h.fds⟩

theorem boxOnly (h : BoxS W b9 base o c t m vi vf L F) (ho : Pk.Only p W W1) (hb9 : base ≤ b9) (hp : p < base) : BoxS W1 b9 base o c t m vi vf L F :=
  h.off (only_off (C := fun k => k = p) ho rfl) hb9 (by rintro k rfl; exact hp)
theorem offTime (ho : Off (fun k => k = p ∨ k = b5) W W1) : Off (fun k => k = p ∨ k = b5 ∨ base ≤ k) W W1 :=
  ⟨ho.os, ho.tape, ho.output, ho.size, fun k hk hc => ho.block k hk fun h => hc (by rcases h with h | h; exact .inl h; exact .inr (.inl h))⟩
theorem boxTime (h : BoxS W b9 base o c t m vi vf L F) (ho : Off (fun k => k = p ∨ k = b5) W W1) (hb9 : base ≤ b9) (hp : p < base) (h5 : b5 < base) : BoxS W1 b9 base o c t m vi vf L F :=
  h.off ho hb9 (by rintro k (rfl | rfl) <;> assumption)

theorem keepI (h : BoxS W b9 base o c t m vi vf L F) (hr : RdS W p g b4 b5 b6 s) : W.cell? ⟨b9, 4, Option.none⟩ = some vi ∧ W.cell? ⟨b4, 0, Option.none⟩ = some (.pointer (some ⟨p, 0, Option.none⟩)) ∧ W.cell? ⟨b6, 0, Option.none⟩ = some (.func (.func 40) #[] #[.pointer (some ⟨b4, 0, Option.none⟩), .pointer (some ⟨b5, 0, Option.none⟩)]) :=
  ⟨by simp [World.cell?, h.box], (one_cell hr.h4).1, (one_cell hr.h6).1⟩

theorem keepI_heap (h : BoxS W b9 base o c t m vi vf L F) (hr : RdS W p g b4 b5 b6 s) (hk : ∀ k, k = b9 ∨ k = b4 ∨ k = b6 → W1.heap[k]? = W.heap[k]?) : W1.cell? ⟨b9, 4, Option.none⟩ = some vi ∧ W1.cell? ⟨b4, 0, Option.none⟩ = some (.pointer (some ⟨p, 0, Option.none⟩)) ∧ W1.cell? ⟨b6, 0, Option.none⟩ = some (.func (.func 40) #[] #[.pointer (some ⟨b4, 0, Option.none⟩), .pointer (some ⟨b5, 0, Option.none⟩)]) := by
  obtain ⟨h1, h2, h3⟩ := keepI h hr
  exact ⟨(cell_of_block (hk _ (.inl rfl))).trans h1, (cell_of_block (hk _ (.inr (.inl rfl)))).trans h2, (cell_of_block (hk _ (.inr (.inr rfl)))).trans h3⟩

theorem RdS.off {C : Nat → Prop} (h : RdS W p g b4 b5 b6 s) (ho : Off C W W1) (hp : ¬ C p) (hg : ¬ C g) (h4 : ¬ C b4) (h5 : ¬ C b5) (h6 : ¬ C b6) : RdS W1 p g b4 b5 b6 s := by
  refine ⟨?_, (ho.block _ (lt_some h.h4) h4).trans h.h4, (ho.block _ (lt_some h.h5) h5).trans h.h5, (ho.block _ (lt_some h.h6) h6).trans h.h6, h.lt, h.len, h.g5⟩
  obtain ⟨hne, hlt, v, hv, hr⟩ := h.rd
  refine ⟨hne, Nat.lt_of_lt_of_le hlt ho.size, v, (ho.block _ (lt_some hv) hp).trans hv, ?_⟩
  rcases hr with h | ⟨off, c, e, hc, hcell⟩
  · exact .inl h
  · exact .inr ⟨off, c, e, hc, fun i hi => (cell_of_block (ho.block g hlt hg)).trans (hcell i hi)⟩

/-- the cell of an input that was laid, and what is appended -/
theorem in_news (W : World) (n : ByteArray) (t : Int) : (∀ j u, [Value.string n, .int .i64 t][j]? = some u → (W.alloc (.cells #[.string n, .int .i64 t] 59)).cell? ((⟨W.heap.size, 0, Option.none⟩ : Addr).add j) = some u) ∧ (∀ u ∈ [Value.string n, .int .i64 t], u.oneCell' = true) :=
  ⟨fun j u hu => World.news_of_block (w := W.alloc (.cells #[.string n, .int .i64 t] 59)) (cs := #[.string n, .int .i64 t]) (t := 59) (fr := (0, 0)) (heap_alloc_new W _) j u hu, by
    intro u hu
    simp at hu
    rcases hu with rfl | rfl <;> rfl⟩

theorem off_alloc (W : World) (o : Obj) (_hb : base ≤ W.heap.size) : Off (fun k => k = p ∨ k = b5 ∨ base ≤ k) W (W.alloc o) :=
  ⟨rfl, rfl, rfl, by simp, fun k hk _ => Below.heap_alloc _ _ k hk⟩

theorem grown_off {v : Value} (hown : W.ownsRow base 59 2 v L.length (insV L)) (hg : W.grownBy W1 v.ownBlock) : Off (fun k => k = p ∨ k = b5 ∨ base ≤ k) W W1 :=
  ⟨hg.os, hg.tape, hg.output, hg.size, fun k hk hc => hg.block k hk fun e => hc (.inr (.inr (owns_block hown e.symm).1))⟩

theorem grown_offF {v : Value} (hown : W.ownsRow base 3 1 v F.length (fdsV F)) (hg : W.grownBy W1 v.ownBlock) : Off (fun k => k = p ∨ k = b5 ∨ base ≤ k) W W1 :=
  ⟨hg.os, hg.tape, hg.output, hg.size, fun k hk hc => hg.block k hk fun e => hc (.inr (.inr (owns_block hown e.symm).1))⟩

/-- behind the appending -/
theorem app_conj {ob : Obj} (h : BoxS W b9 base o c t m vi vf L F) (hr : RdS W p g b4 b5 b6 s) (hg : (W.alloc ob).grownBy W1 vi.ownBlock) (h4 : b4 < base) (h6 : b6 < base) :
    (W1.cell? ⟨b9, 4, Option.none⟩ = some vi ∧ W1.cell? ⟨b4, 0, Option.none⟩ = some (.pointer (some ⟨p, 0, Option.none⟩)) ∧ W1.cell? ⟨b6, 0, Option.none⟩ = some (.func (.func 40) #[] #[.pointer (some ⟨b4, 0, Option.none⟩), .pointer (some ⟨b5, 0, Option.none⟩)])) ∧ W1.frozen? ⟨b9, 4, Option.none⟩ = false ∧ W1.heap[b9]? = W.heap[b9]? := by
  have hal : ∀ k, k < W.heap.size → (W.alloc ob).heap[k]? = W.heap[k]? := fun k hk => Below.heap_alloc _ _ k hk
  have hk : ∀ k, k < W.heap.size → some k ≠ vi.ownBlock → W1.heap[k]? = W.heap[k]? := fun k hk hne => (hg.block k (by simp; omega) hne).trans (hal k hk)
  have e9 : W1.heap[b9]? = W.heap[b9]? := hk _ (lt_some h.box) fun e => by
    obtain ⟨_, cur, hc⟩ := owns_block h.ins e.symm
    exact ne_type h.box hc (by decide) rfl
  have e4 : W1.heap[b4]? = W.heap[b4]? := hk _ (lt_some hr.h4) fun e => by have := (owns_block h.ins e.symm).1; omega
  have e6 : W1.heap[b6]? = W.heap[b6]? := hk _ (lt_some hr.h6) fun e => by have := (owns_block h.ins e.symm).1; omega
  refine ⟨keepI_heap h hr (by rintro k (rfl | rfl | rfl) <;> assumption), ?_, e9⟩
  simp [World.frozen?, e9, h.box]

theorem in_end {ob : Obj} {vn : Value} {x : ByteArray × Nat} (h : BoxS W b9 base o c t m vi vf L F) (hr : RdS W p g b4 b5 b6 s) (hg : (W.alloc ob).grownBy W1 vi.ownBlock) (hb9 : base ≤ b9) (hp : p < base) (hgb : g < base) (h4 : b4 < base) (h5 : b5 < base) (h6 : b6 < base)
    (hown : W1.ownsRow base 59 2 vn (L.length + 1) (insV L ++ [.string x.1, .int .i64 (tmI x.2)])) (hne : ∀ k, vf.ownBlock = some k → some k ≠ vi.ownBlock) :
    RdS (W1.setCell ⟨b9, 4, Option.none⟩ vn) p g b4 b5 b6 s ∧ BoxS (W1.setCell ⟨b9, 4, Option.none⟩ vn) b9 base o c t m vn vf (L ++ [x]) F ∧ Off (fun k => k = p ∨ k = b5 ∨ base ≤ k) W (W1.setCell ⟨b9, 4, Option.none⟩ vn) := by
  obtain ⟨_, _, e9⟩ := app_conj h hr hg h4 h6
  have hal : ∀ k, k < W.heap.size → (W.alloc ob).heap[k]? = W.heap[k]? := fun k hk => Below.heap_alloc _ _ k hk
  have hk : ∀ k, k < W.heap.size → some k ≠ vi.ownBlock → W1.heap[k]? = W.heap[k]? := fun k hk hne => (hg.block k (by simp; omega) hne).trans (hal k hk)
  have hoff : Off (fun k => base ≤ k) W (W1.setCell ⟨b9, 4, Option.none⟩ vn) := by
    refine Off.trans (b := W1) ⟨hg.os, hg.tape, hg.output, Nat.le_trans (by simp) hg.size, fun k hkk hc => hk k hkk fun e => hc (owns_block h.ins e.symm).1⟩ (off_set hb9)
  have h9 : W1.heap[b9]? = some (.cells #[.string o, .string c, .int .i64 t, .int .i64 m, vi, vf] 33 (0, 0)) := e9.trans h.box
  refine ⟨hr.off hoff (by omega) (by omega) (by omega) (by omega) (by omega), ⟨?_, ?_, ?_⟩, ⟨hoff.os, hoff.tape, hoff.output, hoff.size, fun k hkk hc => hoff.block k hkk fun h => hc (.inr (.inr h))⟩⟩
  · have := Pk.set_block (j := 4) (u := vn) h9
    simpa using this
  · rw [List.length_append, List.length_singleton]
    have e : insV (L ++ [x]) = insV L ++ [.string x.1, .int .i64 (tmI x.2)] := by simp [insV]
    rw [e]
    refine owns_kept hown fun k hkk => set_other fun e => ?_
    obtain ⟨_, cur, hc⟩ := owns_block hown hkk
    rw [e] at hc
    exact ne_type h9 hc (by decide) rfl
  · refine owns_kept h.fds fun k hkk => ?_
    obtain ⟨_, cur, hc⟩ := owns_block h.fds hkk
    exact (set_other fun e => by rw [e] at hc; exact ne_type h.box hc (by decide) rfl).trans (hk k (lt_some hc) (hne k hkk))

theorem ins_fds (h : BoxS W b9 base o c t m vi vf L F) : ∀ k, vf.ownBlock = some k → some k ≠ vi.ownBlock := fun k hk e => by
  obtain ⟨_, c1, h1⟩ := owns_block h.fds hk
  obtain ⟨_, c2, h2⟩ := owns_block h.ins e.symm
  exact ne_type h1 h2 (by decide) rfl

theorem alloc_conj {ob : Obj} (h : BoxS W b9 base o c t m vi vf L F) (hr : RdS W p g b4 b5 b6 s) : (W.alloc ob).cell? ⟨b9, 4, Option.none⟩ = some vi ∧ (W.alloc ob).cell? ⟨b4, 0, Option.none⟩ = some (.pointer (some ⟨p, 0, Option.none⟩)) ∧ (W.alloc ob).cell? ⟨b6, 0, Option.none⟩ = some (.func (.func 40) #[] #[.pointer (some ⟨b4, 0, Option.none⟩), .pointer (some ⟨b5, 0, Option.none⟩)]) :=
  keepI_heap h hr (fun k hk => Below.heap_alloc _ _ k (by rcases hk with rfl | rfl | rfl; exact lt_some h.box; exact lt_some hr.h4; exact lt_some hr.h6))

/-- all that stands while an input is read -/
structure Mid (W0 W : World) (p g b4 b5 b6 b9 base : Nat) (o c : ByteArray) (t m : Int) (vi vf : Value) (L : List (ByteArray × Nat)) (F : List Nat) (s : St) : Prop where
  rd : RdS W p g b4 b5 b6 s
  bx : BoxS W b9 base o c t m vi vf L F
  of : Off (fun k => k = p ∨ k = b5 ∨ base ≤ k) W0 W
  hb : base ≤ W.heap.size

theorem midText {W0 : World} (h : Mid W0 W p g b4 b5 b6 b9 base o c t m vi vf L F s) (hb9 : base ≤ b9) (hp : p < base) :
    Calls Try.prog 45 #[.pointer (some ⟨p, 0, Option.none⟩)] W fun e W' => e = .returned (.string s.tx) ∧ Mid W0 W' p g b4 b5 b6 b9 base o c t m vi vf L F s.text :=
  (text_c h.rd).mono fun _ _ ⟨he, hr, ho⟩ => ⟨he, hr, boxOnly h.bx ho hb9 hp, h.of.trans (only_off ho (.inl rfl)), Nat.le_trans h.hb ho.size⟩

theorem midTime {W0 : World} (h : Mid W0 W p g b4 b5 b6 b9 base o c t m vi vf L F s) (hb9 : base ≤ b9) (hp : p < base) (h5 : b5 < base) :
    Calls Try.prog 40 #[.pointer (some ⟨b4, 0, Option.none⟩), .pointer (some ⟨b5, 0, Option.none⟩)] W fun e W' => e = .returned (.int .i64 (tmI s.tm)) ∧ Mid W0 W' p g b4 b5 b6 b9 base o c t m vi vf L F s.time :=
  (time_c h.rd).mono fun _ _ ⟨he, hr, ho⟩ => ⟨he, hr, boxTime h.bx ho hb9 hp h5, h.of.trans (offTime ho), Nat.le_trans h.hb ho.size⟩

theorem Mid.cells {W0 : World} (h : Mid W0 W p g b4 b5 b6 b9 base o c t m vi vf L F s) : W.cell? ⟨b9, 4, Option.none⟩ = some vi ∧ W.cell? ⟨b9, 5, Option.none⟩ = some vf ∧ W.cell? ⟨b4, 0, Option.none⟩ = some (.pointer (some ⟨p, 0, Option.none⟩)) ∧ W.cell? ⟨b6, 0, Option.none⟩ = some (.func (.func 40) #[] #[.pointer (some ⟨b4, 0, Option.none⟩), .pointer (some ⟨b5, 0, Option.none⟩)]) := by
  obtain ⟨h1, h2, h3⟩ := keepI h.bx h.rd
  exact ⟨h1, by simp [World.cell?, h.bx.box], h2, h3⟩

theorem Mid.drew {W0 : World} (h : Mid W0 W p g b4 b5 b6 b9 base o c t m vi vf L F s) : Mid W0 W.drew p g b4 b5 b6 b9 base o c t m vi vf L F s :=
  ⟨h.rd.drew, h.bx.drew, ⟨h.of.os, h.of.tape, h.of.output, h.of.size, h.of.block⟩, h.hb⟩

/-- what the appending needs -/
theorem Mid.app {W0 : World} (h : Mid W0 W p g b4 b5 b6 b9 base o c t m vi vf L F s) (n : ByteArray) (x : Int) :
    (W.alloc (.cells #[.string n, .int .i64 x] 59)).ownsRow base 59 2 vi L.length (insV L) ∧ base ≤ (W.alloc (.cells #[.string n, .int .i64 x] 59)).heap.size ∧ (W.alloc (.cells #[.string n, .int .i64 x] 59)).cell? ⟨b9, 4, Option.none⟩ = some vi :=
  ⟨owns_below h.bx.ins (Pk.below_alloc _ _), Nat.le_trans h.hb (Pk.below_alloc W _).size, (alloc_conj h.bx h.rd).1⟩

theorem Mid.endI {W0 : World} {ob : Obj} {vn : Value} {x : ByteArray × Nat} (h : Mid W0 W p g b4 b5 b6 b9 base o c t m vi vf L F s) (hg : (W.alloc ob).grownBy W1 vi.ownBlock) (hb9 : base ≤ b9) (hp : p < base) (hgb : g < base) (h4 : b4 < base) (h5 : b5 < base) (h6 : b6 < base)
    (hown : W1.ownsRow base 59 2 vn (L.length + 1) (insV L ++ [.string x.1, .int .i64 (tmI x.2)])) :
    RdS (W1.setCell ⟨b9, 4, Option.none⟩ vn) p g b4 b5 b6 s ∧ (∃ v', BoxS (W1.setCell ⟨b9, 4, Option.none⟩ vn) b9 base o c t m v' vf (L ++ [x]) F) ∧ Off (fun k => k = p ∨ k = b5 ∨ base ≤ k) W0 (W1.setCell ⟨b9, 4, Option.none⟩ vn) := by
  obtain ⟨h1, h2, h3⟩ := in_end h.bx h.rd hg hb9 hp hgb h4 h5 h6 hown (ins_fds h.bx)
  exact ⟨h1, ⟨_, h2⟩, h.of.trans h3⟩

set_option maxRecDepth 100000 in
set_option maxHeartbeats 8000000 in
theorem in_c (h : RdS W p g b4 b5 b6 s) (hr : BoxS W b9 base o c t m vi vf L F) (hbase : base ≤ W.heap.size) (hL : L.length ≤ 100000) (hb9 : base ≤ b9) (hp : p < base) (hg : g < base) (h4 : b4 < base) (h5 : b5 < base) (h6 : b6 < base) :
    Calls Try.prog 46 #[.pointer (some ⟨b9, 0, Option.none⟩), .pointer (some ⟨b4, 0, Option.none⟩), .pointer (some ⟨b6, 0, Option.none⟩)] W fun e W' => (∃ z, e = .returned z) ∧ RdS W' p g b4 b5 b6 s.text.time ∧ (∃ vi', BoxS W' b9 base o c t m vi' vf (L ++ [(s.tx, s.text.tm)]) F) ∧ Off (fun k => k = p ∨ k = b5 ∨ base ≤ k) W W' := by
  obtain ⟨i0, hi, hz0, hz1, hz2⟩ := info_parts info59
  have x0 : Mid W W p g b4 b5 b6 b9 base o c t m vi vf L F s := ⟨h, hr, ⟨rfl, rfl, rfl, Nat.le_refl _, fun _ _ _ => rfl⟩, hbase⟩
  have X0 := Lib.hid x0.drew
  obtain ⟨c9, _, c4, c6⟩ := x0.cells
  have hT := midText x0.drew hb9 hp
  have hNE := Lib.hid (in_news · s.tx (tmI s.text.tm))
  clear h hr x0
  have hml : L.length + 1 ≤ maxLen := by unfold maxLen; omega
  have hby : (L.length + 1) * 24 ≤ 140737488355328 := by omega
  go_enter Try.func46, Try.ntmps46
  go_wp2_with fail
  refine wp_region_noPanic ?_
  refine Lt.wp_region_late [10] (fun w' => w'.cell? ⟨b9, 4, Option.none⟩ = some vi ∧ w'.cell? ⟨b4, 0, Option.none⟩ = some (.pointer (some ⟨p, 0, Option.none⟩)) ∧ w'.cell? ⟨b6, 0, Option.none⟩ = some (.func (.func 40) #[] #[.pointer (some ⟨b4, 0, Option.none⟩), .pointer (some ⟨b5, 0, Option.none⟩)])) (by kernel_rfl) ?_
  refine Lt.wpAnyL_take (i := 0) (v := ?_) [10] rfl (by kernel_rfl) (by kernel_rfl) (by kernel_rfl) (by kernel_rfl) (by kernel_rfl) (by kernel_rfl) (fun _ _ _ h => h) (Or.inl ⟨by rfl, ?_⟩) ⟨c9, c4, c6⟩ ?_
  rotate_left 1
  · intro w hSw
    try dsimp only at hSw
    go_simp
    first | done | with_reducible rfl
  try simp only [Act.put, List.setIfInBounds_toArray, List.set_cons_zero, List.set_cons_succ]
  refine Lt.wpAnyL_take (i := 1) (v := ?_) [10] rfl (by kernel_rfl) (by kernel_rfl) (by kernel_rfl) (by kernel_rfl) (by kernel_rfl) (by kernel_rfl) (fun _ _ _ h => h) (Or.inl ⟨by rfl, ?_⟩) ⟨c9, c4, c6⟩ ?_
  rotate_left 1
  · intro w hSw
    try dsimp only at hSw
    go_simp
    first | done | with_reducible rfl
  try simp only [Act.put, List.setIfInBounds_toArray, List.set_cons_zero, List.set_cons_succ]
  refine Lt.wpAnyL_take (i := 2) (v := ?_) [10] rfl (by kernel_rfl) (by kernel_rfl) (by kernel_rfl) (by kernel_rfl) (by kernel_rfl) (by kernel_rfl) (fun _ _ _ h => h) (Or.inl ⟨by rfl, ?_⟩) ⟨c9, c4, c6⟩ ?_
  rotate_left 1
  · intro w hSw
    try dsimp only at hSw
    go_simp
    first | done | with_reducible rfl
  try simp only [Act.put, List.setIfInBounds_toArray, List.set_cons_zero, List.set_cons_succ]
  refine Lt.wpAnyL_take (i := 4) (v := ?_) [10] rfl (by kernel_rfl) (by kernel_rfl) (by kernel_rfl) (by kernel_rfl) (by kernel_rfl) (by kernel_rfl) (fun _ _ _ h => h) (Or.inl ⟨by rfl, ?_⟩) ⟨c9, c4, c6⟩ ?_
  rotate_left 1
  · intro w hSw
    try dsimp only at hSw
    go_simp
    first | done | with_reducible rfl
  try simp only [Act.put, List.setIfInBounds_toArray, List.set_cons_zero, List.set_cons_succ]
  refine Lt.wpAnyL_next (i := 3) (by kernel_rfl) rfl (fun K hK => ?_)
  go_simp
  go_at_call 45
  refine hT.mono ?_
  rintro e W1 ⟨rfl, x1⟩
  obtain ⟨y9, _, y4, y6⟩ := x1.cells
  have hT2 := midTime x1 hb9 hp h5
  clear x1
  refine hK.out _ _ (fun _ => ⟨y9, y4, y6⟩) ?_
  clear hK K
  try simp only [Act.put, List.setIfInBounds_toArray, List.set_cons_zero, List.set_cons_succ]
  refine Lt.wpAnyL_next (i := 5) (by kernel_rfl) rfl (fun K hK => ?_)
  go_simp
  go_at_call 40
  refine hT2.mono ?_
  rintro e W2 ⟨rfl, x2⟩
  obtain ⟨z9, _, z4, z6⟩ := x2.cells
  obtain ⟨ho2, hs2, v9⟩ := x2.app s.tx (tmI s.text.tm)
  obtain ⟨_, v4, v6⟩ := alloc_conj (ob := .cells #[.string s.tx, .int .i64 (tmI s.text.tm)] 59) x2.bx x2.rd
  have HOWN := Lib.hid ho2
  have HS2 := Lib.hid hs2
  have X2 := Lib.hid x2
  clear x2 ho2 hs2 hT2
  refine hK.out _ _ (fun _ => ⟨z9, z4, z6⟩) ?_
  clear hK K
  try simp only [Act.put, List.setIfInBounds_toArray, List.set_cons_zero, List.set_cons_succ]
  refine Lt.wpAnyL_take (i := 6) (v := ?_) [10] rfl (by kernel_rfl) (by kernel_rfl) (by kernel_rfl) (by kernel_rfl) (by kernel_rfl) (by kernel_rfl) (fun _ _ _ h => h) (Or.inl ⟨by rfl, ?_⟩) ⟨z9, z4, z6⟩ ?_
  rotate_left 1
  · intro w hSw
    try dsimp only at hSw
    go_simp
    first | done | with_reducible rfl
  try simp only [Act.put, List.setIfInBounds_toArray, List.set_cons_zero, List.set_cons_succ]
  refine Lt.wpAnyL_next (i := 7) (by kernel_rfl) rfl (fun K hK => ?_)
  go_simp
  refine hK.out _ _ (fun _ => ⟨v9, v4, v6⟩) ?_
  clear hK K
  try simp only [Act.put, List.setIfInBounds_toArray, List.set_cons_zero, List.set_cons_succ]
  refine Lt.wpAnyL_next (i := 8) (by kernel_rfl) rfl (fun K hK => ?_)
  refine step_append_lies _ rfl (.tmp 4) (.tmp 10) 31 rfl base 59 i0 (.agg #[.string ⟨#[]⟩, .int .i64 0]) 2 24 Try.underlying31 hi hz0 hz1 hz2 rfl (by decide) vi L.length (insV L) (by simp [Act.eval]) HOWN.out ⟨W2.heap.size, 0, Option.none⟩ 1 1 [.string s.tx, .int .i64 (tmI s.text.tm)] (by simp [Act.eval]) rfl (hNE.out W2).1 (hNE.out W2).2 (by decide) hml hby HS2.out _ rfl ?_
  intro gg cap W8 hown8 hg8 hat8 hlt8
  obtain ⟨⟨u9, u4, u6⟩, f9, _⟩ := app_conj X2.out.bx X2.out.rd hg8 h4 h6
  have HE := Lib.hid (X2.out.endI (x := (s.tx, s.text.tm)) hg8 hb9 hp hg h4 h5 h6 hown8)
  clear hown8 hg8 hat8 hlt8
  refine hK.out _ _ (fun _ => ⟨u9, u4, u6⟩) ?_
  clear hK K
  try simp only [Act.put, List.setIfInBounds_toArray, List.set_cons_zero, List.set_cons_succ]
  refine Lt.wpAnyL_take (i := 9) (v := ?_) [10] rfl (by kernel_rfl) (by kernel_rfl) (by kernel_rfl) (by kernel_rfl) (by kernel_rfl) (by kernel_rfl) (fun _ _ _ h => h) (Or.inl ⟨by rfl, ?_⟩) ⟨u9, u4, u6⟩ ?_
  rotate_left 1
  · intro w hSw
    try dsimp only at hSw
    go_simp
    first | done | with_reducible rfl
  try simp only [Act.put, List.setIfInBounds_toArray, List.set_cons_zero, List.set_cons_succ]
  refine Lt.wpAnyL_next (i := 10) (by kernel_rfl) rfl (fun K hK => ?_)
  go_simp
  refine hK.out _ _ (fun h => by simp at h) ?_
  clear hK K
  try simp only [Act.put, List.setIfInBounds_toArray, List.set_cons_zero, List.set_cons_succ]
  refine Lt.wpAnyL_done (by kernel_rfl) ?_ _
  refine NoPanic.normal ?_
  go_end0
  exact ⟨⟨_, rfl⟩, HE.out⟩
end
end Go.Proofs.Ytdijpoemimebmaa.Rn
