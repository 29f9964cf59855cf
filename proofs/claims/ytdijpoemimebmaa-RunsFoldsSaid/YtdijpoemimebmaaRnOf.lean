/-
  A DOCUMENT's RUN AS THE PROGRAM's (the laws' of).
-/
import Derived.Test.YtdijpoemimebmaaRnOfA
import Derived.Test.YtdijpoemimebmaaRgLate
import Derived.Deep.AppendLies
namespace Go.Proofs.Ytdijpoemimebmaa.Rn.Oq
open Go.RowKit
open Go.Proofs.Ytdijpoemimebmaa.Cr

/-- what of has made so far: the document's run in box b1, the result's in b2, the program's in b3 -/
structure OfS (w W : World) (r : Run) (vi vf : Value) (b1 b2 b3 : Nat) (ui uf : Value) (j : Nat) : Prop where
  h1 : W.heap[b1]? = some (.cells (runC r vi vf) 25 (0, 0))
  h2 : W.heap[b2]? = some (.cells #[.string ⟨#[]⟩, .string ⟨#[]⟩, .int .i64 0, .int .i64 0, .slice Option.none 0 0, .slice Option.none 0 0] 33 (0, 0))
  h3 : W.heap[b3]? = some (.cells #[.string r.out, .string r.cmd, .int .i64 r.time, .int .i64 r.mark, ui, uf] 33 (0, 0))
  ne : b2 ≠ b3
  ins : W.ownsRow w.heap.size 59 2 ui j (inV (r.ins.take j))
  fds : W.ownsRow w.heap.size 3 1 uf r.found.length (tV r.found)
  lo : w.heap.size ≤ b1 ∧ w.heap.size ≤ b2 ∧ w.heap.size ≤ b3
  bel : Below w.heap.size w W

abbrev of_conj (W : World) (b1 : Nat) (r : Run) (vf : Value) : Prop := W.cell? ⟨b1, 0, Option.none⟩ = some (.string r.out) ∧ W.cell? ⟨b1, 1, Option.none⟩ = some (.string r.cmd) ∧ W.cell? ⟨b1, 2, Option.none⟩ = some (.int .i64 r.time) ∧ W.cell? ⟨b1, 3, Option.none⟩ = some (.int .i64 r.mark) ∧ W.cell? ⟨b1, 5, Option.none⟩ = some vf

/-- the cells of a run that are read -/
theorem of_cells {W : World} {b1 : Nat} {r : Run} {vi vf : Value} (h : W.heap[b1]? = some (.cells (runC r vi vf) 25 (0, 0))) :
    W.cell? ⟨b1, 0, Option.none⟩ = some (.string r.out) ∧ W.cell? ⟨b1, 1, Option.none⟩ = some (.string r.cmd) ∧ W.cell? ⟨b1, 2, Option.none⟩ = some (.int .i64 r.time) ∧ W.cell? ⟨b1, 3, Option.none⟩ = some (.int .i64 r.mark) ∧ W.cell? ⟨b1, 5, Option.none⟩ = some vf := by
  simp [World.cell?, h, runC]

/-- what the making of the program's run comes to -/
def OfQ (w : World) (r : Run) (vi vf : Value) (b1 b2 : Nat) (s3 : Value) (W : World) : Prop :=
  ∃ b3 uf, s3 = .pointer (some ⟨b3, 0, Option.none⟩) ∧ OfS w W r vi vf b1 b2 b3 (.slice Option.none 0 0) uf 0

/-- the worlds of that making: the two boxes stand; nothing of what was there has turned -/
structure OfW (w W : World) (r : Run) (vi vf : Value) (b1 b2 : Nat) : Prop where
  h1 : W.heap[b1]? = some (.cells (runC r vi vf) 25 (0, 0))
  h2 : W.heap[b2]? = some (.cells #[.string ⟨#[]⟩, .string ⟨#[]⟩, .int .i64 0, .int .i64 0, .slice Option.none 0 0, .slice Option.none 0 0] 33 (0, 0))
  bel : Below w.heap.size w W

section
variable {w W W1 : World} {r : Run} {vi vf : Value} {b1 b2 : Nat}
theorem OfW.alloc (h : OfW w W r vi vf b1 b2) (ob : Obj) : OfW w (W.alloc ob) r vi vf b1 b2 :=
  ⟨(Below.heap_alloc _ _ _ (lt_some h.h1)).trans h.h1, (Below.heap_alloc _ _ _ (lt_some h.h2)).trans h.h2, h.bel.alloc h.bel.size _⟩
theorem OfW.drew (h : OfW w W r vi vf b1 b2) : OfW w W.drew r vi vf b1 b2 := ⟨h.h1, h.h2, ⟨h.bel.os, h.bel.tape, h.bel.output, h.bel.size, h.bel.block⟩⟩
theorem OfW.grown (h : OfW w W r vi vf b1 b2) {v : Value} {n : Nat} {xs : List Value} (hown : W.ownsRow w.heap.size 3 1 v n xs) (hg : W.grownBy W1 v.ownBlock) : OfW w W1 r vi vf b1 b2 := by
  have hk : ∀ (k : Nat) (C : Array Value) (t : TypeId), W.heap[k]? = some (Obj.cells C t (0, 0)) → t ≠ 3 → W1.heap[k]? = W.heap[k]? := fun k C t hc ht => hg.block k (lt_some hc) fun e => by
    obtain ⟨_, cur, hcur⟩ := owns_block hown e.symm
    rw [hc] at hcur
    simp at hcur
    exact ht hcur.2
  exact ⟨(hk _ _ _ h.h1 (by decide)).trans h.h1, (hk _ _ _ h.h2 (by decide)).trans h.h2, h.bel.trans ⟨hg.os, hg.tape, hg.output, hg.size, fun k hkk => hg.block k (by have := h.bel.size; omega) fun e => by have := (owns_block hown e.symm).1; omega⟩⟩
theorem grown_keep {base : Nat} {v : Value} {n k : Nat} {xs : List Value} {C : Array Value} {t : TypeId} (hown : W.ownsRow base 3 1 v n xs) (hg : W.grownBy W1 v.ownBlock) (hc : W.heap[k]? = some (.cells C t (0, 0))) (ht : t ≠ 3) : W1.heap[k]? = some (.cells C t (0, 0)) :=
  (hg.block k (lt_some hc) fun e => by
    obtain ⟨_, cur, hcur⟩ := owns_block hown e.symm
    rw [hc] at hcur
    simp at hcur
    exact ht hcur.2).trans hc

theorem OfW.six (h : OfW w W r vi vf b1 b2) {k : Nat} (hk : b1 ≠ k) (v0 v1 v2 v3 v4 v5 : Value) : of_conj ((((((W.setCell ⟨k, 0, Option.none⟩ v0).setCell ⟨k, 1, Option.none⟩ v1).setCell ⟨k, 2, Option.none⟩ v2).setCell ⟨k, 3, Option.none⟩ v3).setCell ⟨k, 4, Option.none⟩ v4).setCell ⟨k, 5, Option.none⟩ v5) b1 r vf :=
  of_cells ((six_other (W := W) (v0 := v0) (v1 := v1) (v2 := v2) (v3 := v3) (v4 := v4) (v5 := v5) hk).trans h.h1)

theorem ofq_new {a : Option Addr} {c : Nat} (h : OfW w W r vi vf b1 b2) (hown : W.ownsRow w.heap.size 3 1 (.slice a (0 + r.found.length) c) (0 + r.found.length) ([] ++ tV r.found)) (l1 : w.heap.size ≤ b1) (l2 : w.heap.size ≤ b2) :
    OfQ w r vi vf b1 b2 (.pointer (some ⟨W.heap.size, 0, Option.none⟩)) (W.alloc (.cells #[.string r.out, .string r.cmd, .int .i64 r.time, .int .i64 r.mark, .slice Option.none 0 0, .slice a r.found.length c] 33)) := by
  rw [Nat.zero_add, List.nil_append] at hown
  have hl := lt_some h.h2
  exact ⟨W.heap.size, _, rfl, (h.alloc _).h1, (h.alloc _).h2, heap_alloc_new _ _, by omega, World.ownsRow_nil _ _ _ _, owns_below hown (Pk.below_alloc _ _), ⟨l1, l2, h.bel.size⟩, (h.alloc _).bel⟩

theorem ofq_six {a : Option Addr} {c k : Nat} {u0 u1 u2 u3 u4 u5 : Value} (h : OfW w W r vi vf b1 b2) (hown : W.ownsRow w.heap.size 3 1 (.slice a (0 + r.found.length) c) (0 + r.found.length) ([] ++ tV r.found)) (l1 : w.heap.size ≤ b1) (l2 : w.heap.size ≤ b2)
    (hz : W.heap[k]? = some (.cells #[u0, u1, u2, u3, u4, u5] 33 (0, 0))) (n1 : b1 ≠ k) (n2 : b2 ≠ k) (lk : w.heap.size ≤ k) :
    OfQ w r vi vf b1 b2 (.pointer (some ⟨k, 0, Option.none⟩)) ((((((W.setCell ⟨k, 0, Option.none⟩ (.string r.out)).setCell ⟨k, 1, Option.none⟩ (.string r.cmd)).setCell ⟨k, 2, Option.none⟩ (.int .i64 r.time)).setCell ⟨k, 3, Option.none⟩ (.int .i64 r.mark)).setCell ⟨k, 4, Option.none⟩ (.slice Option.none 0 0)).setCell ⟨k, 5, Option.none⟩ (.slice a r.found.length c)) := by
  rw [Nat.zero_add, List.nil_append] at hown
  show OfQ w r vi vf b1 b2 _ (six W k (.string r.out) (.string r.cmd) (.int .i64 r.time) (.int .i64 r.mark) (.slice Option.none 0 0) (.slice a r.found.length c))
  refine ⟨k, _, rfl, (six_other n1).trans h.h1, (six_other n2).trans h.h2, six_same hz, n2, World.ownsRow_nil _ _ _ _, owns_kept hown fun g hg => ?_, ⟨l1, l2, lk⟩, h.bel.trans ((six_off (C := fun j => j = k) rfl).below (by rintro j rfl; exact lk) h.bel.size)⟩
  obtain ⟨_, cur, hc⟩ := owns_block hown hg
  exact six_other (ne_type hc hz (by decide))

theorem OfW.cells (h : OfW w W r vi vf b1 b2) : W.cell? ⟨b1, 0, Option.none⟩ = some (.string r.out) ∧ W.cell? ⟨b1, 1, Option.none⟩ = some (.string r.cmd) ∧ W.cell? ⟨b1, 2, Option.none⟩ = some (.int .i64 r.time) ∧ W.cell? ⟨b1, 3, Option.none⟩ = some (.int .i64 r.mark) ∧ W.cell? ⟨b1, 5, Option.none⟩ = some vf := of_cells h.h1
end

section
variable {w W W1 : World} {r : Run} {vi vf ui uf vn : Value} {b1 b2 b3 j : Nat} {ob : Obj}

theorem OfS.keep (h : OfS w W r vi vf b1 b2 b3 ui uf j) (hg : (W.alloc ob).grownBy W1 ui.ownBlock) {k : Nat} {C : Array Value} {t : TypeId} (hc : W.heap[k]? = some (.cells C t (0, 0))) (ht : t ≠ 59) : W1.heap[k]? = W.heap[k]? :=
  (hg.block k (by have := lt_some hc; simp; omega) fun e => by
    obtain ⟨_, cur, hcur⟩ := owns_block h.ins e.symm
    exact ne_type hc hcur ht rfl).trans (Below.heap_alloc _ _ _ (lt_some hc))

theorem OfS.low (h : OfS w W r vi vf b1 b2 b3 ui uf j) (hg : (W.alloc ob).grownBy W1 ui.ownBlock) : Off (fun k => w.heap.size ≤ k) W W1 :=
  ⟨hg.os, hg.tape, hg.output, Nat.le_trans (by simp) hg.size, fun k hk hc => (hg.block k (by simp; omega) fun e => hc (owns_block h.ins e.symm).1).trans (Below.heap_alloc _ _ _ hk)⟩

theorem OfS.next (h : OfS w W r vi vf b1 b2 b3 ui uf j) {x : In} (hx : r.ins[j]? = some x) (hg : (W.alloc ob).grownBy W1 ui.ownBlock)
    (hown : W1.ownsRow w.heap.size 59 2 vn (j + 1) (inV (r.ins.take j) ++ [.string x.name, .int .i64 x.time])) : OfS w (W1.setCell ⟨b3, 4, Option.none⟩ vn) r vi vf b1 b2 b3 vn uf (j + 1) := by
  have e1 := h.keep hg h.h1 (by decide)
  have e2 := h.keep hg h.h2 (by decide)
  have e3 := h.keep hg h.h3 (by decide)
  have n13 : b1 ≠ b3 := ne_type h.h1 h.h3 (by decide)
  refine ⟨(set_other n13).trans (e1.trans h.h1), (set_other h.ne).trans (e2.trans h.h2), ?_, h.ne, ?_, ?_, h.lo, ?_⟩
  · have := Pk.set_block (j := 4) (u := vn) (e3.trans h.h3)
    simpa using this
  · have et : r.ins.take (j + 1) = r.ins.take j ++ [x] := by rw [List.take_add_one, hx]; rfl
    rw [et, inV_snoc]
    refine owns_kept hown fun k hkk => set_other ?_
    obtain ⟨_, cur, hc⟩ := owns_block hown hkk
    exact ne_type hc (e3.trans h.h3) (by decide)
  · refine owns_kept h.fds fun k hkk => ?_
    obtain ⟨_, cur, hc⟩ := owns_block h.fds hkk
    exact (set_other (ne_type hc h.h3 (by decide))).trans (h.keep hg hc (by decide))
  · exact h.bel.trans ((Off.trans (h.low hg) (off_set h.lo.2.2)).below (fun _ hk => hk) h.bel.size)

theorem OfS.sw (h : OfS w W r vi vf b1 b2 b3 ui uf j) {b o : Nat} {x : In} (hb : b < w.heap.size) (h0 : w.cell? ⟨b, o, Option.none⟩ = some (.string x.name)) (h1 : w.cell? ⟨b, o + 1, Option.none⟩ = some (.int .i64 x.time)) : SW b1 b3 ui vi b o x W := by
  have e := h.bel.block b hb
  exact ⟨by simp [World.cell?, h.h3], by simp [World.cell?, h.h1, runC], (cell_of_block e).trans h0, (cell_of_block e).trans h1⟩

theorem OfS.swA (h : OfS w W r vi vf b1 b2 b3 ui uf j) {b o : Nat} {x : In} (hb : b < w.heap.size) (h0 : w.cell? ⟨b, o, Option.none⟩ = some (.string x.name)) (h1 : w.cell? ⟨b, o + 1, Option.none⟩ = some (.int .i64 x.time)) (ob : Obj) : SW b1 b3 ui vi b o x (W.alloc ob) :=
  sw_kept (h.sw hb h0 h1) (Below.heap_alloc _ _ _ (lt_some h.h3)) (Below.heap_alloc _ _ _ (lt_some h.h1)) (Below.heap_alloc _ _ _ (Nat.lt_of_lt_of_le hb h.bel.size))

theorem OfS.swG (h : OfS w W r vi vf b1 b2 b3 ui uf j) {b o : Nat} {x : In} (hb : b < w.heap.size) (h0 : w.cell? ⟨b, o, Option.none⟩ = some (.string x.name)) (h1 : w.cell? ⟨b, o + 1, Option.none⟩ = some (.int .i64 x.time)) (hg : (W.alloc ob).grownBy W1 ui.ownBlock) : SW b1 b3 ui vi b o x W1 ∧ W1.frozen? ⟨b3, 4, Option.none⟩ = false := by
  have e3 := h.keep hg h.h3 (by decide)
  refine ⟨sw_kept (h.sw hb h0 h1) e3 (h.keep hg h.h1 (by decide)) ((h.low hg).block b (Nat.lt_of_lt_of_le hb h.bel.size) (by omega)), ?_⟩
  simp [World.frozen?, e3, h.h3]

theorem OfS.drew (h : OfS w W r vi vf b1 b2 b3 ui uf j) : OfS w W.drew r vi vf b1 b2 b3 ui uf j := ⟨h.h1, h.h2, h.h3, h.ne, h.ins, h.fds, h.lo, ⟨h.bel.os, h.bel.tape, h.bel.output, h.bel.size, h.bel.block⟩⟩

/-- the end: the result's box has it all -/
theorem OfS.done (h : OfS w W r vi vf b1 b2 b3 ui uf r.ins.length) (v0 v1 v2 v3 v4 v5 : Value) : (six W b2 v0 v1 v2 v3 v4 v5).ownsRow w.heap.size 59 2 ui r.ins.length (inV r.ins) ∧ (six W b2 v0 v1 v2 v3 v4 v5).ownsRow w.heap.size 3 1 uf r.found.length (tV r.found) ∧ Below w.heap.size w (six W b2 v0 v1 v2 v3 v4 v5) := by
  have hi := h.ins
  rw [List.take_length] at hi
  refine ⟨owns_kept hi fun k hk => ?_, owns_kept h.fds fun k hk => ?_, h.bel.trans ((six_off (C := fun j => j = b2) rfl).below (by rintro j rfl; exact h.lo.2.1) h.bel.size)⟩
  · obtain ⟨_, cur, hc⟩ := owns_block hi hk
    exact six_other (ne_type hc h.h2 (by decide))
  · obtain ⟨_, cur, hc⟩ := owns_block h.fds hk
    exact six_other (ne_type hc h.h2 (by decide))
end

theorem infoD : (Try.prog.info? 59).map (fun i => (i.zero, i.size, i.bytes)) = some (some (.agg #[.string ⟨#[]⟩, .int .i64 0]), 2, 24) := by kernel_rfl

/-- an input that was laid, and is appended -/
theorem in_newsD (W : World) (n : ByteArray) (t : Int) : (∀ j u, [Value.string n, .int .i64 t][j]? = some u → (W.alloc (.cells #[.string n, .int .i64 t] 59)).cell? ((⟨W.heap.size, 0, Option.none⟩ : Addr).add j) = some u) ∧ (∀ u ∈ [Value.string n, .int .i64 t], u.oneCell' = true) :=
  ⟨fun j u hu => World.news_of_block (w := W.alloc (.cells #[.string n, .int .i64 t] 59)) (cs := #[.string n, .int .i64 t]) (t := 59) (fr := (0, 0)) (heap_alloc_new W _) j u hu, by
    intro u hu
    simp at hu
    rcases hu with rfl | rfl <;> rfl⟩

set_option maxRecDepth 100000 in
set_option maxHeartbeats 4000000 in
theorem of_own {w : World} {r : Run} {vi vf : Value} (hi : InRow w vi r.ins) (hf : FdRow w vf r.found) (hni : r.ins.length ≤ 100000) (hnf : r.found.length ≤ 100000) :
    Calls Try.prog 12 #[.agg (runC r vi vf)] w fun e w' => ∃ ui uf, e = .returned (.agg (runC r ui uf)) ∧ w'.ownsRow w.heap.size 59 2 ui r.ins.length (inV r.ins) ∧ w'.ownsRow w.heap.size 3 1 uf r.found.length (tV r.found) ∧ Below w.heap.size w w' := by
  obtain ⟨W0, hW0⟩ : ∃ W, (w.alloc (.cells (runC r vi vf) 25)).alloc (.cells #[.string ⟨#[]⟩, .string ⟨#[]⟩, .int .i64 0, .int .i64 0, .slice Option.none 0 0, .slice Option.none 0 0] 33) = W := ⟨_, rfl⟩
  have z1 : (w.alloc (.cells (runC r vi vf) 25)).heap.size = w.heap.size + 1 := Array.size_push _
  have x0 : OfW w W0 r vi vf w.heap.size (w.heap.size + 1) := by
    rw [← hW0]
    refine ⟨?_, ?_, ((Below.refl _ _).alloc (Nat.le_refl _) _).alloc (by rw [z1]; omega) _⟩
    · rw [Below.heap_alloc _ _ _ (by rw [z1]; omega)]
      exact heap_alloc_new _ _
    · rw [← z1]
      exact heap_alloc_new _ _
  have zW : W0.heap.size = w.heap.size + 2 := by rw [← hW0]; exact (Array.size_push _).trans (by rw [z1])
  unfold runC at hW0 ⊢
  have X0 := Lib.hid x0
  clear x0 z1
  go_enter Try.func12, Try.ntmps12
  go_upto_region 1 with fail
  go_cut [3] (fun s3 wx => OfQ w r vi vf w.heap.size (w.heap.size + 1) s3 wx)
  case first =>
    have cS0 := X0.out.cells
    have cS1 := X0.out.drew.cells
    have cA := Lib.hid (fun ob => (X0.out.alloc ob).drew.cells)
    have cAA := Lib.hid (fun o1 o2 => ((X0.out.alloc o1).alloc o2).drew.cells)
    have hle0 : w.heap.size ≤ W0.heap.size := by omega
    have fA := Lib.hid (fun ob => hf.below (X0.out.alloc ob).drew.bel)
    have fAA := Lib.hid (fun o1 o2 => hf.below ((X0.out.alloc o1).alloc o2).drew.bel)
    have oA : (W0.alloc (.cells #[] 3)).drew.ownsRow w.heap.size 3 1 (.slice (some ⟨W0.heap.size, 0, Option.none⟩) 0 0) 0 [] := World.ownsRow_made W0 #[] 0 hle0 (by unfold maxLen; omega) rfl
    have oB : ∀ ob, ((W0.alloc (.cells #[] 3)).alloc ob).drew.ownsRow w.heap.size 3 1 (.slice (some ⟨W0.heap.size, 0, Option.none⟩) 0 0) 0 [] := fun ob => (owns_below (World.ownsRow_made W0 #[] 0 hle0 (by unfold maxLen; omega) rfl) (Pk.below_alloc (W0.alloc (.cells #[] 3)) ob) : ((W0.alloc (.cells #[] 3)).alloc ob).ownsRow w.heap.size 3 1 (.slice (some ⟨W0.heap.size, 0, Option.none⟩) 0 0) 0 [])
    have oC : ∀ ob, ((W0.alloc ob).alloc (.cells #[] 3)).drew.ownsRow w.heap.size 3 1 (.slice (some ⟨(W0.alloc ob).heap.size, 0, Option.none⟩) 0 0) 0 [] := fun ob => World.ownsRow_made (W0.alloc ob) #[] 0 (Nat.le_trans hle0 (Pk.below_alloc W0 ob).size) (by unfold maxLen; omega) rfl
    have OA := Lib.hid oA
    have OB := Lib.hid oB
    have OC := Lib.hid oC
    have XA := Lib.hid (fun ob => (X0.out.alloc ob).drew)
    have XAA := Lib.hid (fun o1 o2 => ((X0.out.alloc o1).alloc o2).drew)
    have zB : (((W0.alloc (.cells #[] 3)).alloc (.cells #[.string ⟨#[]⟩, .string ⟨#[]⟩, .int .i64 0, .int .i64 0, .slice Option.none 0 0, .slice Option.none 0 0] 33)).drew).heap[W0.heap.size + 1]? = some (.cells #[.string ⟨#[]⟩, .string ⟨#[]⟩, .int .i64 0, .int .i64 0, .slice Option.none 0 0, .slice Option.none 0 0] 33 (0, 0)) := by
      have e : (W0.alloc (.cells #[] 3)).heap.size = W0.heap.size + 1 := Array.size_push _
      rw [← e]
      exact heap_alloc_new _ _
    have zC : (((W0.alloc (.cells #[.string ⟨#[]⟩, .string ⟨#[]⟩, .int .i64 0, .int .i64 0, .slice Option.none 0 0, .slice Option.none 0 0] 33)).alloc (.cells #[] 3)).drew).heap[W0.heap.size]? = some (.cells #[.string ⟨#[]⟩, .string ⟨#[]⟩, .int .i64 0, .int .i64 0, .slice Option.none 0 0, .slice Option.none 0 0] 33 (0, 0)) := (Below.heap_alloc _ _ _ (lt_some (heap_alloc_new W0 (.cells #[.string ⟨#[]⟩, .string ⟨#[]⟩, .int .i64 0, .int .i64 0, .slice Option.none 0 0, .slice Option.none 0 0] 33)))).trans (heap_alloc_new _ _)
    have ZB := Lib.hid zB
    have ZC := Lib.hid zC
    have nB : w.heap.size ≠ W0.heap.size + 1 := by omega
    have nC : w.heap.size ≠ W0.heap.size := by omega
    have nB2 : w.heap.size + 1 ≠ W0.heap.size + 1 := by omega
    have nC2 : w.heap.size + 1 ≠ W0.heap.size := by omega
    have lB : w.heap.size ≤ W0.heap.size + 1 := by omega
    have lC : w.heap.size ≤ W0.heap.size := by omega
    clear oA oB oC zB zC zW
    have hn1 : 0 + r.found.length ≤ 1000000 := by omega
    go_region_held3 (fun w' => w'.cell? ⟨w.heap.size, 0, Option.none⟩ = some (.string r.out) ∧ w'.cell? ⟨w.heap.size, 1, Option.none⟩ = some (.string r.cmd) ∧ w'.cell? ⟨w.heap.size, 2, Option.none⟩ = some (.int .i64 r.time) ∧ w'.cell? ⟨w.heap.size, 3, Option.none⟩ = some (.int .i64 r.mark) ∧ w'.cell? ⟨w.heap.size, 5, Option.none⟩ = some vf)
      (first | with_reducible exact cS0 | with_reducible exact cS1 | with_reducible exact cA.out _ | with_reducible exact cAA.out _ _ | with_reducible exact cS8 | with_reducible exact cA8.out _ | with_reducible exact cB.out _ _ _ _ _ _)
      (first
        | (refine step_appI rfl (.tmp 13) (.tmp 15) rfl (by simp [Act.eval]) OA.out (by simp [Act.eval]) (fA.out _) hn1 (Nat.le_trans hle0 (Pk.below_alloc W0 _).size) ?_; intro v8 w8 hown8 hg8; obtain ⟨va, vc, rfl⟩ := own_slice hown8; have X8 := (XA.out _).grown OA.out hg8; have cS8 := X8.cells; have cA8 := Lib.hid (fun ob => (X8.alloc ob).cells); have HX8 := X8; have HO8 := Lib.hid hown8; clear X8 hown8 hg8)
        | (refine step_appI rfl (.tmp 13) (.tmp 15) rfl (by simp [Act.eval]) (OB.out _) (by simp [Act.eval]) (fAA.out _ _) hn1 (XAA.out _ _).bel.size ?_; intro v8 w8 hown8 hg8; obtain ⟨va, vc, rfl⟩ := own_slice hown8; have X8 := (XAA.out _ _).grown (OB.out _) hg8; have cS8 := X8.cells; have cA8 := Lib.hid (fun ob => (X8.alloc ob).cells); have HX8 := X8; have HO8 := Lib.hid hown8; have hzz := grown_keep (OB.out _) hg8 ZB.out (by decide); have HZZ := Lib.hid hzz; obtain ⟨⟨q0, q1, q2, q3, q4, q5⟩, r0, r1, r2, r3, r4, r5⟩ := six_cells hzz; have cB := Lib.hid (X8.six nB); clear X8 hown8 hg8 hzz)
        | (refine step_appI rfl (.tmp 13) (.tmp 15) rfl (by simp [Act.eval]) (OC.out _) (by simp [Act.eval]) (fAA.out _ _) hn1 (XAA.out _ _).bel.size ?_; intro v8 w8 hown8 hg8; obtain ⟨va, vc, rfl⟩ := own_slice hown8; have X8 := (XAA.out _ _).grown (OC.out _) hg8; have cS8 := X8.cells; have cA8 := Lib.hid (fun ob => (X8.alloc ob).cells); have HX8 := X8; have HO8 := Lib.hid hown8; have hzz := grown_keep (OC.out _) hg8 ZC.out (by decide); have HZZ := Lib.hid hzz; obtain ⟨⟨q0, q1, q2, q3, q4, q5⟩, r0, r1, r2, r3, r4, r5⟩ := six_cells hzz; have cB := Lib.hid (X8.six nC); clear X8 hown8 hg8 hzz))
    all_goals
      go_wp2_with fail
      go_meet
      first
        | with_reducible exact ofq_new HX8 HO8.out (Nat.le_refl _) (Nat.le_succ _)
        | with_reducible exact ofq_six HX8 HO8.out (Nat.le_refl _) (Nat.le_succ _) HZZ.out nB nB2 lB
        | with_reducible exact ofq_six HX8 HO8.out (Nat.le_refl _) (Nat.le_succ _) HZZ.out nC nC2 lC
  case rest =>
    obtain ⟨b3, uf, rfl, hs⟩ := hcut
    obtain ⟨i0, hi', hz0, hz1, hz2⟩ := info_parts infoD
    obtain ⟨ai, ci, rfl, hnil, hci, hrow⟩ := hi
    have HROW := Lib.hid hrow
    have HS := Lib.hid hs
    have ZW := Lib.hid zW
    have HF := Lib.hid hf
    have HW0 := Lib.hid hW0
    clear hs hrow zW hf hW0 X0
    go_wp2_with fail
    go_loopw [4] (fun i wr => ∃ j : Nat, j ≤ r.ins.length ∧ i = .int .i64 j ∧ ∃ ui, Hid (OfS w wr r (.slice ai r.ins.length ci) vf w.heap.size (w.heap.size + 1) b3 ui uf j)) (fun i _ => r.ins.length - (intOf i).toNat)
    case atStart => exact ⟨0, Nat.zero_le _, rfl, _, HS⟩
    case round =>
      obtain ⟨j, hj, rfl, ui, hS⟩ := hrel
      clear HS
      have c14 : wr.cell? ⟨w.heap.size, 4, Option.none⟩ = some (.slice ai r.ins.length ci) := by simp [World.cell?, hS.out.h1, runC]
      by_cases hlt : j < r.ins.length
      · have hx := List.getElem?_eq_getElem hlt
        rcases HROW.out with h | ⟨b, off, rfl, hb, hcell⟩
        · rw [h] at hlt; simp at hlt
        obtain ⟨x0, x1⟩ := hcell j _ hx
        generalize r.ins[j] = x at *
        obtain ⟨s0, s1, s2, s3⟩ := hS.out.sw hb x0 x1
        have HA := Lib.hid (hS.out.drew.swA hb x0 x1)
        have HG := Lib.hid (fun (ob : Obj) (W1 : World) (hg : (wr.drew.alloc ob).grownBy W1 ui.ownBlock) => hS.out.drew.swG hb x0 x1 hg)
        have HX := Lib.hid hx
        have HN := Lib.hid (in_newsD · x.name x.time)
        have ho2 : Hid (∀ ob, (wr.drew.alloc ob).ownsRow w.heap.size 59 2 ui j (inV (r.ins.take j))) := Lib.hid fun ob => owns_below hS.out.drew.ins (Pk.below_alloc _ _)
        have hs2 : Hid (∀ ob, w.heap.size ≤ (wr.drew.alloc ob).heap.size) := Lib.hid fun ob => Nat.le_trans hS.out.bel.size (Pk.below_alloc wr.drew ob).size
        have hml : j + 1 ≤ maxLen := by unfold maxLen; omega
        have hby : (j + 1) * 24 ≤ 140737488355328 := by omega
        have hi0 : (0 : Int) ≤ (j : Int) := by omega
        have hi1 : (j : Int) < (r.ins.length : Int) := by omega
        clear x0 x1 hx hcell c14
        go_wp2_with fail
        refine wp_region_noPanic ?_
        refine Lt.wp_region_late [18] (SW w.heap.size b3 ui (.slice (some ⟨b, off, Option.none⟩) r.ins.length ci) b (off + j * 2) x) (by kernel_rfl) ?_
        refine Lt.wpAnyL_take (i := 0) (v := ?_) [18] rfl (by kernel_rfl) (by kernel_rfl) (by kernel_rfl) (by kernel_rfl) (by kernel_rfl) (by kernel_rfl) (fun _ _ _ h => h) (Or.inl ⟨by rfl, ?_⟩) ⟨s0, s1, s2, s3⟩ ?_
        rotate_left 1
        · intro w hSw
          try dsimp only at hSw
          go_simp
          first | done | with_reducible rfl
        try simp only [Act.put, List.setIfInBounds_toArray, List.set_cons_zero, List.set_cons_succ]
        refine Lt.wpAnyL_take (i := 1) (v := ?_) [18] rfl (by kernel_rfl) (by kernel_rfl) (by kernel_rfl) (by kernel_rfl) (by kernel_rfl) (by kernel_rfl) (fun _ _ _ h => h) (Or.inl ⟨by rfl, ?_⟩) ⟨s0, s1, s2, s3⟩ ?_
        rotate_left 1
        · intro w hSw
          try dsimp only at hSw
          go_simp
          first | done | with_reducible rfl
        try simp only [Act.put, List.setIfInBounds_toArray, List.set_cons_zero, List.set_cons_succ]
        refine Lt.wpAnyL_take (i := 2) (v := ?_) [18] rfl (by kernel_rfl) (by kernel_rfl) (by kernel_rfl) (by kernel_rfl) (by kernel_rfl) (by kernel_rfl) (fun _ _ _ h => h) (Or.inl ⟨by rfl, ?_⟩) ⟨s0, s1, s2, s3⟩ ?_
        rotate_left 1
        · intro w hSw
          try dsimp only at hSw
          go_simp
          first | done | with_reducible rfl
        try simp only [Act.put, List.setIfInBounds_toArray, List.set_cons_zero, List.set_cons_succ]
        refine Lt.wpAnyL_take (i := 3) (v := ?_) [18] rfl (by kernel_rfl) (by kernel_rfl) (by kernel_rfl) (by kernel_rfl) (by kernel_rfl) (by kernel_rfl) (fun _ _ _ h => h) (Or.inl ⟨by rfl, ?_⟩) ⟨s0, s1, s2, s3⟩ ?_
        rotate_left 1
        · intro w hSw
          try dsimp only at hSw
          go_simp
          first | done | with_reducible rfl
        try simp only [Act.put, List.setIfInBounds_toArray, List.set_cons_zero, List.set_cons_succ]
        refine Lt.wpAnyL_take (i := 4) (v := ?_) [18] rfl (by kernel_rfl) (by kernel_rfl) (by kernel_rfl) (by kernel_rfl) (by kernel_rfl) (by kernel_rfl) (fun _ _ _ h => h) (Or.inl ⟨by rfl, ?_⟩) ⟨s0, s1, s2, s3⟩ ?_
        rotate_left 1
        · intro w hSw
          try dsimp only at hSw
          go_simp
          first | done | with_reducible rfl
        try simp only [Act.put, List.setIfInBounds_toArray, List.set_cons_zero, List.set_cons_succ]
        refine Lt.wpAnyL_take (i := 5) (v := ?_) [18] rfl (by kernel_rfl) (by kernel_rfl) (by kernel_rfl) (by kernel_rfl) (by kernel_rfl) (by kernel_rfl) (fun _ _ _ h => h) (Or.inl ⟨by rfl, ?_⟩) ⟨s0, s1, s2, s3⟩ ?_
        rotate_left 1
        · intro w hSw
          try dsimp only at hSw
          go_simp
          first | done | with_reducible rfl
        try simp only [Act.put, List.setIfInBounds_toArray, List.set_cons_zero, List.set_cons_succ]
        refine Lt.wpAnyL_take (i := 6) (v := ?_) [18] rfl (by kernel_rfl) (by kernel_rfl) (by kernel_rfl) (by kernel_rfl) (by kernel_rfl) (by kernel_rfl) (fun _ _ _ h => h) (Or.inl ⟨by rfl, ?_⟩) ⟨s0, s1, s2, s3⟩ ?_
        rotate_left 1
        · intro w hSw
          try dsimp only at hSw
          go_simp
          first | done | with_reducible rfl
        try simp only [Act.put, List.setIfInBounds_toArray, List.set_cons_zero, List.set_cons_succ]
        refine Lt.wpAnyL_take (i := 7) (v := ?_) [18] rfl (by kernel_rfl) (by kernel_rfl) (by kernel_rfl) (by kernel_rfl) (by kernel_rfl) (by kernel_rfl) (fun _ _ _ h => h) (Or.inl ⟨by rfl, ?_⟩) ⟨s0, s1, s2, s3⟩ ?_
        rotate_left 1
        · intro w hSw
          try dsimp only at hSw
          go_simp
          first | done | with_reducible rfl
        try simp only [Act.put, List.setIfInBounds_toArray, List.set_cons_zero, List.set_cons_succ]
        refine Lt.wpAnyL_take (i := 8) (v := ?_) [18] rfl (by kernel_rfl) (by kernel_rfl) (by kernel_rfl) (by kernel_rfl) (by kernel_rfl) (by kernel_rfl) (fun _ _ _ h => h) (Or.inl ⟨by rfl, ?_⟩) ⟨s0, s1, s2, s3⟩ ?_
        rotate_left 1
        · intro w hSw
          try dsimp only at hSw
          go_simp
          first | done | with_reducible rfl
        try simp only [Act.put, List.setIfInBounds_toArray, List.set_cons_zero, List.set_cons_succ]
        refine Lt.wpAnyL_take (i := 9) (v := ?_) [18] rfl (by kernel_rfl) (by kernel_rfl) (by kernel_rfl) (by kernel_rfl) (by kernel_rfl) (by kernel_rfl) (fun _ _ _ h => h) (Or.inl ⟨by rfl, ?_⟩) ⟨s0, s1, s2, s3⟩ ?_
        rotate_left 1
        · intro w hSw
          try dsimp only at hSw
          go_simp
          first | done | with_reducible rfl
        try simp only [Act.put, List.setIfInBounds_toArray, List.set_cons_zero, List.set_cons_succ]
        refine Lt.wpAnyL_take (i := 10) (v := ?_) [18] rfl (by kernel_rfl) (by kernel_rfl) (by kernel_rfl) (by kernel_rfl) (by kernel_rfl) (by kernel_rfl) (fun _ _ _ h => h) (Or.inl ⟨by rfl, ?_⟩) ⟨s0, s1, s2, s3⟩ ?_
        rotate_left 1
        · intro w hSw
          try dsimp only at hSw
          go_simp
          first | done | with_reducible rfl
        try simp only [Act.put, List.setIfInBounds_toArray, List.set_cons_zero, List.set_cons_succ]
        refine Lt.wpAnyL_take (i := 11) (v := ?_) [18] rfl (by kernel_rfl) (by kernel_rfl) (by kernel_rfl) (by kernel_rfl) (by kernel_rfl) (by kernel_rfl) (fun _ _ _ h => h) (Or.inl ⟨by rfl, ?_⟩) ⟨s0, s1, s2, s3⟩ ?_
        rotate_left 1
        · intro w hSw
          try dsimp only at hSw
          go_simp
          first | done | with_reducible rfl
        try simp only [Act.put, List.setIfInBounds_toArray, List.set_cons_zero, List.set_cons_succ]
        refine Lt.wpAnyL_take (i := 12) (v := ?_) [18] rfl (by kernel_rfl) (by kernel_rfl) (by kernel_rfl) (by kernel_rfl) (by kernel_rfl) (by kernel_rfl) (fun _ _ _ h => h) (Or.inl ⟨by rfl, ?_⟩) ⟨s0, s1, s2, s3⟩ ?_
        rotate_left 1
        · intro w hSw
          try dsimp only at hSw
          go_simp
          first | done | with_reducible rfl
        try simp only [Act.put, List.setIfInBounds_toArray, List.set_cons_zero, List.set_cons_succ]
        refine Lt.wpAnyL_take (i := 13) (v := ?_) [18] rfl (by kernel_rfl) (by kernel_rfl) (by kernel_rfl) (by kernel_rfl) (by kernel_rfl) (by kernel_rfl) (fun _ _ _ h => h) (Or.inl ⟨by rfl, ?_⟩) ⟨s0, s1, s2, s3⟩ ?_
        rotate_left 1
        · intro w hSw
          try dsimp only at hSw
          go_simp
          first | done | with_reducible rfl
        try simp only [Act.put, List.setIfInBounds_toArray, List.set_cons_zero, List.set_cons_succ]
        refine Lt.wpAnyL_take (i := 14) (v := ?_) [18] rfl (by kernel_rfl) (by kernel_rfl) (by kernel_rfl) (by kernel_rfl) (by kernel_rfl) (by kernel_rfl) (fun _ _ _ h => h) (Or.inl ⟨by rfl, ?_⟩) ⟨s0, s1, s2, s3⟩ ?_
        rotate_left 1
        · intro w hSw
          try dsimp only at hSw
          go_simp
          first | done | with_reducible rfl
        try simp only [Act.put, List.setIfInBounds_toArray, List.set_cons_zero, List.set_cons_succ]
        refine Lt.wpAnyL_next (i := 15) (by kernel_rfl) rfl (fun K hK => ?_)
        go_simp
        refine hK.out _ _ (fun _ => HA.out _) ?_
        clear hK K
        try simp only [Act.put, List.setIfInBounds_toArray, List.set_cons_zero, List.set_cons_succ]
        refine Lt.wpAnyL_next (i := 16) (by kernel_rfl) rfl (fun K hK => ?_)
        refine step_append_lies _ rfl (.tmp 26) (.tmp 40) 31 rfl w.heap.size 59 i0 (.agg #[.string ⟨#[]⟩, .int .i64 0]) 2 24 Try.underlying31 hi' hz0 hz1 hz2 rfl (by decide) ui j (inV (r.ins.take j)) (by simp [Act.eval]) (ho2.out _) ⟨wr.heap.size, 0, Option.none⟩ 1 1 [.string x.name, .int .i64 x.time] (by simp [Act.eval]) rfl (HN.out wr.drew).1 (HN.out wr.drew).2 (by decide) hml hby (hs2.out _) _ rfl ?_
        intro gg cap W8 hown8 hg8 hat8 hlt8
        obtain ⟨⟨t0, t1, t2, t3⟩, f3⟩ := HG.out _ _ hg8
        have HE := Lib.hid (hS.out.drew.next HX.out hg8 hown8)
        clear hown8 hg8 hat8 hlt8
        refine hK.out _ _ (fun _ => ⟨t0, t1, t2, t3⟩) ?_
        clear hK K
        try simp only [Act.put, List.setIfInBounds_toArray, List.set_cons_zero, List.set_cons_succ]
        refine Lt.wpAnyL_take (i := 17) (v := ?_) [18] rfl (by kernel_rfl) (by kernel_rfl) (by kernel_rfl) (by kernel_rfl) (by kernel_rfl) (by kernel_rfl) (fun _ _ _ h => h) (Or.inl ⟨by rfl, ?_⟩) ⟨t0, t1, t2, t3⟩ ?_
        rotate_left 1
        · intro w hSw
          try dsimp only at hSw
          go_simp
          first | done | with_reducible rfl
        try simp only [Act.put, List.setIfInBounds_toArray, List.set_cons_zero, List.set_cons_succ]
        refine Lt.wpAnyL_next (i := 18) (by kernel_rfl) rfl (fun K hK => ?_)
        go_simp
        refine hK.out _ _ (fun h => by simp at h) ?_
        clear hK K
        try simp only [Act.put, List.setIfInBounds_toArray, List.set_cons_zero, List.set_cons_succ]
        refine Lt.wpAnyL_done (by kernel_rfl) ?_ _
        refine NoPanic.normal ?_
        go_wp2_with fail
        go_roundw
        case rel => exact ⟨j + 1, by omega, by go_num, _, HE⟩
        case measure => simp [intOf]; omega
      · obtain rfl : j = r.ins.length := by omega
        obtain ⟨ua, uc, rfl⟩ := own_slice hS.out.ins
        obtain ⟨fa, fc, rfl⟩ := own_slice hS.out.fds
        obtain ⟨⟨d0, d1, d2, d3, d4, d5⟩, -⟩ := six_cells hS.out.h3
        obtain ⟨⟨k0, k1, k2, k3, k4, k5⟩, r0, r1, r2, r3, r4, r5⟩ := six_cells hS.out.h2
        go_wp2_with fail
        obtain ⟨⟨s0', s1', s2', s3', s4', s5'⟩, -⟩ := six_cells (six_same (v0 := .string r.out) (v1 := .string r.cmd) (v2 := .int .i64 r.time) (v3 := .int .i64 r.mark) (v4 := .slice ua r.ins.length uc) (v5 := .slice fa r.found.length fc) hS.out.h2)
        unfold six at s0' s1' s2' s3' s4' s5'
        refine bodyPost_ret (v := .agg #[.string r.out, .string r.cmd, .int .i64 r.time, .int .i64 r.mark, .slice ua r.ins.length uc, .slice fa r.found.length fc]) (by simp [results, Try.f12, go_sem, s0', s1', s2', s3', s4', s5']) rfl ?_
        exact ⟨_, _, rfl, hS.out.done _ _ _ _ _ _⟩

theorem of_c {w : World} {r : Run} {vi vf : Value} (hi : InRow w vi r.ins) (hf : FdRow w vf r.found) (hni : r.ins.length ≤ 100000) (hnf : r.found.length ≤ 100000) :
    Calls Try.prog 12 #[.agg (runC r vi vf)] w fun e w' => ∃ ui uf, e = .returned (.agg (runC r ui uf)) ∧ InRow w' ui r.ins ∧ FdRow w' uf r.found ∧ Below w.heap.size w w' :=
  (of_own hi hf hni hnf).mono fun _ _ ⟨ui, uf, he, h1, h2, hb⟩ => ⟨ui, uf, he, inRow_of h1, fdRow_of h2, hb⟩
end Go.Proofs.Ytdijpoemimebmaa.Rn.Oq
