/-
  runs.Read, WALKED: the closure that puts a time that was found.
-/
import Derived.Test.YtdijpoemimebmaaRnRead2
namespace Go.Proofs.Ytdijpoemimebmaa.Rn
open Go.RowKit
open Go.Proofs.Ytdijpoemimebmaa.Cr

section
variable {W W1 W2 : World} {p g b4 b5 b6 b9 base : Nat} {s s' : St} {o c : ByteArray} {t m : Int} {L : List (ByteArray × Nat)} {F : List Nat} {vi vf : Value}

theorem fd_news (W : World) (t : Int) : (∀ j u, [Value.int .i64 t][j]? = some u → (W.alloc (.cells #[.int .i64 t] 3)).cell? ((⟨W.heap.size, 0, Option.none⟩ : Addr).add j) = some u) ∧ (∀ u ∈ [Value.int .i64 t], u.oneCell' = true) :=
  ⟨fun j u hu => World.news_of_block (w := W.alloc (.cells #[.int .i64 t] 3)) (cs := #[.int .i64 t]) (t := 3) (fr := (0, 0)) (heap_alloc_new W _) j u hu, by
    intro u hu
    simp at hu
    rcases hu with rfl
    rfl⟩

theorem fds_ins (h : BoxS W b9 base o c t m vi vf L F) : ∀ k, vi.ownBlock = some k → some k ≠ vf.ownBlock := fun k hk e => by
  obtain ⟨_, c1, h1⟩ := owns_block h.ins hk
  obtain ⟨_, c2, h2⟩ := owns_block h.fds e.symm
  exact ne_type h1 h2 (by decide) rfl

theorem app_conjF {ob : Obj} (h : BoxS W b9 base o c t m vi vf L F) (hr : RdS W p g b4 b5 b6 s) (hg : (W.alloc ob).grownBy W1 vf.ownBlock) (h6 : b6 < base) :
    W1.cell? ⟨b9, 5, Option.none⟩ = some vf ∧ W1.cell? ⟨b6, 0, Option.none⟩ = some (.func (.func 40) #[] #[.pointer (some ⟨b4, 0, Option.none⟩), .pointer (some ⟨b5, 0, Option.none⟩)]) ∧ W1.frozen? ⟨b9, 5, Option.none⟩ = false ∧ W1.heap[b9]? = W.heap[b9]? := by
  have hal : ∀ k, k < W.heap.size → (W.alloc ob).heap[k]? = W.heap[k]? := fun k hk => Below.heap_alloc _ _ k hk
  have hk : ∀ k, k < W.heap.size → some k ≠ vf.ownBlock → W1.heap[k]? = W.heap[k]? := fun k hk hne => (hg.block k (by simp; omega) hne).trans (hal k hk)
  have e9 : W1.heap[b9]? = W.heap[b9]? := hk _ (lt_some h.box) fun e => by
    obtain ⟨_, cur, hc⟩ := owns_block h.fds e.symm
    exact ne_type h.box hc (by decide) rfl
  have e6 : W1.heap[b6]? = W.heap[b6]? := hk _ (lt_some hr.h6) fun e => by have := (owns_block h.fds e.symm).1; omega
  refine ⟨?_, (cell_of_block e6).trans (one_cell hr.h6).1, ?_, e9⟩
  · simp [World.cell?, e9, h.box]
  · simp [World.frozen?, e9, h.box]

theorem Mid.appF {W0 : World} (h : Mid W0 W p g b4 b5 b6 b9 base o c t m vi vf L F s) (x : Int) :
    (W.alloc (.cells #[.int .i64 x] 3)).ownsRow base 3 1 vf F.length (fdsV F) ∧ base ≤ (W.alloc (.cells #[.int .i64 x] 3)).heap.size ∧ (W.alloc (.cells #[.int .i64 x] 3)).cell? ⟨b9, 5, Option.none⟩ = some vf :=
  ⟨owns_below h.bx.fds (Pk.below_alloc _ _), Nat.le_trans h.hb (Pk.below_alloc W _).size, (cell_of_block (Below.heap_alloc _ _ _ (lt_some h.bx.box))).trans (by simp [World.cell?, h.bx.box])⟩

theorem Mid.endF {W0 : World} {ob : Obj} {vn : Value} {x : Nat} (h : Mid W0 W p g b4 b5 b6 b9 base o c t m vi vf L F s) (hg : (W.alloc ob).grownBy W1 vf.ownBlock) (hb9 : base ≤ b9) (hp : p < base) (hgb : g < base) (h4 : b4 < base) (h5 : b5 < base) (h6 : b6 < base)
    (hown : W1.ownsRow base 3 1 vn (F.length + 1) (fdsV F ++ [.int .i64 (tmI x)])) :
    RdS (W1.setCell ⟨b9, 5, Option.none⟩ vn) p g b4 b5 b6 s ∧ (∃ v', BoxS (W1.setCell ⟨b9, 5, Option.none⟩ vn) b9 base o c t m vi v' L (F ++ [x])) ∧ Off (fun k => k = p ∨ k = b5 ∨ base ≤ k) W0 (W1.setCell ⟨b9, 5, Option.none⟩ vn) := by
  have hne := fds_ins h.bx
  obtain ⟨hr, h, hof, hbb⟩ := h
  obtain ⟨_, _, _, e9⟩ := app_conjF h hr hg h6
  have hal : ∀ k, k < W.heap.size → (W.alloc ob).heap[k]? = W.heap[k]? := fun k hk => Below.heap_alloc _ _ k hk
  have hk : ∀ k, k < W.heap.size → some k ≠ vf.ownBlock → W1.heap[k]? = W.heap[k]? := fun k hk hne => (hg.block k (by simp; omega) hne).trans (hal k hk)
  have hoff : Off (fun k => base ≤ k) W (W1.setCell ⟨b9, 5, Option.none⟩ vn) := by
    refine Off.trans (b := W1) ⟨hg.os, hg.tape, hg.output, Nat.le_trans (by simp) hg.size, fun k hkk hc => hk k hkk fun e => hc (owns_block h.fds e.symm).1⟩ (off_set hb9)
  have h9 : W1.heap[b9]? = some (.cells #[.string o, .string c, .int .i64 t, .int .i64 m, vi, vf] 33 (0, 0)) := e9.trans h.box
  refine ⟨hr.off hoff (by omega) (by omega) (by omega) (by omega) (by omega), ⟨vn, ⟨?_, ?_, ?_⟩⟩, hof.trans ⟨hoff.os, hoff.tape, hoff.output, hoff.size, fun k hkk hc => hoff.block k hkk fun h => hc (.inr (.inr h))⟩⟩
  · have := Pk.set_block (j := 5) (u := vn) h9
    simpa using this
  · refine owns_kept h.ins fun k hkk => ?_
    obtain ⟨_, cur, hc⟩ := owns_block h.ins hkk
    exact (set_other fun e => by rw [e] at hc; exact ne_type h.box hc (by decide) rfl).trans (hk k (lt_some hc) (hne k hkk))
  · rw [List.length_append, List.length_singleton]
    have e : fdsV (F ++ [x]) = fdsV F ++ [.int .i64 (tmI x)] := by simp [fdsV]
    rw [e]
    refine owns_kept hown fun k hkk => set_other fun e => ?_
    obtain ⟨_, cur, hc⟩ := owns_block hown hkk
    rw [e] at hc
    exact ne_type h9 hc (by decide) rfl

set_option maxRecDepth 100000 in
set_option maxHeartbeats 8000000 in
theorem fd_c (h : RdS W p g b4 b5 b6 s) (hr : BoxS W b9 base o c t m vi vf L F) (hbase : base ≤ W.heap.size) (hL : F.length ≤ 200000) (hb9 : base ≤ b9) (hp : p < base) (hg : g < base) (h4 : b4 < base) (h5 : b5 < base) (h6 : b6 < base) :
    Calls Try.prog 47 #[.pointer (some ⟨b9, 0, Option.none⟩), .pointer (some ⟨b6, 0, Option.none⟩)] W fun e W' => (∃ z, e = .returned z) ∧ RdS W' p g b4 b5 b6 s.time ∧ (∃ vf', BoxS W' b9 base o c t m vi vf' L (F ++ [s.tm])) ∧ Off (fun k => k = p ∨ k = b5 ∨ base ≤ k) W W' := by
  obtain ⟨i0, hi, hz0, hz1, hz2⟩ := info_parts info3
  have x0 : Mid W W p g b4 b5 b6 b9 base o c t m vi vf L F s := ⟨h, hr, ⟨rfl, rfl, rfl, Nat.le_refl _, fun _ _ _ => rfl⟩, hbase⟩
  obtain ⟨_, c9, c4, c6⟩ := x0.cells
  have hT2 := midTime x0.drew hb9 hp h5
  have hNE := Lib.hid (fd_news · (tmI s.tm))
  clear h hr x0
  have hml : F.length + 1 ≤ maxLen := by unfold maxLen; omega
  have hby : (F.length + 1) * 8 ≤ 140737488355328 := by omega
  go_enter Try.func47, Try.ntmps47
  go_wp2_with fail
  go_region_law (first
    | (refine step_append_lies _ rfl (.tmp 3) (.tmp 6) 23 rfl base 3 i0 (.int .i64 0) 1 8 Try.underlying23 hi hz0 hz1 hz2 rfl (by decide) vf F.length (fdsV F) (by simp [Act.eval]) HOWN.out ⟨W2.heap.size, 0, Option.none⟩ 1 1 [.int .i64 (tmI s.tm)] (by simp [Act.eval]) rfl (hNE.out W2).1 (hNE.out W2).2 (by decide) hml hby HS2.out _ rfl ?_; intro gg cap W8 hown8 hg8 hat8 hlt8; obtain ⟨u9, _, f9, _⟩ := app_conjF X2.out.bx X2.out.rd hg8 h6; have HE := Lib.hid (X2.out.endF (x := s.tm) hg8 hb9 hp hg h4 h5 h6 hown8); clear hown8 hg8 hat8 hlt8)
    | (go_simp; go_at_call 40; refine hT2.mono ?_; rintro e W2 ⟨rfl, x2⟩; obtain ⟨_, z9, z4, z6⟩ := x2.cells; obtain ⟨ho2, hs2, v9⟩ := x2.appF (tmI s.tm); have HOWN := Lib.hid ho2; have HS2 := Lib.hid hs2; have X2 := Lib.hid x2; clear x2 ho2 hs2 hT2))
  all_goals
    go_end0
    exact ⟨⟨_, rfl⟩, HE.out⟩
end
end Go.Proofs.Ytdijpoemimebmaa.Rn
