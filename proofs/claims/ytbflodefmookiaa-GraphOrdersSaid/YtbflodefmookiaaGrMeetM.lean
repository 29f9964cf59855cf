/-
  WHAT making HOLDS: who is met, and who is to be walked yet.
-/
import Derived.Test.YtbflodefmookiaaGrKeys
import Derived.Test.YtbflodefmookiaaGrReach
import Derived.Test.YtbflodefmookiaaGrComm
import Derived.Test.YtbflodefmookiaaGrIno
namespace Go.Proofs.Ytbflodefmookiaa.Gr
open Go.RowKit Go.Maps Go.Conc Go.Proofs.Ytbflodefmookiaa Go.Proofs.Ytbflodefmookiaa.Pr

/-- all blocks of cells stand -/
def KeepC (w w' : World) : Prop := ∀ (g : Nat) C t b, w.heap[g]? = some (.cells C t b) → w'.heap[g]? = w.heap[g]?
theorem KeepC.refl (w : World) : KeepC w w := fun _ _ _ _ _ => rfl
theorem KeepC.trans {a b c : World} (h : KeepC a b) (k : KeepC b c) : KeepC a c := fun g C t x hc => by
  have h1 := h g C t x hc
  exact (k g C t x (h1.trans hc)).trans h1
theorem KeepC.below {w w' : World} (h : Below w.heap.size w w') : KeepC w w' := fun g _ _ _ hc => h.block g (lt_some hc)
theorem KeepC.t {w w' : World} (h : KeepC w w') : KeepT w w' := fun g C b hc => h g C _ b hc
theorem block_of_cell {w : World} {g j : Nat} {v : Value} (h : w.cell? ⟨g, j, none⟩ = some v) : ∃ C t b, w.heap[g]? = some (.cells C t b) := by
  unfold World.cell? at h
  cases hb : w.heap[g]? with
  | none => rw [hb] at h; simp at h
  | some o =>
    rw [hb] at h
    cases o with
    | cells C t b => exact ⟨C, t, b, rfl⟩
    | _ => simp at h
theorem Strs.keepC {w w' : World} {v : Value} {K : List Bs} (h : Strs w v K) (hk : KeepC w w') (hs : w.heap.size ≤ w'.heap.size) : Strs w' v K := by
  obtain ⟨a, c, e, hc, h⟩ := h
  refine ⟨a, c, e, hc, ?_⟩
  rcases h with h | ⟨g, off, e, hg, hcell⟩
  · exact .inl h
  · refine .inr ⟨g, off, e, by omega, fun j p hp => ?_⟩
    obtain ⟨C, t, b, hbl⟩ := block_of_cell (hcell j p hp)
    exact (cell_of_block (hk g C t b hbl)).trans (hcell j p hp)

structure Mk (w0 w : World) (gb mb nb mm c gp cap : Nat) (S Q : List Nat) : Prop where
  gbx : w.heap[gb]? = some (.cells #[.pointer (some ⟨gp, 0, none⟩)] 27 (0, 0))
  mbx : w.heap[mb]? = some (.cells #[.map (some mm)] 98 (0, 0))
  nbx : w.heap[nb]? = some (.cells #[.chan (some c)] 99 (0, 0))
  set : Is w S.length mm S
  ch : ∃ s r, w.heap[c]? = some (.chan cap (intV Q).toArray false s r false)
  bel : Below w0.heap.size w0 w
  gm : w0.heap.size ≤ mm
  gc : w0.heap.size ≤ c
section
variable {w0 w w' : World} {gb mb nb mm c gp cap : Nat} {S Q : List Nat} {x : Nat}
theorem Mk.below (h : Mk w0 w gb mb nb mm c gp cap S Q) (hb : Below w.heap.size w w') : Mk w0 w' gb mb nb mm c gp cap S Q := by
  obtain ⟨s, r, hc⟩ := h.ch
  exact ⟨(hb.block _ (lt_some h.gbx)).trans h.gbx, (hb.block _ (lt_some h.mbx)).trans h.mbx, (hb.block _ (lt_some h.nbx)).trans h.nbx, h.set.kept (hb.block _ h.set.lt), ⟨s, r, (hb.block _ (lt_some hc)).trans hc⟩, h.bel.trans (hb.mono h.bel.size), h.gm, h.gc⟩
theorem Mk.put (h : Mk w0 w gb mb nb mm c gp cap S Q) (hn : S.length ≤ 1000000) (hx : x ≤ 1000000) :
    ∃ w', (Instr.mapUpdate 98 (.map (some mm)) (.int .i64 (x : Int)) (.agg #[])).run Try.prog w = .ok () w' ∧ Mk w0 w' gb mb nb mm c gp cap (S ++ [x]) Q ∧ KeepC w w' ∧ w'.heap.size = w.heap.size := by
  obtain ⟨w', hrun, hI, hg, hsz⟩ := h.set.put (by unfold maxLen; omega) hx
  obtain ⟨es, cl, hm⟩ := h.set.map
  obtain ⟨s, r, hc⟩ := h.ch
  have hk : KeepC w w' := fun g C t b hb => hg.block g (lt_some hb) fun e => by
    have e2 := Option.some.inj e
    rw [e2, hm] at hb
    cases hb
  refine ⟨w', hrun, ⟨(hk _ _ _ _ h.gbx).trans h.gbx, (hk _ _ _ _ h.mbx).trans h.mbx, (hk _ _ _ _ h.nbx).trans h.nbx, by rw [List.length_append]; exact hI, ⟨s, r, ?_⟩, h.bel.trans ⟨hg.os, hg.tape, hg.output, hg.size, fun q hq => hg.block q (by have := h.bel.size; omega) fun e => ?_⟩, h.gm, h.gc⟩, hk, hsz⟩
  · rw [hg.block c (lt_some hc) fun e => ?_]
    · exact hc
    · have e2 := Option.some.inj e
      rw [e2, hm] at hc
      cases hc
  · have := Option.some.inj e
    have := h.gm
    omega
theorem Mk.chan (h : Mk w0 w gb mb nb mm c gp cap S Q) (Q' : List Nat) (s r : Nat) : Mk w0 (w.setChan c cap (intV Q').toArray false s r false) gb mb nb mm c gp cap S Q' ∧ KeepC w (w.setChan c cap (intV Q').toArray false s r false) := by
  obtain ⟨s0, r0, hc⟩ := h.ch
  obtain ⟨es, cl, hm⟩ := h.set.map
  have hne : ∀ g, g ≠ c → (w.setChan c cap (intV Q').toArray false s r false).heap[g]? = w.heap[g]? := fun g hg => by simp [World.setChan, Array.getElem?_setIfInBounds_ne (Ne.symm hg)]
  have hk : KeepC w (w.setChan c cap (intV Q').toArray false s r false) := fun g C t b hb => hne g fun e => by
    rw [e, hc] at hb
    cases hb
  refine ⟨⟨(hk _ _ _ _ h.gbx).trans h.gbx, (hk _ _ _ _ h.mbx).trans h.mbx, (hk _ _ _ _ h.nbx).trans h.nbx, h.set.kept (hne mm fun e => ?_), ⟨s, r, heap_setChan w c cap _ false s r false (lt_some hc)⟩, below_setChan h.bel h.gc cap _ false s r false, h.gm, h.gc⟩, hk⟩
  rw [e, hc] at hm
  cases hm
theorem intV_push (Q : List Nat) (x : Nat) : (intV Q).toArray.push (.int .i64 (x : Int)) = (intV (Q ++ [x])).toArray := by simp [intV]
theorem intV_pop (q : Nat) (Q : List Nat) : (intV (q :: Q)).toArray.extract 1 (intV (q :: Q)).toArray.size = (intV Q).toArray := by
  simp only [intV, List.map_cons, List.extract_toArray, List.size_toArray, List.length_cons, List.length_map, List.extract_eq_take_drop, List.drop_succ_cons, List.drop_zero, Nat.add_sub_cancel]
  rw [List.take_of_length_le (by simp)]
end
end Go.Proofs.Ytbflodefmookiaa.Gr
