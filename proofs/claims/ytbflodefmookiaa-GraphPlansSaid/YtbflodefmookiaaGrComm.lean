/-
  A SEND WITH ROOM, AND A SELECT OF ONE RECEIVE WITH A DEFAULT, WITHIN THE PLAIN WALK: what is left of a region, as the machine of one runs it.
-/
import Derived.Conc.LoneSelect
import Derived.Calls
namespace Go.Proofs.Ytbflodefmookiaa.Gr
open Go Go.Conc

/-- What is left of a region, run to its end. -/
def RegW (P : Program) (ops : Array Oper) (Q : Exit → Act → World → Prop) (l : List Nat) (a : Act) (w : World) : Prop :=
  ∀ (b : Frame) (k : List Item) (cs : List Frame), ∃ e a' w', Q e a' w' ∧ Arrives P (lone (b.at a (.inRegion ops l :: k)) cs w) b k cs e a' w'

section
variable {P : Program} {ops : Array Oper} {Q : Exit → Act → World → Prop} {l rest : List Nat} {i : Nat} {o : Oper} {a : Act} {w w₁ : World} {v z z' : Value} {c cap s r : Nat} {buf : Array Value} {tm closed : Bool}

theorem RegW.plain (h : wpOps P ops Q l a w) : RegW P ops Q l a w := wp_ops l a w h
theorem RegW.done (h : Q .normal a w) : RegW P ops Q [] a w := RegW.plain h

theorem RegW.value (ho : ops[i]? = some o) (hw : Region.wanted o (yielded ops a.tmps) = true) (hr : (execOp a.eval o).run P w = .ok (.value v) w₁)
    (h : RegW P ops Q rest (a.put o.dst v) w₁) : RegW P ops Q (i :: rest) a w := by
  intro b k cs
  obtain ⟨e, a', w', hq, harr⟩ := h b k cs
  have hg := stepG_op (P := P) (b := b) (k := k) (cs := cs) (w := w) (rest := rest) ho hw
  have hfin : (b.at a (.inRegion ops (i :: rest) :: k)).finish v = b.at (a.put o.dst v) (.inRegion ops rest :: k) := by rw [Frame.finish_at, ho]; rfl
  refine ⟨e, a', w', hq, .of_steps (.one (step_lone_go ?_)) harr⟩
  rw [hg, ← hfin]; simp [stepG.apply, hr]

theorem RegW.skip (ho : ops[i]? = some o) (hw : Region.wanted o (yielded ops a.tmps) = false) (h : RegW P ops Q rest (a.put o.dst undef) w) : RegW P ops Q (i :: rest) a w := by
  intro b k cs
  obtain ⟨e, a', w', hq, harr⟩ := h b k cs
  have hs := step_op_skip (P := P) (b := b) (a := a) (k := k) (cs := cs) (w := w) (ops := ops) (i := i) (rest := rest) (by simp [ho, hw])
  rw [ho] at hs
  exact ⟨e, a', w', hq, .of_steps (.one hs) harr⟩

theorem stepG_any {b : Frame} {k : List Item} {cs : List Frame} {cases : Array CommCase} {blocking : Bool} {shape : CommShape} (ho : ops[i]? = some o) (hw : Region.wanted o (yielded ops a.tmps) = true)
    (hr : (execOp a.eval o).run P w = .ok (.comm cases blocking shape) w₁) :
    ∃ es, stepG P true (G (b.at a (.inRegion ops (i :: rest) :: k)) cs) w = .comm (G (b.at a (.inRegion ops (i :: rest) :: k)) cs) cases blocking shape w₁ es := by
  have hg := stepG_op (P := P) (b := b) (k := k) (cs := cs) (w := w) (rest := rest) ho hw
  rw [show G (b.at a (.inRegion ops (i :: rest) :: k)) cs = { frame := b.at a (.inRegion ops (i :: rest) :: k), callers := cs, status := .running, dying := none } from rfl, hg]
  simp only [stepG.apply, Sem.runT_eq, hr, GStep.after]
  exact ⟨_, rfl⟩

theorem RegW.send (ho : ops[i]? = some o) (hw : Region.wanted o (yielded ops a.tmps) = true) (hr : (execOp a.eval o).run P w = .ok (.comm #[scase c v z'] true .send) w₁)
    (hc : w₁.heap[c]? = some (.chan cap buf false s r tm)) (hroom : buf.size < cap)
    (h : RegW P ops Q rest (a.put o.dst undef) (w₁.setChan c cap (buf.push v) false (s + 1) r tm)) : RegW P ops Q (i :: rest) a w := by
  intro b k cs
  obtain ⟨e, a', w', hq, harr⟩ := h b k cs
  obtain ⟨es, hg⟩ := stepG_any (b := b) (k := k) (cs := cs) (rest := rest) ho hw hr
  have hfin : (b.at a (.inRegion ops (i :: rest) :: k)).finish undef = b.at (a.put o.dst undef) (.inRegion ops rest :: k) := by rw [Frame.finish_at, ho]; rfl
  have hs := step_lone_send_room hg hc hroom
  rw [hfin] at hs
  exact ⟨e, a', w', hq, .of_steps (.one hs) harr⟩

theorem RegW.recv (ho : ops[i]? = some o) (hw : Region.wanted o (yielded ops a.tmps) = true) (hr : (execOp a.eval o).run P w = .ok (.comm #[rcase c z] false .select) w₁)
    (hc : w₁.heap[c]? = some (.chan cap buf closed s r tm)) (hsome : 0 < buf.size)
    (h : RegW P ops Q rest (a.put o.dst (.tuple #[goInt 0, .bool true, buf.getD 0 undef])) (w₁.setChan c cap (buf.extract 1 buf.size) closed s (r + 1) tm)) : RegW P ops Q (i :: rest) a w := by
  intro b k cs
  obtain ⟨e, a', w', hq, harr⟩ := h b k cs
  obtain ⟨es, hg⟩ := stepG_any (b := b) (k := k) (cs := cs) (rest := rest) ho hw hr
  have hfin : (b.at a (.inRegion ops (i :: rest) :: k)).finish (.tuple #[goInt 0, .bool true, buf.getD 0 undef]) = b.at (a.put o.dst (.tuple #[goInt 0, .bool true, buf.getD 0 undef])) (.inRegion ops rest :: k) := by
    rw [Frame.finish_at, ho]; rfl
  have hs := step_lone_select_recv_buf hg hc hsome
  rw [hfin] at hs
  exact ⟨e, a', w', hq, .of_steps (.one hs) harr⟩

theorem RegW.default (ho : ops[i]? = some o) (hw : Region.wanted o (yielded ops a.tmps) = true) (hr : (execOp a.eval o).run P w = .ok (.comm #[rcase c z] false .select) w₁)
    (hc : w₁.heap[c]? = some (.chan cap #[] false s r tm))
    (h : RegW P ops Q rest (a.put o.dst (.tuple #[goInt (-1), .bool false, z])) w₁) : RegW P ops Q (i :: rest) a w := by
  intro b k cs
  obtain ⟨e, a', w', hq, harr⟩ := h b k cs
  obtain ⟨es, hg⟩ := stepG_any (b := b) (k := k) (cs := cs) (rest := rest) ho hw hr
  have hfin : (b.at a (.inRegion ops (i :: rest) :: k)).finish (.tuple #[goInt (-1), .bool false, z]) = b.at (a.put o.dst (.tuple #[goInt (-1), .bool false, z])) (.inRegion ops rest :: k) := by
    rw [Frame.finish_at, ho]; rfl
  have hs := step_lone_select_default hg hc
  rw [hfin] at hs
  exact ⟨e, a', w', hq, .of_steps (.one hs) harr⟩

theorem wp_region_reg {id : Nat} (h : RegW P ops Q (List.range ops.size) a w) : (Code.region id ops false).wp P Q a w :=
  fun b k cs => let ⟨e, a', w', q, r⟩ := h b k cs; ⟨e, a', w', q, .of_steps (.one step_region) r⟩
theorem wp_region_drawn {id : Nat} (h : ∀ t, RegW P ops Q (Region.schedule (P.follows .mixedOrders) ops t) a { w with drawn := w.drawn + 1 }) : (Code.region id ops true).wp P Q a w :=
  fun b k cs => let ⟨e, a', w', q, r⟩ := h _ b k cs; ⟨e, a', w', q, .of_steps (.one step_region_draw) r⟩
end
end Go.Proofs.Ytbflodefmookiaa.Gr
