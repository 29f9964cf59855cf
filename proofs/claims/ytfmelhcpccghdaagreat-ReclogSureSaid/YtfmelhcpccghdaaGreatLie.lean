/-
  A ROW OF THE LAW'S OWN, AND THE DISK BESIDE IT.
-/
import Derived.Test.YtfmelhcpccghdaaGreatOks
import Derived.Test.YtfmelhcpccghdaaGreatLed
namespace Go.Proofs.YtfmelhcpccghdaaGreat
open Go.RowKit Go.Maps

variable {X : Nat → Prop} {K : Nat} {w : World} {p : Nat} {q : Pl} {d : Ds}

theorem wpList_append_app {w w2 : World} {ops : Array Oper} {rest : List Oper} {o : Oper} {a : Act} {Q : Exit → Act → World → Prop} (hgd : o.guard = none) (s x : Operand)
    (ho : o.op = .call { callee := .builtin .append, args := #[s, x], argTypes := #[31, 31] }) (hty : o.type = 31) (v1 v2 v : Value) (hs : a.eval s = v1) (hx : a.eval x = v2)
    (hrun : (Builtin.append_ #[31, 31] 31 #[v1, v2]).run Tryz.prog w = .ok v w2) (h : wpList Tryz.prog ops Q rest (a.put o.dst v) w2) : wpList Tryz.prog ops Q (o :: rest) a w := by
  refine wpList_plain hgd fun K hK => ?_
  unfold Oper.wp
  simp [execOp, ho, hty, resolve, invoke, builtin, hs, hx, hrun, Result.andThen]
  exact hK _ _ h

/-- rows of bytes that came in -/
def Mat (w : World) (v : Value) (rows : List (List UInt8)) : Prop :=
  ∃ a cap, v = .slice a rows.length cap ∧ ∀ j r, rows[j]? = some r → ∃ b o u, a = some ⟨b, o, none⟩ ∧ b < w.heap.size ∧ w.cell? ⟨b, o + j, none⟩ = some u ∧ BRow w u r

def pre (rows : List (List UInt8)) (i : Nat) : List UInt8 := (rows.take i).flatten
theorem pre_succ {rows : List (List UInt8)} {i : Nat} {r : List UInt8} (h : rows[i]? = some r) : pre rows (i + 1) = pre rows i ++ r := by
  have := (List.getElem?_eq_some_iff.1 h)
  obtain ⟨hi, rfl⟩ := this
  unfold pre
  rw [List.take_succ_eq_append_getElem hi, List.flatten_append, List.flatten_cons, List.flatten_nil, List.append_nil]
theorem pre_all (rows : List (List UInt8)) : pre rows rows.length = rows.flatten := by unfold pre; rw [List.take_length]

/-- the law's own row, and the disk beside it -/
structure Lie (w0 : World) (X : Nat → Prop) (K : Nat) (w : World) (p : Nat) (d : Ds) (va : Value) (bs : List UInt8) : Prop where
  disk : Dk X K w p d
  old : ∀ k, k < w0.heap.size → X k
  below : Below w0.heap.size w0 w
  row : w.ownsRow 0 5 1 va bs.length (bytesV bs)
  own : ∀ k, va.ownBlock = some k → X k ∧ w0.heap.size ≤ k

theorem Lie.mono {w0 : World} {va : Value} {bs : List UInt8} (h : Lie w0 X K w p d va bs) {K' : Nat} (hK : K ≤ K') : Lie w0 X K' w p d va bs := ⟨h.disk.mono hK, h.old, h.below, h.row, h.own⟩
theorem Lie.same {w0 : World} {va : Value} {bs : List UInt8} (h : Lie w0 X K w p d va bs) {w' : World} {K' : Nat} {d' : Ds} (hs : Same X w w') (hd : Dk X K' w' p d') : Lie w0 X K' w' p d' va bs := by
  have hin : ∀ k, X k → k < w.heap.size := by obtain ⟨q, hq⟩ := h.disk; exact hq.inX
  exact ⟨hd, h.old, h.below.trans (hs.below h.below.size h.old), row_kept h.row fun k hk => hs.block k (hin k (h.own k hk).1) (h.own k hk).1, h.own⟩
theorem Lie.up {w0 : World} {va : Value} {bs : List UInt8} (h : Lie w0 X K w p d va bs) {w' : World} (hb : Below w.heap.size w w') : Lie w0 (Since X w w') K w' p d va bs := by
  have hin : ∀ k, X k → k < w.heap.size := by obtain ⟨q, hq⟩ := h.disk; exact hq.inX
  exact ⟨h.disk.since hb, fun k hk => .inl (h.old k hk), h.below.trans (hb.mono h.below.size), row_kept h.row fun k hk => hb.block k (hin k (h.own k hk).1), fun k hk => ⟨.inl (h.own k hk).1, (h.own k hk).2⟩⟩
theorem Lie.app {w0 : World} {va : Value} {bs : List UInt8} (h : Lie w0 X K w p d va bs) {w' : World} {va' : Value} {bs' : List UInt8} (hg : w.grownBy w' va.ownBlock) (hr : w'.ownsRow 0 5 1 va' bs'.length (bytesV bs'))
    (hb : ∀ k, va'.ownBlock = some k → va.ownBlock = some k ∨ w.heap.size ≤ k) : Lie w0 (Since X w w') K w' p d va' bs' := by
  have hin : ∀ k, X k → k < w.heap.size := by obtain ⟨q, hq⟩ := h.disk; exact hq.inX
  have hlt : ∀ k, va'.ownBlock = some k → k < w'.heap.size := fun k hk => by
    obtain ⟨cur, hc⟩ := row_elem hr hk
    exact lt_of_some hc
  refine ⟨h.disk.frame hg.size (fun k hk hX => hg.block k hk fun e => hX (h.own k e.symm).1) (fun k hk hY => ?_) (fun k hY => ?_), fun k hk => .inl (h.old k hk), ?_, hr, fun k hk => ?_⟩
  · rcases hY with hY | hY
    · exact hY
    · have := hY.1; omega
  · rcases hY with hY | hY
    · exact Nat.lt_of_lt_of_le (hin k hY) hg.size
    · exact hY.2
  · exact h.below.trans ⟨hg.os, hg.tape, hg.output, hg.size, fun k hk => hg.block k (Nat.lt_of_lt_of_le hk h.below.size) fun e => by have := (h.own k e.symm).2; omega⟩
  · rcases hb k hk with h1 | h1
    · exact ⟨.inl (h.own k h1).1, (h.own k h1).2⟩
    · exact ⟨.inr ⟨h1, hlt k hk⟩, Nat.le_trans h.below.size h1⟩

theorem slice_of {v : Value} {bs : List UInt8} (h : BRow w v bs) : ∃ a c, v = .slice a bs.length c := by
  rcases h with ⟨rfl, rfl⟩ | ⟨a, c, rfl, _⟩
  · exact ⟨_, _, rfl⟩
  · exact ⟨_, _, rfl⟩

end Go.Proofs.YtfmelhcpccghdaaGreat
