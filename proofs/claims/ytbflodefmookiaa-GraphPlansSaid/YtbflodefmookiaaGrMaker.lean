/-
  orNone, Maker.
-/
import Derived.Test.YtbflodefmookiaaGrNeeded
namespace Go.Proofs.Ytbflodefmookiaa.Gr
open Go.RowKit Go.Maps Go.Proofs.Ytbflodefmookiaa Go.Proofs.Ytbflodefmookiaa.Pr

theorem nilG_no (w : World) (ad : Addr) : Sem.run Try.prog (binOp BinOp.eql 27 (.pointer (some ad)) (.pointer none)) w = .ok (.bool false) w := by kernel_rfl

set_option maxRecDepth 100000 in
set_option maxHeartbeats 4000000 in
theorem orNone_c {w : World} {ad : Addr} : Calls Try.prog 42 #[.pointer (some ad)] w fun e w' => e = .returned (.pointer (some ad)) ∧ w = w' := by
  have hy := fun w => nilG_no w ad
  go_enter Try.func42, Try.ntmps42
  go_wp2_with fail
  go_ret
  exact ⟨rfl, rfl⟩

set_option maxRecDepth 100000 in
set_option maxHeartbeats 4000000 in
theorem maker_c {w : World} {gp : Nat} {ve vd : Value} {m n : Nat} {L : List Ed} {D : List Bs} {mkr : Bs → Option Nat} (hG : Gph w gp ve vd m n L D mkr) {s : Bs} (hs : s.length ≤ maxLen) :
    Calls Try.prog 17 #[.pointer (some ⟨gp, 0, none⟩), .string (mk s)] w fun e w' => e = .returned (.tuple #[.int .i64 ((mkr s).getD 0 : Nat), .bool (mkr s).isSome]) ∧ w = w' := by
  have cm : w.cell? ⟨gp, 2, none⟩ = some (.map (some m)) := by simp [World.cell?, hG.box]
  have hlk := hG.mks.look hs
  have ho := orNone_c (w := w) (ad := ⟨gp, 0, none⟩)
  replace hlk : (Instr.lookup 68 (.map (some m)) (.string (mk s)) true).run Try.prog w = .ok (.tuple #[.int .i64 ((mkr s).getD 0 : Nat), .bool (mkr s).isSome]) w := by
    rw [hlk]
    cases mkr s <;> rfl
  generalize (mkr s).getD 0 = k at *
  generalize (mkr s).isSome = b at *
  clear hG
  go_enter Try.func17, Try.ntmps17
  go_wp2_with fail
  refine ho.mono ?_
  rintro e w1 ⟨rfl, rfl⟩
  go_wp2_with fail
  refine bodyPost_ret (v := .tuple #[.int .i64 (k : Int), .bool b]) (by simp [results, Try.f17, go_sem]) rfl ?_
  exact ⟨rfl, rfl⟩
end Go.Proofs.Ytbflodefmookiaa.Gr
