/-
  THE PARTS OF A YtlhhpggjdbbcmaaDoor, ONE BY ONE: the function that is ranged over keeps its word for every loop that keeps what lay ahead of it.
-/
import Derived.Test.YtlhhpggjdbbcmaaDoorPaBase
import Derived.RangeFuncBox
import Derived.RangeFuncLeaves
import Derived.Shelf.Abstract
import Derived.OwnWalkIn
import Derived.TacticsInMore
import Derived.LoopNIn
import Derived.LoopIn
import Derived.Maps.AppendAt
namespace Go.Proofs.YtlhhpggjdbbcmaaDoor
open Go.RowKit Go.Shelf

attribute [local go_sem] Oper.semAt_some

def strLen : Value → Nat
  | .string s => s.size
  | _ => 0
def moreN : Value → Nat
  | .bool true => 1
  | _ => 0

set_option maxHeartbeats 1000000 in
/-- parts: the name is boxed; the function value captures the box -/
theorem parts_in (n : Nat) (s : ByteArray) (w : World) :
    CallsIn Fence.wide n Tryd.prog 61 #[.string s] w fun e w' => e = .returned (.func (.func 67) #[] #[.pointer (some ⟨w.heap.size, 0, none⟩)]) ∧ w' = w.alloc (.cells #[.string s] 9) := by
  refine callsIn_of_wp Tryd.func61 rfl trivial ?_ rfl
  simp only [Tryd.ntmps61, List.size_toArray, List.length_cons, List.length_nil, Nat.reduceAdd, Nat.reduceSub, Array.replicate_succ, Array.replicate_zero, List.push_toArray, List.append_toArray, List.nil_append, List.cons_append]
  gi_wp2
  go_ret
  exact ⟨rfl, rfl⟩

set_option maxRecDepth 100000 in
set_option maxHeartbeats 1000000 in
theorem parts1_in (n : Nat) (hn : 1 ≤ n) (l Bn n₀ : Nat) (s : Bs) (hs : s.length < 4611686018427387904) (J Jx : List Bs → World → Prop)
    (hJd : ∀ pre W k, J pre W → J pre (W.drewN k))
    (hY : ∀ pre x W, J pre W → pre.length < (splitC [] s).length → YieldAt Fence.wide (n - 1) Tryd.prog l #[.string (mk x)] W fun e W' =>
      (e = .returned (.bool true) ∧ J (pre ++ [x]) W' ∧ Below n₀ W W') ∨ (e = .returned (.bool false) ∧ Jx (pre ++ [x]) W'))
    (W : World) (hBn : W.cell? ⟨Bn, 0, none⟩ = some (.string (mk s))) (h0 : J [] W) :
    CallsIn Fence.wide n Tryd.prog 67 #[.func (.yield l) #[] #[], .pointer (some ⟨Bn, 0, none⟩)] W fun e W' => (∃ v, e = .returned v) ∧
      ((∃ ys, ys = splitC [] s ∧ J ys W') ∨ (∃ pre, pre <+: splitC [] s ∧ Jx pre W')) := by
  obtain ⟨xs, hxs⟩ : ∃ xs, splitC [] s = xs := ⟨_, rfl⟩
  rw [hxs] at hY ⊢
  refine callsIn_of_wp Tryd.func67 rfl trivial ?_ rfl
  simp only [Tryd.ntmps67, List.size_toArray, List.length_cons, List.length_nil, Nat.reduceAdd, Nat.reduceSub, Array.replicate_succ, Array.replicate_zero, List.push_toArray, List.append_toArray, List.nil_append, List.cons_append]
  gi_wp2
  gi_loopw [3, 4] (fun p m wr => ∃ (pre : List Bs) (r : Bs) (b : Bool), p = .string (mk r) ∧ m = .bool b ∧ r.length ≤ s.length ∧ (if b = true then pre ++ splitC [] r = xs else pre = xs) ∧ J pre wr)
    (fun p m _ => moreN m * (strLen p + 1))
  case atStart =>
    exact ⟨[], s, true, rfl, rfl, Nat.le_refl _, by simpa using hxs, h0⟩
  case round =>
    obtain ⟨pre, r, b, rfl, rfl, hr, hx, hJs⟩ := hrel
    cases b with
    | false =>
      rw [if_neg (by decide)] at hx
      gi_wp2
      go_end0
      exact ⟨⟨_, rfl⟩, .inl ⟨pre, hx, hJs⟩⟩
    | true =>
      rw [if_pos rfl] at hx
      gi_wp2
      refine ⟨trivial, (callsIn_wide.2 (cut_c r wr (by omega))).mono ?_⟩
      rintro e W2 ⟨⟨k, rfl⟩, ⟨hc, rfl⟩ | ⟨x, b, hc, hlt, rfl⟩⟩
      · rw [hc] at hx
        obtain ⟨fn, tmps, assign, body, hy, hR⟩ := hY pre r (wr.drewN k) (hJd _ _ _ hJs) (by rw [← hx]; simp)
        gi_wp2
        refine hR.mono ?_
        rintro e W3 (⟨rfl, hJ3, hk3⟩ | ⟨rfl, hJx3⟩)
        · gi_wp2
          go_roundw
          case rel => exact ⟨pre ++ [r], [], false, rfl, rfl, Nat.zero_le _, hx, hJ3⟩
          case measure => simp [moreN]
        · gi_wp2
          refine bodyPost_ret (results_none rfl _ _ _) rfl ?_
          exact ⟨⟨_, rfl⟩, .inr ⟨pre ++ [r], by rw [hx]; exact List.prefix_refl _, hJx3⟩⟩
      · rw [hc] at hx
        obtain ⟨fn, tmps, assign, body, hy, hR⟩ := hY pre x (wr.drewN k) (hJd _ _ _ hJs) (by rw [← hx]; simp)
        gi_wp2
        refine hR.mono ?_
        rintro e W3 (⟨rfl, hJ3, hk3⟩ | ⟨rfl, hJx3⟩)
        · gi_wp2
          go_roundw
          case rel => exact ⟨pre ++ [x], b, true, rfl, rfl, by omega, by rw [if_pos rfl, ← hx]; simp, hJ3⟩
          case measure => simp only [moreN, strLen, mk_size]; omega
        · gi_wp2
          refine bodyPost_ret (results_none rfl _ _ _) rfl ?_
          exact ⟨⟨_, rfl⟩, .inr ⟨pre ++ [x], ⟨splitC [] b, by rw [← hx]; simp⟩, hJx3⟩⟩

theorem parts_stops (n : Nat) (hn : 1 ≤ n) (Bn n₀ : Nat) (s : Bs) (hs : s.length < 4611686018427387904) (w : World) (hBn : Bn < w.heap.size)
    (hc : w.cell? ⟨Bn, 0, none⟩ = some (.string (mk s))) :
    SeqStopsK Fence.wide n Tryd.prog 67 #[.pointer (some ⟨Bn, 0, none⟩)] (fun x : Bs => #[Value.string (mk x)]) (Below n₀) (fun ys => ys = splitC [] s) (fun pre => pre <+: splitC [] s) (splitC [] s).length w :=
  fun l J Jx W hW hJ _ hY h0 =>
    parts1_in n hn l Bn n₀ s hs J Jx (fun pre W k h => hJ pre W _ none h ⟨rfl, rfl, rfl, Nat.le_refl _, fun _ _ _ => rfl⟩ (by simp)) hY W ((hW.cell (p := ⟨Bn, 0, none⟩) hBn).trans hc) h0
end Go.Proofs.YtlhhpggjdbbcmaaDoor
