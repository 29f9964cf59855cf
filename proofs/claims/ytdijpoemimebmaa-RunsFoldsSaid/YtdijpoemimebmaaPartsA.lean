/-
  A PART OF A ROW OF RUNS; an append of several runs.
-/
import Derived.Test.YtdijpoemimebmaaLastA
namespace Go.Proofs.Ytdijpoemimebmaa.Rn
open Go.RowKit
open Go.Proofs.Ytdijpoemimebmaa.Cr

theorem RunRow.take {w : World} {a : Option Addr} {n c k : Nat} {L : List Run} (h : RunRow w (.slice a n c) L) (hk : k ≤ L.length) : RunRow w (.slice a k c) (L.take k) := by
  obtain ⟨a', c', e, h1, h2, h3⟩ := h
  cases e
  refine ⟨a, c, by rw [List.length_take, Nat.min_eq_left hk], h1, by rw [List.length_take]; omega, ?_⟩
  rcases h3 with rfl | ⟨b, off, e, hlt, hc⟩
  · exact .inl (by simp)
  · refine .inr ⟨b, off, e, hlt, fun i x hx => hc i x ?_⟩
    have hi := (List.getElem?_eq_some_iff.1 hx).1
    rw [List.length_take] at hi
    rw [List.getElem?_take, if_pos (by omega)] at hx
    exact hx

theorem runV_app (G H : List Gr) : runV (G ++ H) = runV G ++ runV H := by simp [runV]
theorem runV_length (G : List Gr) : (runV G).length = G.length * 6 := by
  induction G with
  | nil => rfl
  | cons g G ih =>
    have e : runV (g :: G) = [.string g.1.out, .string g.1.cmd, .int .i64 g.1.time, .int .i64 g.1.mark, g.2.1, g.2.2] ++ runV G := by simp [runV]
    rw [e, List.length_append, ih]
    simp
    omega

theorem step_appR {ops : Array Oper} {o : Oper} {a : Act} {w : World} {K : Act → World → Prop} {Q : Exit → Act → World → Prop} {E : Prop} (hgd : o.guard = Option.none) (s x : Operand)
    (ho : o.op = .call { callee := .builtin .append, args := #[s, x], argTypes := #[47, 47] })
    (base : Nat) (v : Value) (n : Nat) (xs : List Value) (hs : a.eval s = v) (hown : w.ownsRow base 33 6 v n xs)
    (ad : Addr) (m c : Nat) (news : List Value) (hx : a.eval x = .slice (some ad) m c) (hl : news.length = m * 6) (hnews : ∀ j u, news[j]? = some u → w.cell? (ad.add j) = some u) (hone : ∀ u ∈ news, u.oneCell' = true)
    (hb : n + m ≤ 1000000) (hbase : base ≤ w.heap.size)
    (h : ∀ a' c' w', w'.ownsRow base 33 6 (.slice a' (n + m) c') (n + m) (xs ++ news) → w.grownBy w' v.ownBlock → K (a.put o.dst (.slice a' (n + m) c')) w') :
    if Region.wanted o (yielded ops a.tmps) = true then Oper.wp Try.prog o a w K Q else E := by
  obtain ⟨i0, hi, hz0, hz1, hz2⟩ := info_parts infoR
  rw [if_pos (by simp [Region.wanted, hgd])]
  refine wp_append_own w s x 47 ho base 33 i0 (.agg #[.string ⟨#[]⟩, .string ⟨#[]⟩, .int .i64 0, .int .i64 0, .slice Option.none 0 0, .slice Option.none 0 0]) 6 96 Try.underlying47 hi hz0 hz1 hz2 rfl (by decide) v n xs hs hown ad m c news hx hl hnews hone (by unfold maxLen; omega) (by omega) hbase ?_
  intro v' w' h1 h2 _
  obtain ⟨a', c', rfl⟩ := own_slice h1
  exact h a' c' w' h1 h2
end Go.Proofs.Ytdijpoemimebmaa.Rn
