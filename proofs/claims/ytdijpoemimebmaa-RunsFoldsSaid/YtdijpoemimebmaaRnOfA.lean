/-
  ROWS OF INPUTS AND OF TIMES that the laws' own conversions make; an append of a []int that came in.
-/
import Derived.Test.YtdijpoemimebmaaRnLight
import Derived.Test.YtdijpoemimebmaaRnRead5
import Derived.Deep.DeepCutAuto
namespace Go.Proofs.Ytdijpoemimebmaa.Rn
open Go.RowKit
open Go.Proofs.Ytdijpoemimebmaa.Cr

def tV (L : List Int) : List Value := L.map fun t => .int .i64 t

theorem tV_length (L : List Int) : (tV L).length = L.length := by simp [tV]

theorem run_appI {w : World} {base n : Nat} {v vf : Value} {xs : List Value} {L : List Int} (hown : w.ownsRow base 3 1 v n xs) (hf : FdRow w vf L) (hb : n + L.length ≤ 1000000) (hbase : base ≤ w.heap.size) (ty : TypeId) :
    ∃ v' w', (Builtin.append_ #[23, 23] ty #[v, vf]).run Try.prog w = .ok v' w' ∧ w'.ownsRow base 3 1 v' (n + L.length) (xs ++ tV L) ∧ w.grownBy w' v.ownBlock := by
  obtain ⟨i0, hi, hz0, hz1, hz2⟩ := info_parts info3
  obtain ⟨a, c, rfl, hnil, hle, hrow⟩ := hf
  cases a with
  | none =>
    obtain rfl : c = 0 := hnil rfl
    obtain rfl : L = [] := List.eq_nil_of_length_eq_zero (by omega)
    refine ⟨v, w, run_append_owned_none (P := Try.prog) w base 23 ty 3 i0 1 Try.underlying23 hi _ _ _ hown, by simpa [tV] using hown, ⟨rfl, rfl, rfl, Nat.le_refl _, fun _ _ _ => rfl⟩⟩
  | some ad =>
    have hc : ∀ j u, (tV L)[j]? = some u → w.cell? (ad.add j) = some u := fun j u hu => by
      rcases hrow with rfl | ⟨b, off, e, _, hcell⟩
      · simp [tV] at hu
      · cases e
        unfold tV at hu
        rw [List.getElem?_map] at hu
        obtain ⟨t, ht, rfl⟩ := Option.map_eq_some_iff.1 hu
        rw [Go.WideShapes.add_plain]
        exact hcell j t ht
    have hone : ∀ u ∈ tV L, u.oneCell' = true := fun u hu => by
      unfold tV at hu
      obtain ⟨t, _, rfl⟩ := List.mem_map.1 hu
      rfl
    obtain ⟨v', w', hr, h2, h3, _, _⟩ := run_append_own_at (P := Try.prog) w base 23 ty 3 i0 (.int .i64 0) 1 8 Try.underlying23 hi hz0 hz1 hz2 rfl (by decide) v n xs hown ad L.length c (tV L) (by rw [tV_length]; omega) hc hone (by unfold maxLen; omega) (by omega) hbase
    exact ⟨v', w', hr, h2, h3⟩

theorem step_appI {ops : Array Oper} {o : Oper} {a : Act} {w : World} {Kp : Act → World → Prop} {Q : Exit → Act → World → Prop} {E : Prop} (hgd : o.guard = Option.none) (s x : Operand)
    (ho : o.op = .call { callee := .builtin .append, args := #[s, x], argTypes := #[23, 23] }) {base n : Nat} {v vf : Value} {xs : List Value} {L : List Int} (hs : a.eval s = v) (hown : w.ownsRow base 3 1 v n xs) (hx : a.eval x = vf) (hf : FdRow w vf L) (hb : n + L.length ≤ 1000000) (hbase : base ≤ w.heap.size)
    (h : ∀ v' w', w'.ownsRow base 3 1 v' (n + L.length) (xs ++ tV L) → w.grownBy w' v.ownBlock → Kp (a.put o.dst v') w') :
    if Region.wanted o (yielded ops a.tmps) = true then Oper.wp Try.prog o a w Kp Q else E := by
  have hw : Region.wanted o (yielded ops a.tmps) = true := by simp [Region.wanted, hgd]
  rw [if_pos hw]
  obtain ⟨v', w', hr, h2, h3⟩ := run_appI hown hf hb hbase o.type
  unfold Oper.wp execOp
  simp only [ho, resolve, invoke, builtin, Sem.run_bind, Sem.run_pure, Result.andThen_ok, List.map_toArray, List.map_cons, List.map_nil, hs, hx, hr]
  exact h v' w' h2 h3

/-- inputs as cells -/
def inV (L : List In) : List Value := L.flatMap fun i => [.string i.name, .int .i64 i.time]

theorem inV_snoc (L : List In) (x : In) : inV (L ++ [x]) = inV L ++ [.string x.name, .int .i64 x.time] := by simp [inV]

theorem inV_get (L : List In) : ∀ (j : Nat) (y : In), L[j]? = some y → (inV L)[j * 2]? = some (.string y.name) ∧ (inV L)[j * 2 + 1]? = some (.int .i64 y.time) := by
  induction L with
  | nil => intro j y hj; simp at hj
  | cons z M ih =>
    intro j y hj
    have e : inV (z :: M) = .string z.name :: .int .i64 z.time :: inV M := rfl
    cases j with
    | zero => simp at hj; subst hj; rw [e]; simp
    | succ j =>
      have := ih j y (by simpa using hj)
      rw [e, show (j + 1) * 2 = j * 2 + 2 from by omega]
      simpa using this

/-- what is owned is there -/
theorem own_at {W : World} {base e k n : Nat} {v : Value} {xs : List Value} (h : W.ownsRow base e k v n xs) : (v = .slice Option.none 0 0 ∧ n = 0) ∨ ∃ g cap, v = .slice (some ⟨g, 0, Option.none⟩) n cap ∧ base ≤ g ∧ g < W.heap.size ∧ n ≤ cap ∧ ∀ j u, xs[j]? = some u → W.cell? ⟨g, j, Option.none⟩ = some u := by
  rcases h.2 with ⟨rfl, h0⟩ | ⟨gg, cap, cur, rfl, hb, hg, hle, _, hsz, htake⟩
  · exact .inl ⟨rfl, h0⟩
  · refine .inr ⟨gg, cap, rfl, hb, lt_some hg, hle, fun j u hj => ?_⟩
    have hcur : cur[j]? = some u := by
      rw [← htake, List.getElem?_take] at hj
      split at hj
      · simpa using hj
      · cases hj
    simp [World.cell?, hg, hcur]

theorem inRow_of {W : World} {base e : Nat} {v : Value} {L : List In} (h : W.ownsRow base e 2 v L.length (inV L)) : InRow W v L := by
  rcases own_at h with ⟨rfl, h0⟩ | ⟨g, cap, rfl, hb, hlt, hle, hc⟩
  · obtain rfl : L = [] := List.eq_nil_of_length_eq_zero h0
    exact ⟨Option.none, 0, rfl, fun _ => rfl, Nat.le_refl _, .inl rfl⟩
  · refine ⟨some ⟨g, 0, Option.none⟩, cap, rfl, (fun e => nomatch e), hle, .inr ⟨g, 0, rfl, hlt, fun i x hx => ?_⟩⟩
    obtain ⟨k0, k1⟩ := inV_get L i x hx
    rw [Nat.zero_add]
    exact ⟨hc _ _ k0, hc _ _ k1⟩

theorem fdRow_of {W : World} {base : Nat} {v : Value} {L : List Int} (h : W.ownsRow base 3 1 v L.length (tV L)) : FdRow W v L := by
  rcases own_at h with ⟨rfl, h0⟩ | ⟨g, cap, rfl, hb, hlt, hle, hc⟩
  · obtain rfl : L = [] := List.eq_nil_of_length_eq_zero h0
    exact ⟨Option.none, 0, rfl, fun _ => rfl, Nat.le_refl _, .inl rfl⟩
  · refine ⟨some ⟨g, 0, Option.none⟩, cap, rfl, (fun e => nomatch e), hle, .inr ⟨g, 0, rfl, hlt, fun i x hx => ?_⟩⟩
    rw [Nat.zero_add]
    exact hc _ _ (by simp [tV, hx])

/-- what of a run, a result and a row is read while an input is put -/
abbrev SW (b1 b3 : Nat) (ui vi : Value) (b o : Nat) (x : In) (W : World) : Prop :=
  W.cell? ⟨b3, 4, Option.none⟩ = some ui ∧ W.cell? ⟨b1, 4, Option.none⟩ = some vi ∧ W.cell? ⟨b, o, Option.none⟩ = some (.string x.name) ∧ W.cell? ⟨b, o + 1, Option.none⟩ = some (.int .i64 x.time)

theorem sw_kept {b1 b3 b o : Nat} {ui vi : Value} {x : In} {W W1 : World} (h : SW b1 b3 ui vi b o x W) (h3 : W1.heap[b3]? = W.heap[b3]?) (h1 : W1.heap[b1]? = W.heap[b1]?) (hb : W1.heap[b]? = W.heap[b]?) : SW b1 b3 ui vi b o x W1 :=
  ⟨(cell_of_block h3).trans h.1, (cell_of_block h1).trans h.2.1, (cell_of_block hb).trans h.2.2.1, (cell_of_block hb).trans h.2.2.2⟩
end Go.Proofs.Ytdijpoemimebmaa.Rn
