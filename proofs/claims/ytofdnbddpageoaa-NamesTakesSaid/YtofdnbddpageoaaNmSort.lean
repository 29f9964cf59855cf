/-
  WHAT All TELLS, SORTED: names by their bytes.
-/
import Derived.Test.YtofdnbddpageoaaNmShelf
import Derived.Test.YtofdnbddpageoaaNmLookW
namespace Go.Proofs.Ytofdnbddpageoaa.Nm
open Go.RowKit Go.Maps Go.Sort Go.Shelf

theorem cmp_lt : ∀ (a b : List UInt8), Lib.compareBytes a b < 0 ↔ a < b
  | [], [] => by simp [Lib.compareBytes]
  | [], _ :: _ => by simp [Lib.compareBytes]
  | _ :: _, [] => by simp [Lib.compareBytes]
  | a :: l, b :: k => by
    have ih := cmp_lt l k
    unfold Lib.compareBytes
    rw [List.cons_lt_cons_iff]
    by_cases h1 : a < b
    · simp [h1]
    · by_cases h2 : b < a
      · have : a ≠ b := fun e => by subst e; exact h1 h2
        simp [h1, h2, this]
      · have e : a = b := UInt8.le_antisymm (UInt8.not_lt.1 h2) (UInt8.not_lt.1 h1)
        subst e
        simp [h1, ih]

def cfS (s t : ByteArray) : Int := Lib.compareBytes s.data.toList t.data.toList
theorem ltS (s t : ByteArray) : ltOf cfS s t = decide (bsOf s < bsOf t) := by
  unfold ltOf cfS bsOf
  exact decide_eq_decide.2 (cmp_lt _ _)
theorem swoS : SWO (ltOf cfS) where
  irrefl x := by rw [ltS]; simp [List.lt_irrefl]
  trans x y z h1 h2 := by rw [ltS] at *; simp only [decide_eq_true_eq] at *; exact List.lt_trans h1 h2
  ntrans x y z h1 h2 := by rw [ltS] at *; simp only [decide_eq_false_iff_not, List.not_lt] at *; exact List.le_trans h2 h1
theorem totS (x y : ByteArray) (h1 : ltOf cfS x y = false) (h2 : ltOf cfS y x = false) : x = y := by
  rw [ltS] at h1 h2
  simp only [decide_eq_false_iff_not, List.not_lt] at h1 h2
  exact bsOf_inj (List.le_antisymm h2 h1)
def leS (x y : ByteArray) : Bool := !(ltOf cfS y x)

/-- what was found of name i -/
def foundAt (B : Bo) (i : Nat) : Option Dp := (B.N[i]?).bind fun nm => (B.F[i]?).bind fun o => o.map fun fd => depOf B.N nm fd
def foundL (B : Bo) (j : Nat) : List Dp := (List.range j).filterMap (foundAt B)
theorem foundL_succ (B : Bo) (j : Nat) : foundL B (j + 1) = foundL B j ++ (foundAt B j).toList := by
  unfold foundL
  rw [List.range_succ, List.filterMap_append]
  cases e : foundAt B j <;> simp [List.filterMap, e]
/-- sorted by the outputs -/
def sortD (FL : List Dp) : List Dp := ((FL.map Dp.out).mergeSort leS).filterMap fun s => FL.find? fun x => decide (x.out = s)
def allL (B : Bo) : List Dp := sortD (foundL B B.F.length)

abbrev Gd := Dp × Option Addr × Nat
def Gd.v (g : Gd) : Value := .slice g.2.1 g.1.deps.length g.2.2
def depV (G : List Gd) : List Value := G.flatMap fun g => [.string g.1.out, .int .i64 g.1.time, g.v]
theorem depV_snoc (G : List Gd) (g : Gd) : depV (G ++ [g]) = depV G ++ [.string g.1.out, .int .i64 g.1.time, g.v] := by simp [depV]
theorem depV_get (G : List Gd) : ∀ (j : Nat) (g : Gd), G[j]? = some g → (depV G)[j * 3]? = some (.string g.1.out) ∧ (depV G)[j * 3 + 1]? = some (.int .i64 g.1.time) ∧ (depV G)[j * 3 + 2]? = some g.v := by
  induction G with
  | nil => intro j g hj; simp at hj
  | cons z M ih =>
    intro j g hj
    have e : depV (z :: M) = .string z.1.out :: .int .i64 z.1.time :: z.v :: depV M := rfl
    cases j with
    | zero => simp at hj; subst hj; rw [e]; simp
    | succ j =>
      have := ih j g (by simpa using hj)
      rw [e, show (j + 1) * 3 = j * 3 + 3 from by omega]
      simpa using this

/-- the row so far -/
structure AllR (w W : World) (v : Value) (G : List Gd) : Prop where
  own : W.ownsRow w.heap.size 39 3 v G.length (depV G)
  els : ∀ g ∈ G, W.ownsRow w.heap.size 9 1 g.v g.1.deps.length (strV g.1.deps)
  bel : Below w.heap.size w W
theorem AllR.below {w W W1 : World} {v : Value} {G : List Gd} (h : AllR w W v G) (hb : Below W.heap.size W W1) : AllR w W1 v G :=
  ⟨owns_below h.own hb, fun g hg => owns_below (h.els g hg) hb, h.bel.trans (hb.mono h.bel.size)⟩

theorem infoDep : (Try.prog.info? 39).map (fun i => (i.zero, i.size, i.bytes)) = some (some (.agg #[.string ⟨#[]⟩, .int .i64 0, .slice Option.none 0 0]), 3, 48) := by kernel_rfl

theorem dep_app {w W : World} {a : Option Addr} {c : Nat} {G : List Gd} {g : Gd} (h : AllR w W (.slice a G.length c) G) (hg : W.ownsRow w.heap.size 9 1 g.v g.1.deps.length (strV g.1.deps)) (hn : G.length ≤ 1000000) (ty : TypeId) :
    ∃ a' c' w', (Builtin.append_ #[53, 53] ty #[.slice a G.length c, .slice (some ⟨W.heap.size, 0, Option.none⟩) 1 1]).run Try.prog (W.alloc (.cells #[.string g.1.out, .int .i64 g.1.time, g.v] 39)) = .ok (.slice a' (G.length + 1) c') w' ∧ AllR w w' (.slice a' (G ++ [g]).length c') (G ++ [g]) := by
  obtain ⟨i0, hi, hz0, hz1, hz2⟩ := info_parts infoDep
  obtain ⟨W1, hW1⟩ : ∃ V, W.alloc (.cells #[.string g.1.out, .int .i64 g.1.time, g.v] 39) = V := ⟨_, rfl⟩
  have b1 : Below W.heap.size W W1 := by rw [← hW1]; exact Pk.below_alloc _ _
  have e1 : W1.heap[W.heap.size]? = some (.cells #[.string g.1.out, .int .i64 g.1.time, g.v] 39 (0, 0)) := by rw [← hW1]; exact heap_alloc_new _ _
  rw [hW1]
  have h1 := h.below b1
  have hg1 := owns_below hg b1
  obtain ⟨v', w', hr, ho, hgr, -, -⟩ := run_append_own_at (P := Try.prog) W1 w.heap.size 53 ty 39 i0 (.agg #[.string ⟨#[]⟩, .int .i64 0, .slice Option.none 0 0]) 3 48 Try.underlying53 hi hz0 hz1 hz2 rfl (by decide) _ _ _ h1.own ⟨W.heap.size, 0, Option.none⟩ 1 1 [.string g.1.out, .int .i64 g.1.time, g.v] rfl (World.news_of_block e1) (fun u hu => by simp at hu; rcases hu with rfl | rfl | rfl <;> rfl) (by unfold maxLen; omega) (by omega) (by have := h.bel.size; have := b1.size; omega)
  obtain ⟨a', c', rfl⟩ := own_slice ho
  have hk : ∀ (v : Value) (n : Nat) (xs : List Value), W1.ownsRow w.heap.size 9 1 v n xs → w'.ownsRow w.heap.size 9 1 v n xs := fun v n xs hv => owns_kept hv fun k hk => hgr.block k (hv.lt k hk).2 fun e => by
    obtain ⟨_, _, x1⟩ := owns_block hv hk
    obtain ⟨_, _, x2⟩ := owns_block h1.own e.symm
    exact ne_type x1 x2 (by decide) rfl
  refine ⟨a', c', w', hr, ?_, fun q hq => ?_, ?_⟩
  · rw [depV_snoc, List.length_append]
    exact ho
  · rcases List.mem_append.1 hq with hq | hq
    · exact hk _ _ _ (h1.els q hq)
    · rw [List.mem_singleton.1 hq]
      exact hk _ _ _ hg1
  · exact h1.bel.trans ⟨hgr.os, hgr.tape, hgr.output, hgr.size, fun k hkk => hgr.block k (by have := h1.bel.size; omega) fun e => by have := (h1.own.lt k e.symm).1; omega⟩
end Go.Proofs.Ytofdnbddpageoaa.Nm
