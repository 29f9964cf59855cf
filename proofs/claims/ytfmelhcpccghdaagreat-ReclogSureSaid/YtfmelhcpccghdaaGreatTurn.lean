/-
  CHANGES ARE MADE IN A DIRECTORY.
-/
import Derived.Test.YtfmelhcpccghdaaGreatRoom
import Derived.Maps.AppendAt
namespace Go.Proofs.YtfmelhcpccghdaaGreat
open Go.RowKit Go.Maps

theorem wpList_del {w : World} {ops : Array Oper} {rest : List Oper} {o : Oper} {a : Act} {Q : Exit → Act → World → Prop} (hg : o.guard = none) (m x : Operand) (hop : o.op = Op.call { callee := Callee.builtin Builtin.delete, args := #[m, x], argTypes := #[55, 9] })
    {n b : Nat} {f : List UInt8 → Option Nat} {l : List UInt8} (hm : a.eval m = .map (some b)) (hdir : Dir w n b f) (hx : a.eval x = .string (mk l)) (hl : l.length ≤ maxLen)
    (hK : ∀ w', Dir w' n b (upd f l none) → w.grownBy w' (some b) → w'.heap.size = w.heap.size → wpList Tryz.prog ops Q rest (a.put o.dst (.tuple #[])) w') :
    wpList Tryz.prog ops Q (o :: rest) a w := by
  refine wpList_plain hg fun K' hK' => ?_
  obtain ⟨w', hrun, r1, r2, r3⟩ := hdir.del hl o.type
  unfold Oper.wp
  simp [execOp, hop, resolve, invoke, builtin, hm, hx, hrun, Result.andThen]
  exact hK' _ _ (hK w' r1 r2 r3)

theorem wpList_put {w : World} {ops : Array Oper} {rest : List Oper} {o : Oper} {a : Act} {Q : Exit → Act → World → Prop} (hg : o.guard = none) (m x v : Operand) (hop : o.op = Op.mapUpdate 55 m x v)
    {n b i : Nat} {f : List UInt8 → Option Nat} {l : List UInt8} (hm : a.eval m = .map (some b)) (hdir : Dir w n b f) (hn : n < maxLen) (hx : a.eval x = .string (mk l)) (hv : a.eval v = .pointer (some ⟨i, 0, none⟩)) (hl : l.length ≤ maxLen)
    (hK : ∀ w', Dir w' (n + 1) b (upd f l (some i)) → w.grownBy w' (some b) → w'.heap.size = w.heap.size → wpList Tryz.prog ops Q rest (a.put o.dst undef) w') :
    wpList Tryz.prog ops Q (o :: rest) a w := by
  refine wpList_plain hg fun K' hK' => ?_
  obtain ⟨w', hrun, r1, r2, r3⟩ := hdir.put hn hl i
  unfold Oper.wp
  simp [execOp, hop, hm, hx, hv, hrun, Result.andThen]
  exact hK' _ _ (hK w' r1 r2 r3)

/-- v reads as these changes -/
def CRow (w : World) (v : Value) (cs : List Ch) : Prop :=
  ∃ a cap, v = .slice a cs.length cap ∧ (cs = [] ∨ ∃ g, a = some ⟨g, 0, none⟩ ∧ g < w.heap.size ∧ ∀ j c, cs[j]? = some c → w.cell? ⟨g, j * 3, none⟩ = some (.string (mk c.src)) ∧ w.cell? ⟨g, j * 3 + 1, none⟩ = some (.string (mk c.dst)) ∧ w.cell? ⟨g, j * 3 + 2, none⟩ = some (ptr c.file))

theorem chsV_at : ∀ {cs : List Ch} {j : Nat} {c : Ch}, cs[j]? = some c → (chsV cs)[j * 3]? = some (.string (mk c.src)) ∧ (chsV cs)[j * 3 + 1]? = some (.string (mk c.dst)) ∧ (chsV cs)[j * 3 + 2]? = some (ptr c.file)
  | [], j, c, h => by simp at h
  | x :: r, 0, c, h => by
    simp at h
    subst h
    refine ⟨rfl, rfl, rfl⟩
  | x :: r, j + 1, c, h => by
    have e : chsV (x :: r) = chV x ++ chsV r := rfl
    have := chsV_at (cs := r) (j := j) (c := c) (by simpa using h)
    rw [e]
    have e3 : (chV x).length = 3 := rfl
    refine ⟨?_, ?_, ?_⟩
    · rw [List.getElem?_append_right (by rw [e3]; omega), e3, show (j + 1) * 3 - 3 = j * 3 from by omega]; exact this.1
    · rw [List.getElem?_append_right (by rw [e3]; omega), e3, show (j + 1) * 3 + 1 - 3 = j * 3 + 1 from by omega]; exact this.2.1
    · rw [List.getElem?_append_right (by rw [e3]; omega), e3, show (j + 1) * 3 + 2 - 3 = j * 3 + 2 from by omega]; exact this.2.2

theorem row_chs {w : World} {base : Nat} {v : Value} {cs : List Ch} (h : w.ownsRow base 96 3 v cs.length (chsV cs)) : CRow w v cs := by
  rcases h.2 with ⟨rfl, hn⟩ | ⟨g, cap, cur, rfl, _, hg, _⟩
  · obtain rfl := List.eq_nil_of_length_eq_zero hn; exact ⟨none, 0, rfl, .inl rfl⟩
  · refine ⟨_, _, rfl, .inr ⟨g, rfl, lt_of_some hg, fun j c hc => ?_⟩⟩
    obtain ⟨h1, h2, h3⟩ := chsV_at hc
    have c1 := h.cells (g := g) rfl _ _ h1
    have c2 := h.cells (g := g) rfl _ _ h2
    have c3 := h.cells (g := g) rfl _ _ h3
    rw [Go.WideShapes.add_plain, Nat.zero_add] at c1 c2 c3
    exact ⟨c1, c2, c3⟩

theorem cell_at_new (w : World) (C : Array Value) (t : TypeId) (o : Nat) (v : Value) (h : C[o]? = some v) : (w.alloc (.cells C t)).cell? ⟨w.heap.size, o, none⟩ = some v := by
  rw [World.cell?_alloc_at _ _ _ _ rfl]; exact h

set_option maxHeartbeats 2000000 in
theorem turn_c {w : World} {n m : Nat} {f : List UInt8 → Option Nat} {cs : List Ch} {v : Value} (h : Dir w n m f) (hr : CRow w v cs) (hn : n + cs.length ≤ 100000) (hshort : ∀ c ∈ cs, c.src.length ≤ maxLen ∧ c.dst.length ≤ maxLen)
    (hne : ∀ g, v.ownBlock = some g → g ≠ m) :
    Calls Tryz.prog 61 #[.map (some m), v] w fun e w' => (∃ x, e = .returned x) ∧ Dir w' (n + cs.length) m (turns f cs) ∧ w.grownBy w' (some m) := by
  obtain ⟨a, cap, rfl, hc⟩ := hr
  have HD := Lib.hid h
  have HC := Lib.hid hc
  have HS := Lib.hid hshort
  have HNE := Lib.hid hne
  have hml := h.lt
  generalize hN : cs.length = N at *
  have HN := Lib.hid hN
  clear h hc hshort hne hN
  go_enter Tryz.func61, Tryz.ntmps61
  go_wp2
  go_loopw [8] (fun i wr => ∃ j : Nat, j ≤ N ∧ i = .int .i64 j ∧ Dir wr (n + j) m (turns f (cs.take j)) ∧ w.grownBy wr (some m)) (fun i _ => N - (intOf i).toNat)
  case atStart => exact ⟨0, Nat.zero_le _, rfl, HD.out, World.grownBy.mk rfl rfl rfl (Nat.le_refl _) (fun _ _ _ => rfl)⟩
  case round =>
    obtain ⟨j, hj, rfl, hdir, hg⟩ := hrel
    by_cases hlt : j < N
    · obtain ⟨c, hc⟩ : ∃ c, cs[j]? = some c := ⟨cs[j]'(by have := HN.out; omega), List.getElem?_eq_getElem (by have := HN.out; omega)⟩
      have hmem : c ∈ cs := List.mem_of_getElem? hc
      obtain ⟨l1, l2⟩ := HS.out c hmem
      obtain ⟨g, rfl, hgl, hcells⟩ : ∃ g, a = some ⟨g, 0, none⟩ ∧ g < w.heap.size ∧ ∀ j c, cs[j]? = some c → w.cell? ⟨g, j * 3, none⟩ = some (.string (mk c.src)) ∧ w.cell? ⟨g, j * 3 + 1, none⟩ = some (.string (mk c.dst)) ∧ w.cell? ⟨g, j * 3 + 2, none⟩ = some (ptr c.file) := by
        rcases HC.out with h | h
        · rw [h] at hc; simp at hc
        · exact h
      have hgm : g ≠ m := HNE.out g rfl
      obtain ⟨k0, k1, k2⟩ := hcells j c hc
      have kk : ∀ o x, w.cell? ⟨g, o, none⟩ = some x → wr.cell? ⟨g, o, none⟩ = some x := fun o x hx => hg.cell hx (by simp; exact hgm)
      have k0' := kk _ _ k0
      have k1' := kk _ _ k1
      have k2' := kk _ _ k2
      have hst : turns f (cs.take (j + 1)) = turn1 (turns f (cs.take j)) c := by
        rw [List.take_add_one, hc]; exact turns_snoc _ _ _
      cases hcf : c.file with
      | none =>
        rw [hcf, ptr_none] at k2'
        rw [turn1_none hcf] at hst
        have HST := Lib.hid hst
        clear k0 k1 k2 kk hcells hc hmem hst hcf
        go_wp2_with (at_delete; refine wpList_del rfl _ _ rfl rfl (hdir.kept (Below.heap_alloc _ _ _ (by have := hdir.lt; omega))) rfl l1 ?_; intro w1 hd1 hg1 hs1; have hn1 : m ≠ wr.heap.size := (by have := hdir.lt; omega); have q1 : w1.cell? ⟨wr.heap.size, 1, none⟩ = some (.string (mk c.dst)) := hg1.cell (cell_at_new _ _ _ _ _ rfl) (by simp; omega); have q2 : w1.cell? ⟨wr.heap.size, 2, none⟩ = some (.pointer none) := hg1.cell (cell_at_new _ _ _ _ _ rfl) (by simp; omega))
        go_roundw
        case rel => exact ⟨j + 1, by omega, by go_num, by rw [HST.out]; exact hd1.mono (by omega), hg.trans ((World.grownBy_alloc wr _ _).trans hg1)⟩
        case measure => simp [intOf]; omega
      | some i =>
        rw [hcf, ptr_some] at k2'
        rw [turn1_file hcf] at hst
        have HST := Lib.hid hst
        clear k0 k1 k2 kk hcells hc hmem hst hcf
        go_wp2_with (first | (at_delete; refine wpList_del rfl _ _ rfl rfl (hdir.kept (Below.heap_alloc _ _ _ (by have := hdir.lt; omega))) rfl l1 ?_; intro w1 hd1 hg1 hs1; have hn1 : m ≠ wr.heap.size := (by have := hdir.lt; omega); have q1 : w1.cell? ⟨wr.heap.size, 1, none⟩ = some (.string (mk c.dst)) := hg1.cell (cell_at_new _ _ _ _ _ rfl) (by simp; omega); have q2 : w1.cell? ⟨wr.heap.size, 2, none⟩ = some (.pointer (some ⟨i, 0, none⟩)) := hg1.cell (cell_at_new _ _ _ _ _ rfl) (by simp; omega)) | (at_mapUpdate; refine wpList_put rfl _ _ _ rfl rfl hd1 (by unfold maxLen; omega) rfl rfl l2 ?_; intro w2 hd2 hg2 hs2))
        go_roundw
        case rel => exact ⟨j + 1, by omega, by go_num, by rw [HST.out]; exact hd2.mono (by omega), hg.trans ((World.grownBy_alloc wr _ _).trans (hg1.trans hg2))⟩
        case measure => simp [intOf]; omega
    · obtain rfl : j = N := by omega
      have hall : cs.take cs.length = cs := List.take_length
      rw [HN.out] at hall
      rw [hall] at hdir
      clear hall
      go_wp2
      go_end0
      exact ⟨⟨_, rfl⟩, hdir, hg⟩
end Go.Proofs.YtfmelhcpccghdaaGreat
