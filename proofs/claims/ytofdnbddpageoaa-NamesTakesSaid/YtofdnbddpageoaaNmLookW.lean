/-
  WHAT A BOOK HAS OF AN OUTPUT: dep, Look; Same.
-/
import Derived.Test.YtofdnbddpageoaaNmNames
namespace Go.Proofs.Ytofdnbddpageoaa.Nm
open Go.RowKit Go.Maps

set_option maxRecDepth 100000 in
set_option maxHeartbeats 4000000 in
theorem same_c {w : World} {d : Dp} {va vb : Value} (ha : StrRow w va d.deps) (hb : StrRow w vb d.deps) (hn : d.deps.length ≤ 1000000) :
    Calls Try.prog 16 #[.agg #[.string d.out, .int .i64 d.time, va], .agg #[.string d.out, .int .i64 d.time, vb]] w fun e w' => e = .returned (.bool true) ∧ Below w.heap.size w w' := by
  obtain ⟨W0, hW0⟩ : ∃ W, (w.alloc (.cells #[.string d.out, .int .i64 d.time, va] 42)).alloc (.cells #[.string d.out, .int .i64 d.time, vb] 42) = W := ⟨_, rfl⟩
  have z1 : (w.alloc (.cells #[.string d.out, .int .i64 d.time, va] 42)).heap.size = w.heap.size + 1 := World.size_alloc _ _
  have x1 : W0.heap[w.heap.size]? = some (.cells #[.string d.out, .int .i64 d.time, va] 42 (0, 0)) := by
    rw [← hW0, Below.heap_alloc _ _ _ (by rw [z1]; omega)]
    exact heap_alloc_new _ _
  have x2 : W0.heap[w.heap.size + 1]? = some (.cells #[.string d.out, .int .i64 d.time, vb] 42 (0, 0)) := by
    rw [← hW0, ← z1]
    exact heap_alloc_new _ _
  have hB : Below w.heap.size w W0 := by
    rw [← hW0]
    exact ((Below.refl _ _).alloc (Nat.le_refl _) _).alloc (by rw [z1]; omega) _
  obtain ⟨⟨c0, c1, c2⟩, -⟩ := thr_cells x1
  obtain ⟨⟨k0, k1, k2⟩, -⟩ := thr_cells x2
  have HB := Lib.hid hB
  obtain ⟨aa, ca, rfl, hca, hra⟩ := ha.below hB
  obtain ⟨ab, cb, rfl, hcb, hrb⟩ := hb.below hB
  have HA := Lib.hid hra
  have HBR := Lib.hid hrb
  clear x1 x2 hB z1 ha hb hra hrb
  go_enter Try.func16, Try.ntmps16
  go_wp2_with fail
  go_loopw [5] (fun i wr => ∃ j : Nat, j ≤ d.deps.length ∧ i = .int .i64 j ∧ Hid (∃ k, wr = W0.drewN k)) (fun i _ => d.deps.length - (intOf i).toNat)
  case atStart => exact ⟨0, Nat.zero_le _, rfl, Lib.hid ⟨0, rfl⟩⟩
  case round =>
    obtain ⟨j, hj, rfl, hW⟩ := hrel
    obtain ⟨k, rfl⟩ := hW.out
    by_cases hlt : j < d.deps.length
    · have hx := List.getElem?_eq_getElem hlt
      rcases HA.out with h | ⟨b1, o1, rfl, hb1, hc1⟩
      · rw [h] at hlt; simp at hlt
      rcases HBR.out with h | ⟨b2, o2, rfl, hb2, hc2⟩
      · rw [h] at hlt; simp at hlt
      have x1 := hc1 j _ hx
      have x2 := hc2 j _ hx
      generalize d.deps[j] = s at *
      have t0 : (s.toList == s.toList) = true := by simp
      have hm0 : (0 : Int) ≤ (j : Int) := by omega
      have hm1 : (j : Int) < (d.deps.length : Int) := by omega
      clear hx hc1 hc2 hW0
      go_wp2_with fail
      go_quiet (fail)
      go_wp2_with fail
      go_roundw
      case rel => exact ⟨j + 1, by omega, by go_num, Lib.hid ⟨_, rfl⟩⟩
      case measure => simp [intOf]; omega
    · obtain rfl : j = d.deps.length := by omega
      clear hW0
      go_wp2_with fail
      go_ret
      exact ⟨rfl, below_drawn HB.out k⟩

/-! ### what a book has of an output -/
theorem made_strs (M : Nat) (hM : M ≤ 1000000) : ∃ C : Array Value, (∀ W : World, (Instr.makeSlice 27 (.int .i64 (M : Int)) (.int .i64 (M : Int))).run Try.prog W = .ok (.slice (some ⟨W.heap.size, 0, Option.none⟩) M M) (W.alloc (.cells C 9))) ∧
    (∀ (W : World) (base : Nat), base ≤ W.heap.size → (W.alloc (.cells C 9)).ownsRow base 9 1 (.slice (some ⟨W.heap.size, 0, Option.none⟩) M M) M (List.replicate M (.string ⟨#[]⟩))) := by
  obtain ⟨i0, hi, hz0, hz1, hz2⟩ := info_parts info9
  refine ⟨madeCells #[.string ⟨#[]⟩] M, fun W => ?_, fun W base hb => ?_⟩
  · have hm := run_make (P := Try.prog) W 27 9 i0 (.string ⟨#[]⟩) Try.underlying27 hi hz0 .i64 .i64 (M : Int) (M : Int) (by omega) (by omega) (by rw [hz2]; omega) (by omega)
    rw [Int.toNat_natCast, hz1, Nat.mul_one] at hm
    exact hm
  · have h1 := World.ownsRow_lit (base := base) (e := 9) (size := 1) W (madeCells #[.string ⟨#[]⟩] M) M hb (by unfold maxLen; omega) (by rw [← Array.length_toList, toList_madeCells_one]; simp)
    rw [toList_madeCells_one] at h1
    exact h1

/-- the cells that dep reads of a book -/
abbrev DepR (p q : Nat) (v1 : Value) (gN i : Nat) (nm : ByteArray) (t : Nat) (vn : Value) (W : World) : Prop :=
  W.cell? ⟨p, 0, Option.none⟩ = some v1 ∧ W.cell? ⟨gN, i, Option.none⟩ = some (.string nm) ∧ W.cell? ⟨q, 0, Option.none⟩ = some (.int .i64 (t : Int)) ∧ W.cell? ⟨q, 1, Option.none⟩ = some vn

/-- behind the making of the result: its box k, its row g -/
def DeQ (w : World) (nm : ByteArray) (t M : Nat) (s6 : Value) (W : World) : Prop :=
  ∃ k g, s6 = .pointer (some ⟨k, 0, Option.none⟩) ∧ W.heap[k]? = some (.cells #[.string nm, .int .i64 (t : Int), .slice (some ⟨g, 0, Option.none⟩) M M] 39 (0, 0)) ∧ W.heap[w.heap.size]? = some (.cells #[.string ⟨#[]⟩, .int .i64 0, .slice Option.none 0 0] 39 (0, 0)) ∧ k ≠ w.heap.size ∧ w.heap.size ≤ k ∧
    W.ownsRow w.heap.size 9 1 (.slice (some ⟨g, 0, Option.none⟩) M M) M (List.replicate M (.string ⟨#[]⟩)) ∧ Below w.heap.size w W

section
variable {w W0 : World} {nm : ByteArray} {t M : Nat} {C : Array Value}
theorem dq_a (hz : W0.heap[w.heap.size]? = some (.cells #[.string ⟨#[]⟩, .int .i64 0, .slice Option.none 0 0] 39 (0, 0))) (hb : Below w.heap.size w W0) (hs : W0.heap.size = w.heap.size + 1)
    (ho : ∀ (W : World) (base : Nat), base ≤ W.heap.size → (W.alloc (.cells C 9)).ownsRow base 9 1 (.slice (some ⟨W.heap.size, 0, Option.none⟩) M M) M (List.replicate M (.string ⟨#[]⟩))) :
    DeQ w nm t M (.pointer (some ⟨w.heap.size + 1 + 1, 0, Option.none⟩)) ((W0.alloc (.cells C 9)).alloc (.cells #[.string nm, .int .i64 (t : Int), .slice (some ⟨w.heap.size + 1, 0, Option.none⟩) M M] 39)).drew := by
  have h1 := ho W0 w.heap.size hb.size
  have z1 : (W0.alloc (.cells C 9)).heap.size = w.heap.size + 1 + 1 := by rw [World.size_alloc, hs]
  rw [hs] at h1
  refine ⟨_, w.heap.size + 1, rfl, ?_, ?_, by omega, by omega, ?_, ?_⟩
  · rw [← z1]; exact heap_alloc_new _ _
  · exact (Below.heap_alloc _ _ _ (by rw [z1]; omega)).trans ((Below.heap_alloc _ _ _ (lt_some hz)).trans hz)
  · exact owns_below h1 (below_drew (Pk.below_alloc _ _))
  · exact below_drew ((hb.alloc hb.size _).alloc (by rw [z1]; omega) _)
theorem dq_b (hz : W0.heap[w.heap.size]? = some (.cells #[.string ⟨#[]⟩, .int .i64 0, .slice Option.none 0 0] 39 (0, 0))) (hb : Below w.heap.size w W0) (hs : W0.heap.size = w.heap.size + 1)
    (ho : ∀ (W : World) (base : Nat), base ≤ W.heap.size → (W.alloc (.cells C 9)).ownsRow base 9 1 (.slice (some ⟨W.heap.size, 0, Option.none⟩) M M) M (List.replicate M (.string ⟨#[]⟩))) :
    DeQ w nm t M (.pointer (some ⟨w.heap.size + 1, 0, Option.none⟩)) ((W0.alloc (.cells #[.string nm, .int .i64 (t : Int), .slice (some ⟨w.heap.size + 1 + 1, 0, Option.none⟩) M M] 39)).alloc (.cells C 9)).drew := by
  have z1 : (W0.alloc (.cells #[.string nm, .int .i64 (t : Int), .slice (some ⟨w.heap.size + 1 + 1, 0, Option.none⟩) M M] 39)).heap.size = w.heap.size + 1 + 1 := by rw [World.size_alloc, hs]
  have h1 := ho (W0.alloc (.cells #[.string nm, .int .i64 (t : Int), .slice (some ⟨w.heap.size + 1 + 1, 0, Option.none⟩) M M] 39)) w.heap.size (by rw [z1]; omega)
  rw [z1] at h1
  refine ⟨_, w.heap.size + 1 + 1, rfl, ?_, ?_, by omega, by omega, h1, ?_⟩
  · refine (Below.heap_alloc _ _ _ (by rw [z1]; omega)).trans ?_
    rw [← hs]; exact heap_alloc_new _ _
  · exact (Below.heap_alloc _ _ _ (by rw [z1]; omega)).trans ((Below.heap_alloc _ _ _ (lt_some hz)).trans hz)
  · exact below_drew ((hb.alloc hb.size _).alloc (by rw [z1]; omega) _)
end

/-- within the loop: j names are laid -/
structure DeS (w W : World) (nm : ByteArray) (t M k g : Nat) (N : List ByteArray) (l : List Nat) (j : Nat) : Prop where
  box : W.heap[k]? = some (.cells #[.string nm, .int .i64 (t : Int), .slice (some ⟨g, 0, Option.none⟩) M M] 39 (0, 0))
  res : W.heap[w.heap.size]? = some (.cells #[.string ⟨#[]⟩, .int .i64 0, .slice Option.none 0 0] 39 (0, 0))
  row : W.ownsRow w.heap.size 9 1 (.slice (some ⟨g, 0, Option.none⟩) M M) M (strV ((l.take j).map (nameAt N)) ++ List.replicate (M - j) (.string ⟨#[]⟩))
  bel : Below w.heap.size w W

theorem DeS.drew {w W : World} {nm : ByteArray} {t M k g : Nat} {N : List ByteArray} {l : List Nat} {j : Nat} (h : DeS w W nm t M k g N l j) : DeS w W.drew nm t M k g N l j := ⟨h.box, h.res, h.row, below_drew h.bel⟩

theorem DeS.next {w W : World} {nm : ByteArray} {t M k g : Nat} {N : List ByteArray} {l : List Nat} {j n : Nat} (h : DeS w W nm t M k g N l j) (hj : l[j]? = some n) (hM : l.length = M) :
    W.cell? ⟨g, j, Option.none⟩ = some (.string ⟨#[]⟩) ∧ W.frozen? ⟨g, j, Option.none⟩ = false ∧ w.heap.size ≤ g ∧ DeS w (W.setCell ⟨g, j, Option.none⟩ (.string (nameAt N n))) nm t M k g N l (j + 1) := by
  have hjl := (List.getElem?_eq_some_iff.1 hj).1
  have hlen : (strV ((l.take j).map (nameAt N))).length = j := by simp [strV]; omega
  have a1 := h.row.cellAt j (by simp [strV]; omega)
  have e0 : (strV ((l.take j).map (nameAt N)) ++ List.replicate (M - j) (.string ⟨#[]⟩))[j]? = some (.string ⟨#[]⟩) := by
    rw [List.getElem?_append_right (by omega), hlen, Nat.sub_self, List.getElem?_replicate, if_pos (by omega)]
  rw [e0] at a1
  obtain ⟨s1, g1⟩ := h.row.stored j (.string (nameAt N n))
  have e1 : (strV ((l.take j).map (nameAt N)) ++ List.replicate (M - j) (Value.string ⟨#[]⟩)).set j (Value.string (nameAt N n)) = strV ((l.take (j + 1)).map (nameAt N)) ++ List.replicate (M - (j + 1)) (Value.string ⟨#[]⟩) := by
    rw [List.set_append_right _ _ (by omega), hlen, Nat.sub_self, show M - j = (M - (j + 1)) + 1 by omega, List.replicate_succ, List.set_cons_zero, List.take_add_one, hj]
    simp [strV]
  rw [e1] at s1
  have hgb : (Value.slice (some ⟨g, 0, Option.none⟩) M M).ownBlock = some g := rfl
  obtain ⟨hgl, cur, hc⟩ := owns_block h.row hgb
  refine ⟨a1, h.row.frozenAt j, hgl, (set_off fun e => ne_type hc (by rw [← e]; exact h.box) (by decide) rfl).trans h.box, (set_off fun e => ne_type hc (by rw [← e]; exact h.res) (by decide) rfl).trans h.res, s1, ?_⟩
  exact ⟨h.bel.os, h.bel.tape, h.bel.output, by rw [World.size_setCell]; exact h.bel.size, fun q hq => (set_off (by omega)).trans (h.bel.block q hq)⟩

set_option maxRecDepth 100000 in
set_option maxHeartbeats 4000000 in
theorem dep_c {b lo hi : Nat} {w : World} {p i : Nat} {B : Bo} {fd : Fd} {nm : ByteArray} (h : Own b lo hi w p B) (hf : B.F[i]? = some (some fd)) (hnm : B.N[i]? = some nm) :
    Calls Try.prog 37 #[.pointer (some ⟨p, 0, Option.none⟩), .int .i64 (i : Int)] w fun e w' => ∃ a c, e = .returned (.agg #[.string nm, .int .i64 (fd.time : Int), .slice a fd.nums.length c]) ∧ w'.ownsRow w.heap.size 9 1 (.slice a fd.nums.length c) fd.nums.length (strV (fd.nums.map (nameAt B.N))) ∧ Below w.heap.size w w' := by
  obtain ⟨S, v1, v2, v3, Q, h1, -⟩ := h
  obtain ⟨q, hQ, hq⟩ := h1.yes i fd hf
  obtain ⟨hnums, -, hfew⟩ := h1.nums i fd hf
  obtain ⟨vn, hbox, hown, -⟩ := hq.ex
  obtain ⟨c0, -, c2, -⟩ := h1.cells
  have hil : i < B.F.length := (List.getElem?_eq_some_iff.1 hf).1
  have hlenF := h1.len
  have hfewN := h1.few
  obtain ⟨a1, k1, rfl⟩ := own_slice h1.names
  obtain ⟨a3, k3, rfl⟩ := own_slice h1.found
  obtain ⟨an, kn, rfl⟩ := own_slice hown
  have hk1 := own_cap h1.names
  have hk3 := own_cap h1.found
  have hkn := own_cap hown
  obtain ⟨g1, rfl, hg1, hcN⟩ : ∃ g, a1 = some ⟨g, 0, Option.none⟩ ∧ g < w.heap.size ∧ ∀ (j : Nat) (s : ByteArray), B.N[j]? = some s → w.cell? ⟨g, j, Option.none⟩ = some (.string s) := by
    rcases own_at h1.names with ⟨e, h0⟩ | ⟨g, cap, e, _, hlt, _, hc⟩
    · omega
    · cases e
      exact ⟨g, rfl, hlt, fun j s hj => hc j _ (by simp [strV, hj])⟩
  obtain ⟨g3, rfl, hcF⟩ : ∃ g, a3 = some ⟨g, 0, Option.none⟩ ∧ w.cell? ⟨g, i, Option.none⟩ = some (.pointer (some ⟨q, 0, Option.none⟩)) := by
    rcases own_at h1.found with ⟨e, h0⟩ | ⟨g, cap, e, _, _, _, hc⟩
    · omega
    · cases e
      exact ⟨g, rfl, hc i _ (by rw [List.getElem?_map, hQ]; rfl)⟩
  have hpl := lt_some h1.box
  have hql := lt_some hbox
  have hb0 : w.cell? ⟨q, 0, Option.none⟩ = some (.int .i64 (fd.time : Int)) := by simp [World.cell?, hbox]
  have hb1 : w.cell? ⟨q, 1, Option.none⟩ = some (.slice an fd.nums.length kn) := by simp [World.cell?, hbox]
  have rd : DepR p q (.slice (some ⟨g1, 0, Option.none⟩) B.N.length k1) g1 i nm fd.time (.slice an fd.nums.length kn) w := ⟨c0, hcN i nm hnm, hb0, hb1⟩
  have RD := Lib.hid (fun (W : World) (hb : Below w.heap.size w W) => (⟨(cell_of_block (hb.block p hpl)).trans rd.1, (cell_of_block (hb.block g1 hg1)).trans rd.2.1, (cell_of_block (hb.block q hql)).trans rd.2.2.1, (cell_of_block (hb.block q hql)).trans rd.2.2.2⟩ : DepR p q (.slice (some ⟨g1, 0, Option.none⟩) B.N.length k1) g1 i nm fd.time (.slice an fd.nums.length kn) W))
  obtain ⟨C, hmk, hmo⟩ := made_strs fd.nums.length hfew
  have HMO := Lib.hid hmo
  obtain ⟨W0, hW0⟩ : ∃ W, w.alloc (.cells #[.string ⟨#[]⟩, .int .i64 0, .slice Option.none 0 0] 39) = W := ⟨_, rfl⟩
  have b0 : Below w.heap.size w W0 := by rw [← hW0]; exact Pk.below_alloc _ _
  have z0 : W0.heap[w.heap.size]? = some (.cells #[.string ⟨#[]⟩, .int .i64 0, .slice Option.none 0 0] 39 (0, 0)) := by rw [← hW0]; exact heap_alloc_new _ _
  have zs : W0.heap.size = w.heap.size + 1 := by rw [← hW0, World.size_alloc]
  have c2' : W0.cell? ⟨p, 2, Option.none⟩ = some (.slice (some ⟨g3, 0, Option.none⟩) B.F.length k3) := (cell_of_block (b0.block p hpl)).trans c2
  have cF' : W0.cell? ⟨g3, i, Option.none⟩ = some (.pointer (some ⟨q, 0, Option.none⟩)) := by
    have hg3 : g3 < w.heap.size := lt_cell hcF
    exact (cell_of_block (b0.block g3 hg3)).trans hcF
  have hnumR : Hid (∀ (j n : Nat), fd.nums[j]? = some n → (∃ gn, an = some ⟨gn, 0, Option.none⟩ ∧ gn < w.heap.size ∧ w.cell? ⟨gn, j, Option.none⟩ = some (.int .i64 (n : Int))) ∧ n < B.N.length) := Lib.hid fun j n hj => by
    refine ⟨?_, hnums n (List.mem_of_getElem? hj)⟩
    rcases own_at hown with ⟨e, h0⟩ | ⟨g, cap, e, _, hlt, _, hc⟩
    · have := (List.getElem?_eq_some_iff.1 hj).1
      omega
    · cases e
      exact ⟨g, rfl, hlt, hc j _ (by simp [intV, hj])⟩
  have HCN := Lib.hid (fun (W : World) (hb : Below w.heap.size w W) j s (hj : B.N[j]? = some s) => (cell_of_block (hb.block g1 hg1)).trans (hcN j s hj))
  have hi0 : (0 : Int) ≤ (i : Int) := by omega
  have hi1 : (i : Int) < (B.F.length : Int) := by omega
  have hi2 : (i : Int) < (B.N.length : Int) := by omega
  have BD := Lib.hid b0
  have HG1 := Lib.hid hg1
  have HPL := Lib.hid hpl
  have Z0 := Lib.hid z0
  have hmap : fd.nums.map (nameAt B.N) = fd.nums.map (nameAt B.N) := rfl
  obtain ⟨M, hM⟩ : ∃ M, fd.nums.length = M := ⟨_, rfl⟩
  have HMM := Lib.hid hM
  rw [hM] at RD hmk HMO hkn hfew ⊢
  have K0 := RD.out _ (below_drew b0)
  have K00 := RD.out _ b0
  have KA := Lib.hid (fun o => RD.out (W0.alloc o).drew (below_drew (b0.alloc b0.size o)))
  have KAA := Lib.hid (fun o1 o2 => RD.out ((W0.alloc o1).alloc o2).drew (below_drew ((b0.alloc b0.size o1).alloc (b0.alloc b0.size o1).size o2)))
  have hleA : w.heap.size ≤ W0.heap.size := by omega
  have hleB : w.heap.size ≤ W0.heap.size + 1 := by omega
  have KT := Lib.hid (fun o1 o2 k v0 v1 v2 (hk : w.heap.size ≤ k) => RD.out (thr ((W0.alloc o1).alloc o2).drew k v0 v1 v2) (thr_below (below_drew ((b0.alloc b0.size o1).alloc (b0.alloc b0.size o1).size o2)) (Nat.le_refl _) hk))
  unfold thr at KT
  clear h1 hq hbox hown hcN c0 c2 hnums rd hb0 hb1 hmo hf hnm hQ hcF hg1 hpl hql b0 z0 hM hmap hlenF hfewN
  go_enter Try.func37, Try.ntmps37
  go_upto_region 2 with fail
  go_cut [6] (fun s6 wx => DeQ w nm fd.time M s6 wx)
  case first =>
    go_region_held3 (fun w' => w'.cell? ⟨p, 0, Option.none⟩ = some (.slice (some ⟨g1, 0, Option.none⟩) B.N.length k1) ∧ w'.cell? ⟨g1, i, Option.none⟩ = some (.string nm) ∧ w'.cell? ⟨q, 0, Option.none⟩ = some (.int .i64 (fd.time : Int)) ∧ w'.cell? ⟨q, 1, Option.none⟩ = some (.slice an M kn))
      (first | with_reducible exact K0 | with_reducible exact KA.out _ | with_reducible exact KAA.out _ _ | with_reducible exact KT.out _ _ _ _ _ _ hleA | with_reducible exact KT.out _ _ _ _ _ _ hleB | fail)
      (fail)
    all_goals
      go_wp2_with fail
      go_meet
      first
        | with_reducible exact dq_a Z0.out BD.out zs HMO.out
        | with_reducible exact dq_b Z0.out BD.out zs HMO.out
  case rest =>
    obtain ⟨k, g, rfl, hbx, hrs, hne, hle, hown, hbel⟩ := hcut
    have HS := Lib.hid (show DeS w wc nm fd.time M k g B.N fd.nums 0 from ⟨hbx, hrs, by simpa [strV] using hown, hbel⟩)
    obtain ⟨x0, x1, x2, x3⟩ := RD.out _ hbel
    clear hbx hrs hown hbel K0 K00 KA KAA KT c2' cF' hmk HMO
    go_wp2_with fail
    go_loopw [39] (fun i wr => ∃ j : Nat, j ≤ M ∧ i = .int .i64 j ∧ Hid (DeS w wr nm fd.time M k g B.N fd.nums j)) (fun i _ => M - (intOf i).toNat)
    case atStart => exact ⟨0, Nat.zero_le _, rfl, HS⟩
    case round =>
      obtain ⟨j, hj, rfl, hS⟩ := hrel
      clear HS
      by_cases hlt : j < M
      · have hjn : j < fd.nums.length := by rw [HMM.out]; exact hlt
        have hx := List.getElem?_eq_getElem hjn
        obtain ⟨⟨gn, rfl, hgn, hcn⟩, hnl⟩ := hnumR.out j _ hx
        generalize fd.nums[j] = n at *
        obtain ⟨d0, d1, hgle, hnx⟩ := hS.out.next hx HMM.out
        have HNX := Lib.hid hnx
        have HNY := Lib.hid hnx.drew
        have hB := hS.out.bel
        obtain ⟨⟨y0, y1, y2⟩, -⟩ := thr_cells hS.out.box
        obtain ⟨z0, -, -, z3⟩ := RD.out _ hB
        have hnm2 : B.N[n]? = some (nameAt B.N n) := by unfold nameAt; rw [List.getD_eq_getElem?_getD, List.getElem?_eq_getElem hnl]; rfl
        have z4 := HCN.out wr hB n _ hnm2
        have z5 : wr.cell? ⟨gn, j, Option.none⟩ = some (.int .i64 (n : Int)) := (cell_of_block (hB.block gn hgn)).trans hcn
        obtain ⟨s, hs⟩ : ∃ s, nameAt B.N n = s := ⟨_, rfl⟩
        rw [hs] at z4 HNX HNY
        have hj0 : (0 : Int) ≤ (j : Int) := by omega
        have hj1 : (j : Int) < (M : Int) := by omega
        have hn0 : (0 : Int) ≤ (n : Int) := by omega
        have hn1 : (n : Int) < (B.N.length : Int) := by omega
        have hnk : k ≠ g := fun e => by
          obtain ⟨_, _, hc⟩ := owns_block hS.out.row (g := g) rfl
          exact ne_type hS.out.box hc (by decide) e
        have hng : g1 ≠ g := fun e => by have : g1 < w.heap.size := HG1.out; omega
        have hnp : p ≠ g := fun e => by have : p < w.heap.size := HPL.out; omega
        have hl0 : wr.drew.cell? ⟨k, 2, Option.none⟩ = some (.slice (some ⟨g, 0, Option.none⟩) M M) ∧ wr.drew.cell? ⟨p, 0, Option.none⟩ = some (.slice (some ⟨g1, 0, Option.none⟩) B.N.length k1) ∧ wr.drew.cell? ⟨g1, n, Option.none⟩ = some (.string s) := ⟨y2, z0, z4⟩
        have hl1 : (wr.drew.setCell ⟨g, j, Option.none⟩ (.string s)).cell? ⟨k, 2, Option.none⟩ = some (.slice (some ⟨g, 0, Option.none⟩) M M) ∧ (wr.drew.setCell ⟨g, j, Option.none⟩ (.string s)).cell? ⟨p, 0, Option.none⟩ = some (.slice (some ⟨g1, 0, Option.none⟩) B.N.length k1) ∧ (wr.drew.setCell ⟨g, j, Option.none⟩ (.string s)).cell? ⟨g1, n, Option.none⟩ = some (.string s) :=
          ⟨(cell_of_block (set_off hnk)).trans y2, (cell_of_block (set_off hnp)).trans z0, (cell_of_block (set_off hng)).trans z4⟩
        have hl2 : (wr.setCell ⟨g, j, Option.none⟩ (.string s)).drew.cell? ⟨k, 2, Option.none⟩ = some (.slice (some ⟨g, 0, Option.none⟩) M M) ∧ (wr.setCell ⟨g, j, Option.none⟩ (.string s)).drew.cell? ⟨p, 0, Option.none⟩ = some (.slice (some ⟨g1, 0, Option.none⟩) B.N.length k1) ∧ (wr.setCell ⟨g, j, Option.none⟩ (.string s)).drew.cell? ⟨g1, n, Option.none⟩ = some (.string s) := hl1
        clear hx hnx hB hcn hs hnm2 y0 y1 z3
        go_wp2_with fail
        go_region_held3 (fun w' => w'.cell? ⟨k, 2, Option.none⟩ = some (.slice (some ⟨g, 0, Option.none⟩) M M) ∧ w'.cell? ⟨p, 0, Option.none⟩ = some (.slice (some ⟨g1, 0, Option.none⟩) B.N.length k1) ∧ w'.cell? ⟨g1, n, Option.none⟩ = some (.string s))
          (first | with_reducible exact hl0 | with_reducible exact hl1 | with_reducible exact hl2 | fail)
          (fail)
        go_wp2_with fail
        go_roundw
        case rel => exact ⟨j + 1, by omega, by go_num, HNY⟩
        case measure => simp [intOf]; omega
      · obtain rfl : j = M := by omega
        have hrow := hS.out.row
        rw [Nat.sub_self, List.replicate_zero, List.append_nil, List.take_of_length_le (by rw [HMM.out]; omega)] at hrow
        obtain ⟨⟨y0, y1, y2⟩, -⟩ := thr_cells hS.out.box
        obtain ⟨⟨r0, r1, r2⟩, f0, f1, f2⟩ := thr_cells hS.out.res
        have z6 := thr_same (v0 := .string nm) (v1 := .int .i64 (fd.time : Int)) (v2 := .slice (some ⟨g, 0, Option.none⟩) j j) hS.out.res
        obtain ⟨⟨s0, s1, s2⟩, -⟩ := thr_cells z6
        have HB6 := Lib.hid (thr_below (v0 := .string nm) (v1 := .int .i64 (fd.time : Int)) (v2 := .slice (some ⟨g, 0, Option.none⟩) j j) hS.out.bel (Nat.le_refl _) (Nat.le_refl w.heap.size))
        have HO6 := Lib.hid (owns_kept (w' := thr wr w.heap.size (.string nm) (.int .i64 (fd.time : Int)) (.slice (some ⟨g, 0, Option.none⟩) j j)) hrow fun q hq => thr_other (by
          obtain ⟨_, _, hc⟩ := owns_block hrow hq
          exact ne_type hc hS.out.res (by decide)))
        unfold thr at s0 s1 s2 HB6 HO6
        have SS := Lib.hid (And.intro s0 (And.intro s1 s2))
        clear z6 s0 s1 s2 hrow
        go_wp2_with fail
        obtain ⟨s0, s1, s2⟩ := SS.out
        refine bodyPost_ret (v := .agg #[.string nm, .int .i64 (fd.time : Int), .slice (some ⟨g, 0, Option.none⟩) j j]) (by simp [results, Try.f37, go_sem, s0, s1, s2]) rfl ?_
        exact ⟨_, _, rfl, HO6.out, HB6.out⟩
end Go.Proofs.Ytofdnbddpageoaa.Nm

/-! Look, WALKED. -/
namespace Go.Proofs.Ytofdnbddpageoaa.Nm
open Go.RowKit Go.Maps

/-- what Look comes to -/
def LoQ (w : World) (B : Bo) (s : ByteArray) (e : Ending) (w' : World) : Prop :=
  (match lookB B s with
  | some d => ∃ a c, e = .returned (.tuple #[.agg #[.string d.out, .int .i64 d.time, .slice a d.deps.length c], .bool true]) ∧ w'.ownsRow w.heap.size 9 1 (.slice a d.deps.length c) d.deps.length (strV d.deps)
  | Option.none => e = .returned (.tuple #[.agg #[.string ⟨#[]⟩, .int .i64 0, .slice Option.none 0 0], .bool false])) ∧ Below w.heap.size w w'

theorem map_shape {w : World} {n : Nat} {mv : Value} {f : Bs → Option Nat} (h : MapAt w n mv f) : ∃ o, mv = .map o := by
  rcases h with ⟨rfl, _⟩ | ⟨m, rfl, _⟩
  · exact ⟨_, rfl⟩
  · exact ⟨_, rfl⟩

set_option maxRecDepth 100000 in
set_option maxHeartbeats 4000000 in
theorem look_c {b lo hi : Nat} {w : World} {p : Nat} {B : Bo} {s : ByteArray} (h : Own b lo hi w p B) (hs : s.size ≤ 1000000) :
    Calls Try.prog 15 #[.pointer (some ⟨p, 0, Option.none⟩), .string s] w (LoQ w B s) := by
  have HO := Lib.hid h
  obtain ⟨S, v1, v2, v3, Q, h1, -⟩ := h
  obtain ⟨W0, hW0⟩ : ∃ W, w.alloc (.cells #[.string ⟨#[]⟩, .int .i64 0, .slice Option.none 0 0] 39) = W := ⟨_, rfl⟩
  have b0 : Below w.heap.size w W0 := by rw [← hW0]; exact Pk.below_alloc _ _
  have z0 : W0.heap[w.heap.size]? = some (.cells #[.string ⟨#[]⟩, .int .i64 0, .slice Option.none 0 0] 39 (0, 0)) := by rw [← hW0]; exact heap_alloc_new _ _
  have h2 := h1.below b0
  obtain ⟨-, c1, c2, -⟩ := h2.cells
  obtain ⟨⟨k0, k1, k2⟩, f0, f1, f2⟩ := thr_cells z0
  have hlk := h2.map.look (s := s) (by unfold maxLen; omega)
  rw [ofN_at] at hlk
  obtain ⟨mo, rfl⟩ := map_shape h2.map
  have hlenF := h2.len
  have hfew := h2.few
  obtain ⟨a3, c3, rfl⟩ := own_slice h2.found
  have hle3 := own_cap h2.found
  have BD := Lib.hid b0
  have EL : Hid (lookB B s = (ixOf B.N s).bind fun i => (B.F[i]?).bind fun o => o.map fun fd => depOf B.N s fd) := Lib.hid rfl
  -- the end where there is nothing
  obtain ⟨⟨s0, s1, s2⟩, -⟩ := thr_cells (thr_same (v0 := .string ⟨#[]⟩) (v1 := .int .i64 0) (v2 := .slice Option.none 0 0) z0)
  have HBN := Lib.hid (thr_below (v0 := .string ⟨#[]⟩) (v1 := .int .i64 0) (v2 := .slice Option.none 0 0) b0 (Nat.le_refl _) (Nat.le_refl w.heap.size))
  unfold thr at s0 s1 s2 HBN
  have SN := Lib.hid (And.intro s0 (And.intro s1 s2))
  clear s0 s1 s2
  cases hi : ixOf B.N s with
  | none =>
    rw [hi] at hlk
    have hln : lookB B s = Option.none := by rw [EL.out, hi]; rfl
    have HLN := Lib.hid hln
    have hlk' : (Instr.lookup 66 (.map mo) (.string s) true).run Try.prog W0 = .ok (.tuple #[.int .i64 0, .bool false]) W0 := hlk
    clear hlk h1 h2 hi hln
    go_enter Try.func15, Try.ntmps15
    go_wp2_with fail
    obtain ⟨s0, s1, s2⟩ := SN.out
    refine bodyPost_ret (v := .tuple #[.agg #[.string ⟨#[]⟩, .int .i64 0, .slice Option.none 0 0], .bool false]) (by simp [results, Try.f15, go_sem, s0, s1, s2]) rfl ?_
    exact ⟨by rw [HLN.out], HBN.out⟩
  | some i =>
    rw [hi] at hlk
    have hil := ixOf_lt hi
    have hlk' : (Instr.lookup 66 (.map mo) (.string s) true).run Try.prog W0 = .ok (.tuple #[.int .i64 (i : Int), .bool true]) W0 := hlk
    have hx := List.getElem?_eq_getElem (show i < B.F.length by omega)
    have hi0 : (0 : Int) ≤ (i : Int) := by omega
    have hi1 : (i : Int) < (B.F.length : Int) := by omega
    cases hfi : B.F[i] with
    | none =>
      rw [hfi] at hx
      have hq := h2.no i hx
      obtain ⟨g3, rfl, hcF⟩ : ∃ g, a3 = some ⟨g, 0, Option.none⟩ ∧ W0.cell? ⟨g, i, Option.none⟩ = some (.pointer Option.none) := by
        rcases own_at h2.found with ⟨e, h0⟩ | ⟨g, cap, e, _, _, _, hc⟩
        · omega
        · cases e
          exact ⟨g, rfl, hc i _ (by rw [List.getElem?_map, hq]; rfl)⟩
      have hln : lookB B s = Option.none := by rw [EL.out, hi, Option.bind_some, hx]; rfl
      have HLN := Lib.hid hln
      clear hlk h1 h2 hi hln hx hfi hq
      go_enter Try.func15, Try.ntmps15
      go_wp2_with fail
      obtain ⟨s0, s1, s2⟩ := SN.out
      refine bodyPost_ret (v := .tuple #[.agg #[.string ⟨#[]⟩, .int .i64 0, .slice Option.none 0 0], .bool false]) (by simp [results, Try.f15, go_sem, s0, s1, s2]) rfl ?_
      exact ⟨by rw [HLN.out], HBN.out⟩
    | some fd =>
      rw [hfi] at hx
      obtain ⟨q, hq, -⟩ := h2.yes i fd hx
      obtain ⟨g3, rfl, hcF⟩ : ∃ g, a3 = some ⟨g, 0, Option.none⟩ ∧ W0.cell? ⟨g, i, Option.none⟩ = some (.pointer (some ⟨q, 0, Option.none⟩)) := by
        rcases own_at h2.found with ⟨e, h0⟩ | ⟨g, cap, e, _, _, _, hc⟩
        · omega
        · cases e
          exact ⟨g, rfl, hc i _ (by rw [List.getElem?_map, hq]; rfl)⟩
      have hln : lookB B s = some (depOf B.N s fd) := by rw [EL.out, hi, Option.bind_some, hx]; rfl
      have HLN := Lib.hid hln
      have cd := dep_c (HO.out.below b0) hx (ixOf_get hi)
      have hdl : (fd.nums.map (nameAt B.N)).length = fd.nums.length := List.length_map _
      clear hlk h1 h2 hi hln hx hfi hq
      go_enter Try.func15, Try.ntmps15
      go_wp2_with fail
      refine cd.mono ?_
      rintro e w1 ⟨da, dc, rfl, ho, hb1⟩
      have z1 : w1.heap[w.heap.size]? = some (.cells #[.string ⟨#[]⟩, .int .i64 0, .slice Option.none 0 0] 39 (0, 0)) := (hb1.block _ (lt_some z0)).trans z0
      obtain ⟨⟨y0, y1, y2⟩, g0, g1, g2⟩ := thr_cells z1
      have z6 := thr_same (v0 := .string s) (v1 := .int .i64 (fd.time : Int)) (v2 := .slice da fd.nums.length dc) z1
      obtain ⟨⟨s0, s1, s2⟩, -⟩ := thr_cells z6
      have HB6 := Lib.hid (thr_below (v0 := .string s) (v1 := .int .i64 (fd.time : Int)) (v2 := .slice da fd.nums.length dc) (BD.out.trans (hb1.mono BD.out.size)) (Nat.le_refl _) (Nat.le_refl w.heap.size))
      have HO6 := Lib.hid (owns_base (owns_kept (w' := thr w1 w.heap.size (.string s) (.int .i64 (fd.time : Int)) (.slice da fd.nums.length dc)) ho fun q hq => thr_other (by
        obtain ⟨_, _, hc⟩ := owns_block ho hq
        exact ne_type hc z1 (by decide))) BD.out.size)
      unfold thr at s0 s1 s2 HB6 HO6
      have SS := Lib.hid (And.intro s0 (And.intro s1 s2))
      clear z6 s0 s1 s2 ho z1 k0 k1 k2 f0 f1 f2 z0 cd hb1 b0
      go_wp2_with fail
      obtain ⟨s0, s1, s2⟩ := SS.out
      refine bodyPost_ret (v := .tuple #[.agg #[.string s, .int .i64 (fd.time : Int), .slice da fd.nums.length dc], .bool true]) (by simp [results, Try.f15, go_sem, s0, s1, s2]) rfl ?_
      refine ⟨?_, HB6.out⟩
      rw [HLN.out]
      refine ⟨da, dc, ?_, ?_⟩
      · show Ending.returned _ = Ending.returned (.tuple #[.agg #[.string s, .int .i64 (fd.time : Int), .slice da (fd.nums.map (nameAt B.N)).length dc], .bool true])
        rw [hdl]
      · show World.ownsRow _ _ _ _ (.slice da (fd.nums.map (nameAt B.N)).length dc) (fd.nums.map (nameAt B.N)).length (strV (fd.nums.map (nameAt B.N)))
        rw [hdl]
        exact HO6.out
end Go.Proofs.Ytofdnbddpageoaa.Nm
