/-
  Look, WALKED.
-/
import Derived.Test.YtmppjlgmopfaeaaNmLook
namespace Go.Proofs.Ytmppjlgmopfaeaa.Nm
open Go.RowKit Go.Maps

/-- what Look comes to -/
def LoQ (w : World) (B : Bo) (s : ByteArray) (e : Ending) (w' : World) : Prop :=
  (match lookB B s with
  | some d => ∃ a c, e = .returned (.tuple #[.agg #[.string d.out, .int .i64 d.time, .slice a d.deps.length c], .bool true]) ∧ w'.ownsRow w.heap.size 9 1 (.slice a d.deps.length c) d.deps.length (strV d.deps)
  | Option.none => e = .returned (.tuple #[.agg #[.string ⟨#[]⟩, .int .i64 0, .slice Option.none 0 0], .bool false])) ∧ Below w.heap.size w w'

theorem map_shape {w : World} {n : Nat} {mv : Value} {f : Bs → Option Nat} (h : MapAt w n mv f) : ∃ o, mv = .map o := by
  rcases h with ⟨rfl, _⟩ | ⟨m, rfl, _⟩
  · exact ⟨_, rfl⟩
  · exact ⟨_, rfl⟩

set_option maxRecDepth 100000 in
set_option maxHeartbeats 4000000 in
theorem look_c {b lo hi : Nat} {w : World} {p : Nat} {B : Bo} {s : ByteArray} (h : Own b lo hi w p B) (hs : s.size ≤ 1000000) :
    Calls Try.prog 15 #[.pointer (some ⟨p, 0, Option.none⟩), .string s] w (LoQ w B s) := by
  have HO := Lib.hid h
  obtain ⟨S, v1, v2, v3, Q, h1, -⟩ := h
  obtain ⟨W0, hW0⟩ : ∃ W, w.alloc (.cells #[.string ⟨#[]⟩, .int .i64 0, .slice Option.none 0 0] 39) = W := ⟨_, rfl⟩
  have b0 : Below w.heap.size w W0 := by rw [← hW0]; exact Pk.below_alloc _ _
  have z0 : W0.heap[w.heap.size]? = some (.cells #[.string ⟨#[]⟩, .int .i64 0, .slice Option.none 0 0] 39 (0, 0)) := by rw [← hW0]; exact heap_alloc_new _ _
  have h2 := h1.below b0
  obtain ⟨-, c1, c2, -⟩ := h2.cells
  obtain ⟨⟨k0, k1, k2⟩, f0, f1, f2⟩ := thr_cells z0
  have hlk := h2.map.look (s := s) (by unfold maxLen; omega)
  rw [ofN_at] at hlk
  obtain ⟨mo, rfl⟩ := map_shape h2.map
  have hlenF := h2.len
  have hfew := h2.few
  obtain ⟨a3, c3, rfl⟩ := own_slice h2.found
  have hle3 := own_cap h2.found
  have BD := Lib.hid b0
  have EL : Hid (lookB B s = (ixOf B.N s).bind fun i => (B.F[i]?).bind fun o => o.map fun fd => depOf B.N s fd) := Lib.hid rfl
  -- the end where there is nothing
  obtain ⟨⟨s0, s1, s2⟩, -⟩ := thr_cells (thr_same (v0 := .string ⟨#[]⟩) (v1 := .int .i64 0) (v2 := .slice Option.none 0 0) z0)
  have HBN := Lib.hid (thr_below (v0 := .string ⟨#[]⟩) (v1 := .int .i64 0) (v2 := .slice Option.none 0 0) b0 (Nat.le_refl _) (Nat.le_refl w.heap.size))
  unfold thr at s0 s1 s2 HBN
  have SN := Lib.hid (And.intro s0 (And.intro s1 s2))
  clear s0 s1 s2
  cases hi : ixOf B.N s with
  | none =>
    rw [hi] at hlk
    have hln : lookB B s = Option.none := by rw [EL.out, hi]; rfl
    have HLN := Lib.hid hln
    have hlk' : (Instr.lookup 66 (.map mo) (.string s) true).run Try.prog W0 = .ok (.tuple #[.int .i64 0, .bool false]) W0 := hlk
    clear hlk h1 h2 hi hln
    go_enter Try.func15, Try.ntmps15
    go_wp2_with fail
    obtain ⟨s0, s1, s2⟩ := SN.out
    refine bodyPost_ret (v := .tuple #[.agg #[.string ⟨#[]⟩, .int .i64 0, .slice Option.none 0 0], .bool false]) (by simp [results, Try.f15, go_sem, s0, s1, s2]) rfl ?_
    exact ⟨by rw [HLN.out], HBN.out⟩
  | some i =>
    rw [hi] at hlk
    have hil := ixOf_lt hi
    have hlk' : (Instr.lookup 66 (.map mo) (.string s) true).run Try.prog W0 = .ok (.tuple #[.int .i64 (i : Int), .bool true]) W0 := hlk
    have hx := List.getElem?_eq_getElem (show i < B.F.length by omega)
    have hi0 : (0 : Int) ≤ (i : Int) := by omega
    have hi1 : (i : Int) < (B.F.length : Int) := by omega
    cases hfi : B.F[i] with
    | none =>
      rw [hfi] at hx
      have hq := h2.no i hx
      obtain ⟨g3, rfl, hcF⟩ : ∃ g, a3 = some ⟨g, 0, Option.none⟩ ∧ W0.cell? ⟨g, i, Option.none⟩ = some (.pointer Option.none) := by
        rcases own_at h2.found with ⟨e, h0⟩ | ⟨g, cap, e, _, _, _, hc⟩
        · omega
        · cases e
          exact ⟨g, rfl, hc i _ (by rw [List.getElem?_map, hq]; rfl)⟩
      have hln : lookB B s = Option.none := by rw [EL.out, hi, Option.bind_some, hx]; rfl
      have HLN := Lib.hid hln
      clear hlk h1 h2 hi hln hx hfi hq
      go_enter Try.func15, Try.ntmps15
      go_wp2_with fail
      obtain ⟨s0, s1, s2⟩ := SN.out
      refine bodyPost_ret (v := .tuple #[.agg #[.string ⟨#[]⟩, .int .i64 0, .slice Option.none 0 0], .bool false]) (by simp [results, Try.f15, go_sem, s0, s1, s2]) rfl ?_
      exact ⟨by rw [HLN.out], HBN.out⟩
    | some fd =>
      rw [hfi] at hx
      obtain ⟨q, hq, -⟩ := h2.yes i fd hx
      obtain ⟨g3, rfl, hcF⟩ : ∃ g, a3 = some ⟨g, 0, Option.none⟩ ∧ W0.cell? ⟨g, i, Option.none⟩ = some (.pointer (some ⟨q, 0, Option.none⟩)) := by
        rcases own_at h2.found with ⟨e, h0⟩ | ⟨g, cap, e, _, _, _, hc⟩
        · omega
        · cases e
          exact ⟨g, rfl, hc i _ (by rw [List.getElem?_map, hq]; rfl)⟩
      have hln : lookB B s = some (depOf B.N s fd) := by rw [EL.out, hi, Option.bind_some, hx]; rfl
      have HLN := Lib.hid hln
      have cd := dep_c (HO.out.below b0) hx (ixOf_get hi)
      have hdl : (fd.nums.map (nameAt B.N)).length = fd.nums.length := List.length_map _
      clear hlk h1 h2 hi hln hx hfi hq
      go_enter Try.func15, Try.ntmps15
      go_wp2_with fail
      refine cd.mono ?_
      rintro e w1 ⟨da, dc, rfl, ho, hb1⟩
      have z1 : w1.heap[w.heap.size]? = some (.cells #[.string ⟨#[]⟩, .int .i64 0, .slice Option.none 0 0] 39 (0, 0)) := (hb1.block _ (lt_some z0)).trans z0
      obtain ⟨⟨y0, y1, y2⟩, g0, g1, g2⟩ := thr_cells z1
      have z6 := thr_same (v0 := .string s) (v1 := .int .i64 (fd.time : Int)) (v2 := .slice da fd.nums.length dc) z1
      obtain ⟨⟨s0, s1, s2⟩, -⟩ := thr_cells z6
      have HB6 := Lib.hid (thr_below (v0 := .string s) (v1 := .int .i64 (fd.time : Int)) (v2 := .slice da fd.nums.length dc) (BD.out.trans (hb1.mono BD.out.size)) (Nat.le_refl _) (Nat.le_refl w.heap.size))
      have HO6 := Lib.hid (owns_base (owns_kept (w' := thr w1 w.heap.size (.string s) (.int .i64 (fd.time : Int)) (.slice da fd.nums.length dc)) ho fun q hq => thr_other (by
        obtain ⟨_, _, hc⟩ := owns_block ho hq
        exact ne_type hc z1 (by decide))) BD.out.size)
      unfold thr at s0 s1 s2 HB6 HO6
      have SS := Lib.hid (And.intro s0 (And.intro s1 s2))
      clear z6 s0 s1 s2 ho z1 k0 k1 k2 f0 f1 f2 z0 cd hb1 b0
      go_wp2_with fail
      obtain ⟨s0, s1, s2⟩ := SS.out
      refine bodyPost_ret (v := .tuple #[.agg #[.string s, .int .i64 (fd.time : Int), .slice da fd.nums.length dc], .bool true]) (by simp [results, Try.f15, go_sem, s0, s1, s2]) rfl ?_
      refine ⟨?_, HB6.out⟩
      rw [HLN.out]
      refine ⟨da, dc, ?_, ?_⟩
      · show Ending.returned _ = Ending.returned (.tuple #[.agg #[.string s, .int .i64 (fd.time : Int), .slice da (fd.nums.map (nameAt B.N)).length dc], .bool true])
        rw [hdl]
      · show World.ownsRow _ _ _ _ (.slice da (fd.nums.map (nameAt B.N)).length dc) (fd.nums.map (nameAt B.N)).length (strV (fd.nums.map (nameAt B.N)))
        rw [hdl]
        exact HO6.out
end Go.Proofs.Ytmppjlgmopfaeaa.Nm
