/-
  ROWS OF ACTS, OPENED.
-/
import Derived.Test.YtdgfnhgkncfmpaaActs
import Derived.Test.YtdgfnhgkncfmpaaArgs
import Derived.Deep.Slices
namespace Go.Proofs.Ytdgfnhgkncfmpaa
open Go.RowKit Go.Maps Go.ChangeShapes Go.WideShapes Go.ChangeAt

set_option maxRecDepth 100000

theorem i64_wf {n : Int} (h : (Lit.int .i64 n).wf = true) : -9223372036854775808 ≤ n ∧ n ≤ 9223372036854775807 := by
  simpa [Lit.wf, IntKind.min, IntKind.max, IntKind.signed, IntKind.bits] using h

instance : Inhabited Act1 := ⟨⟨0, 0, [], [], [], []⟩⟩
theorem act_of {H : Type} {enc : TypeId × Value → H} {W : World} {base fuel : Nat} {held : Bool} {cs : List Value} {x : DataW H × List MemPlace} (h : DataW.trod enc Try.prog W base (fun _ => true) held fuel 40 cs = some x)
    {b o : Nat} (hc : ∀ k, k < 6 → W.cell? ⟨b, o + k, none⟩ = cs[k]?) : ∃ x, ActAt W b o x := by
  have k22 : Try.prog.cellsOf 23 = 1 := by kernel_rfl
  have k9 : Try.prog.cellsOf 9 = 1 := by kernel_rfl
  have k3 : Try.prog.cellsOf 3 = 1 := by kernel_rfl
  have k23 : Try.prog.cellsOf 24 = 1 := by kernel_rfl
  have hc6 : Try.prog.cellsOf 40 = 6 := by kernel_rfl
  obtain ⟨xs, n, _, _, hlen, hxl, hx⟩ := DataW.trod_struct Try.underlying40 h
  rw [hc6] at hlen
  match cs, hlen, xs, hxl with
  | [c0, c1, c2, c3, c4, c5], _, [y0, y1, y2, y3, y4, y5], _ =>
  have g0 : DataW.trod enc Try.prog W base (fun _ => true) held n 3 (List.take (Try.prog.cellsOf 3) (List.drop 0 [c0, c1, c2, c3, c4, c5])) = some y0 := hx 0 _ rfl
  have g1 : DataW.trod enc Try.prog W base (fun _ => true) held n 3 (List.take (Try.prog.cellsOf 3) (List.drop 1 [c0, c1, c2, c3, c4, c5])) = some y1 := hx 1 _ rfl
  have g2 : DataW.trod enc Try.prog W base (fun _ => true) held n 9 (List.take (Try.prog.cellsOf 9) (List.drop 2 [c0, c1, c2, c3, c4, c5])) = some y2 := hx 2 _ rfl
  have g3 : DataW.trod enc Try.prog W base (fun _ => true) held n 9 (List.take (Try.prog.cellsOf 9) (List.drop 3 [c0, c1, c2, c3, c4, c5])) = some y3 := hx 3 _ rfl
  have g4 : DataW.trod enc Try.prog W base (fun _ => true) held n 23 (List.take (Try.prog.cellsOf 23) (List.drop 4 [c0, c1, c2, c3, c4, c5])) = some y4 := hx 4 _ rfl
  have g5 : DataW.trod enc Try.prog W base (fun _ => true) held n 24 (List.take (Try.prog.cellsOf 24) (List.drop 5 [c0, c1, c2, c3, c4, c5])) = some y5 := hx 5 _ rfl
  rw [k3] at g0 g1
  rw [k9] at g2 g3
  rw [k22] at g4
  rw [k23] at g5
  obtain ⟨x0, e0, _, w0⟩ := DataW.trod_int (cs := [c0]) Try.underlying3 g0
  obtain ⟨x1, e1, _, w1⟩ := DataW.trod_int (cs := [c1]) Try.underlying3 g1
  obtain ⟨s2, e2, _, _⟩ := DataW.trod_string (cs := [c2]) Try.underlying9 g2
  obtain ⟨s3, e3, _, _⟩ := DataW.trod_string (cs := [c3]) Try.underlying9 g3
  obtain ⟨u4, bs, e4, b4⟩ := brow_of (cs := [c4]) g4
  obtain ⟨u5, ts, e5, b5⟩ := trow_of (cs := [c5]) g5
  simp only [List.cons.injEq, and_true] at e0 e1 e2 e3 e4 e5
  subst e0 e1 e2 e3 e4 e5
  obtain ⟨a4, n4, rfl⟩ : ∃ a c, c4 = .slice a bs.length c := by
    rcases b4 with ⟨rfl, rfl⟩ | ⟨a, c, rfl, _⟩
    · exact ⟨_, _, rfl⟩
    · exact ⟨_, _, rfl⟩
  obtain ⟨a5, n5, e5, _⟩ := id b5
  subst e5
  refine ⟨⟨x0, x1, s2.data.toList, s3.data.toList, bs, ts⟩, hc 0 (by omega), hc 1 (by omega), ?_, ?_, ⟨a4, n4, hc 4 (by omega), b4⟩, ⟨a5, n5, hc 5 (by omega), b5⟩, i64_wf w0, i64_wf w1⟩
  · show W.cell? ⟨b, o + 2, none⟩ = some (.string (mk s2.data.toList))
    rw [mk_of]; exact hc 2 (by omega)
  · show W.cell? ⟨b, o + 3, none⟩ = some (.string (mk s3.data.toList))
    rw [mk_of]; exact hc 3 (by omega)

theorem acts_of {H : Type} {enc : TypeId × Value → H} {W : World} {base fuel : Nat} {held : Bool} {cs : List Value} {x : DataW H × List MemPlace} (h : DataW.trod enc Try.prog W base (fun _ => true) held fuel 22 cs = some x) :
    ∃ v xs, cs = [v] ∧ Acts W v xs := by
  have hc6 : Try.prog.cellsOf 40 = 6 := by kernel_rfl
  rcases Go.Deep.open_slice Try.underlying22 h with ⟨rfl, _⟩ | ⟨a, len, cap, m, n, D, Pl, rfl, hb, hl, hm, hmm, rfl, hx⟩
  · exact ⟨_, [], rfl, none, 0, rfl, fun j r hj => by cases hj⟩
  · have hmm2 : m = cap := by simpa using hmm
    rw [hc6] at hx
    have hcell : ∀ j, j < len → ∃ cs', cs'.length = 6 ∧ (∀ k, k < 6 → W.cell? ((a.add (j * 6)).add k) = cs'[k]?) ∧ DataW.trod enc Try.prog W base (fun _ => true) held n 40 cs' = some (D j, Pl j) := fun j hj => by
      obtain ⟨cs', h1, h2⟩ := hx j (by omega)
      obtain ⟨_, h3, h4⟩ := World.cells?_some h1
      exact ⟨cs', h3, h4, h2⟩
    by_cases h0 : 0 < len
    · obtain ⟨b, o, spot⟩ := a
      have hspot : spot = none := by
        obtain ⟨cs', h3, h4, _⟩ := hcell 0 h0
        have h5 := h4 0 (by omega)
        rw [List.getElem?_eq_getElem (by omega)] at h5
        have := World.cell?_spot h5
        simpa [Addr.add] using this
      subst hspot
      have hact : ∀ j, j < len → ∃ x, ActAt W b (o + j * 6) x := fun j hj => by
        obtain ⟨cs', h3, h4, h5⟩ := hcell j hj
        exact act_of h5 fun k hk => by rw [← h4 k hk, Go.WideShapes.add_plain, Go.WideShapes.add_plain]
      obtain ⟨F, hF⟩ := Go.Deep.choose_lt (α := Act1) (p := fun j x => ActAt W b (o + j * 6) x) (n := len) hact
      refine ⟨_, (List.range len).map F, rfl, some ⟨b, o, none⟩, cap, by simp, fun j r hj => ?_⟩
      have hj2 : j < len := by
        have := (List.getElem?_eq_some_iff.1 hj).1
        simpa using this
      have hr : r = F j := by
        rw [List.getElem?_map, List.getElem?_range hj2] at hj
        simpa using hj.symm
      exact ⟨b, o, rfl, lt_of_cell (hF j hj2).c0, by rw [hr]; exact hF j hj2⟩
    · obtain rfl : len = 0 := by omega
      exact ⟨_, [], rfl, some a, cap, rfl, fun j r hj => by cases hj⟩
end Go.Proofs.Ytdgfnhgkncfmpaa
