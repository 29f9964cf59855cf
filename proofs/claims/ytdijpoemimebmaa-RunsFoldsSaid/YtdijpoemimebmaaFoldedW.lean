/-
  ARE RUNS THE DOCUMENT's? (the laws' folded)
-/
import Derived.Test.YtdijpoemimebmaaRefFoldW
import Derived.Test.YtdijpoemimebmaaRnTold
import Derived.Test.YtdijpoemimebmaaRnSame
namespace Go.Proofs.Ytdijpoemimebmaa.Rn
open Go.RowKit
open Go.Proofs.Ytdijpoemimebmaa.Cr

theorem df_row {B : Nat} {w W : World} {v : Value} {G : List Gr} (h : DF B w W v G) : RunRow W v (G.map (·.1)) := by
  obtain ⟨a, c, rfl, h2, h3⟩ := h.at
  rcases h3 with ⟨rfl, rfl, rfl⟩ | ⟨g, rfl, hlt, hc⟩
  · exact ⟨Option.none, 0, by simp, fun _ => rfl, by simp, .inl rfl⟩
  · refine ⟨some ⟨g, 0, Option.none⟩, c, by simp, (fun e => nomatch e), by simpa using h2, .inr ⟨g, 0, rfl, hlt, fun i x hx => ?_⟩⟩
    rw [List.getElem?_map] at hx
    obtain ⟨q, hq, rfl⟩ := Option.map_eq_some_iff.1 hx
    obtain ⟨ai, ni, ci, af, nf, cf, _, _, hA⟩ := hc i q hq
    rw [Nat.zero_add]
    exact ⟨_, _, hA.c0, hA.c1, hA.c2, hA.c3, hA.c4, hA.c5, hA.ins, hA.fds⟩

abbrev sixAt (w' : World) (b o : Nat) (x : Run) (vi vf : Value) : Prop := w'.cell? ⟨b, o, Option.none⟩ = some (.string x.out) ∧ w'.cell? ⟨b, o + 1, Option.none⟩ = some (.string x.cmd) ∧ w'.cell? ⟨b, o + 2, Option.none⟩ = some (.int .i64 x.time) ∧ w'.cell? ⟨b, o + 3, Option.none⟩ = some (.int .i64 x.mark) ∧ w'.cell? ⟨b, o + 4, Option.none⟩ = some vi ∧ w'.cell? ⟨b, o + 5, Option.none⟩ = some vf
theorem At.six {w : World} {b o : Nat} {x : Run} {vi vf : Value} (h : At w b o x vi vf) : sixAt w b o x vi vf := ⟨h.c0, h.c1, h.c2, h.c3, h.c4, h.c5⟩

set_option maxRecDepth 100000 in
set_option maxHeartbeats 8000000 in
theorem folded_c {w : World} {v u : Value} {H : List Run} (h : RunRow w v H) (k : RunRow w u H) (hH : H.length ≤ 1000) (hT : ∀ x ∈ H, Thin x) :
    Calls Try.prog 20 #[v, u] w fun e w' => e = .returned (.bool true) ∧ Below w.heap.size w w' := by
  obtain ⟨a, c, rfl, -, hle, hrow⟩ := h.at
  obtain ⟨a2, c2, rfl, -, hle2, hrow2⟩ := k.at
  have HROW := Lib.hid hrow
  have HROW2 := Lib.hid hrow2
  have HT := Lib.hid hT
  have HB := Lib.hid (Below.refl w.heap.size w)
  clear hrow hrow2 h k hT
  go_enter Try.func20, Try.ntmps20
  go_wp2_with fail
  go_loopw [5] (fun i wr => ∃ j : Nat, j ≤ H.length ∧ i = .int .i64 j ∧ Hid (Below w.heap.size w wr)) (fun i _ => H.length - (intOf i).toNat)
  case atStart => exact ⟨0, Nat.zero_le _, rfl, HB⟩
  case round =>
    obtain ⟨j, hj, rfl, hB⟩ := hrel
    clear HB
    by_cases hlt : j < H.length
    · have hx := List.getElem?_eq_getElem hlt
      have hth := HT.out _ (List.getElem_mem hlt)
      rcases HROW.out with h | ⟨b, off, rfl, hb, hcell⟩
      · rw [h] at hlt; simp at hlt
      rcases HROW2.out with h | ⟨b2, off2, rfl, hb2, hcell2⟩
      · rw [h] at hlt; simp at hlt
      obtain ⟨ai, ni, ci, af, nf, cf, hA⟩ := hcell j _ hx
      obtain ⟨bi, mi, di, bf, mf, df, hC⟩ := hcell2 j _ hx
      generalize H[j] = x at *
      have BD := Lib.hid (below_drew hB.out)
      have SA : Hid (∀ w', Below w.heap.size w w' → sixAt w' b (off + j * 6) x (.slice ai ni ci) (.slice af nf cf) ∧ sixAt w' b2 (off2 + j * 6) x (.slice bi mi di) (.slice bf mf df)) := Lib.hid fun w' hb' => ⟨(hA.below hb hb').six, (hC.below hb2 hb').six⟩
      have HA := Lib.hid hA
      have HC := Lib.hid hC
      have HB2 := Lib.hid hb2
      have hA1 := hA.below hb BD.out
      have hto := Tq.told_c (w := wr.drew) (r := x) hA1.ins hA1.fds hth.ins hth.fds
      have TI := Lib.hid hth
      have hi0 : (0 : Int) ≤ (j : Int) := by omega
      have hi1 : (j : Int) < (H.length : Int) := by omega
      unfold runC at hto
      clear hcell hcell2 hx hA hC hth hA1
      go_wp2_with fail
      go_region_held3 (fun w' => sixAt w' b (off + j * 6) x (.slice ai ni ci) (.slice af nf cf) ∧ sixAt w' b2 (off2 + j * 6) x (.slice bi mi di) (.slice bf mf df))
        (first | with_reducible exact SA.out _ BD.out | with_reducible exact SA.out _ B6.out | with_reducible exact SA.out _ B7.out | fail)
        (first
          | (go_at_call 18; (with_reducible refine hto.mono ?_); rintro e w6 ⟨ti, tf, rfl, ti6, tf6, hb6⟩; have B6 := Lib.hid (BD.out.trans (hb6.mono BD.out.size)); have hC6 := HC.out.below HB2.out B6.out; have hsa := same_c (w := w6) (r := x) (q := x) (by (have := TI.out.ins; omega)) (by (have := TI.out.fds; omega)) ti6 tf6 hC6.ins hC6.fds; rw [sameB_yes rfl] at hsa; unfold runC at hsa; clear hb6 hC6)
          | (go_at_call 17; (with_reducible refine hsa.mono ?_); rintro e w7 ⟨rfl, hb7⟩; have B7 := Lib.hid (B6.out.trans (hb7.mono B6.out.size)); clear hb7))
      go_wp2_with fail
      go_roundw
      case rel => exact ⟨j + 1, by omega, by go_num, B7⟩
      case measure => simp [intOf]; omega
    · obtain rfl : j = H.length := by omega
      go_wp2_with fail
      go_ret
      exact ⟨rfl, hB.out⟩
end Go.Proofs.Ytdijpoemimebmaa.Rn
