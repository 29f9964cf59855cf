/-
  A LOG IN MEMORY; deeds that follow each other.
-/
import Derived.Test.YtfmelhcpccghdaaGreatRlScan2
import Derived.Test.YtfmelhcpccghdaaGreatNil
namespace Go.Proofs.YtfmelhcpccghdaaGreat.Rl
open Go.RowKit Go.Maps

variable {w : World}

/-- the log of disk p, its name and kind -/
def LogAt (w : World) (lp p : Nat) (nm : List UInt8) (k : UInt8) : Prop :=
  w.cell? ⟨lp, 0, none⟩ = some (.pointer (some ⟨p, 0, none⟩)) ∧ w.cell? ⟨lp, 1, none⟩ = some (.string (mk nm)) ∧ w.cell? ⟨lp, 2, none⟩ = some (.int .u8 k.toNat)

def newN (nm : List UInt8) : List UInt8 := nm ++ [46, 110, 101, 119]

set_option maxHeartbeats 1000000 in
theorem orNone_c {lp p : Nat} {nm : List UInt8} {k : UInt8} (h : LogAt w lp p nm k) : Calls Tryz.prog 27 #[.pointer (some ⟨lp, 0, none⟩)] w fun e w' => e = .returned (.agg #[.pointer (some ⟨p, 0, none⟩), .string (mk nm), .int .u8 k.toNat]) ∧ Below w.heap.size w w' := by
  obtain ⟨c0, c1, c2⟩ := h
  have d0 := Pk.cell_keep c0 (.cells #[.pointer none, .string ⟨#[]⟩, .int .u8 0] 61)
  have d1 := Pk.cell_keep c1 (.cells #[.pointer none, .string ⟨#[]⟩, .int .u8 0] 61)
  have d2 := Pk.cell_keep c2 (.cells #[.pointer none, .string ⟨#[]⟩, .int .u8 0] 61)
  go_enter Tryz.func27, Tryz.ntmps27
  go_wp2
  refine bodyPost_ret (v := .agg #[.pointer (some ⟨p, 0, none⟩), .string (mk nm), .int .u8 k.toNat]) ?_ rfl ?_
  · simp [results, Tryz.f27, go_sem]
  · exact ⟨rfl, below_alloc _ _⟩
set_option maxHeartbeats 1000000 in
theorem orNone_nil (w : World) : Calls Tryz.prog 27 #[.pointer none] w fun e w' => e = .returned (.agg #[.pointer none, .string ⟨#[]⟩, .int .u8 0]) ∧ Below w.heap.size w w' := by
  go_enter Tryz.func27, Tryz.ntmps27
  go_wp2
  refine bodyPost_ret (v := .agg #[.pointer none, .string ⟨#[]⟩, .int .u8 0]) ?_ rfl ?_
  · simp [results, Tryz.f27, go_sem]
  · exact ⟨rfl, below_alloc _ _⟩
set_option maxHeartbeats 1000000 in
theorem spare_c {lp : Nat} {nm : List UInt8} (h : w.cell? ⟨lp, 1, none⟩ = some (.string (mk nm))) (hl : nm.length ≤ 1000000) : Calls Tryz.prog 32 #[.pointer (some ⟨lp, 0, none⟩)] w fun e w' => e = .returned (.string (mk (newN nm))) ∧ w = w' := by
  have hm : mk nm ++ ⟨#[46, 110, 101, 119]⟩ = mk (newN nm) := (mk_append nm [46, 110, 101, 119]).symm
  have hs : ¬ 9223372036854775807 < (mk nm).size + (⟨#[46, 110, 101, 119]⟩ : ByteArray).size := by rw [mk_size]; show ¬ _ < nm.length + 4; omega
  go_enter Tryz.func32, Tryz.ntmps32
  go_wp2
  go_ret
  exact ⟨rfl, rfl⟩

/-- DEEDS THAT FOLLOW EACH OTHER: R j holds ahead of deed j; E behind one that failed -/
theorem inTurn_c {a : Nat} {n c : Nat} {R : Nat → World → Prop} {E : Int → World → Prop} (hn : n ≤ 1000)
    (hd : ∀ j W, j < n → R j W → ∃ F bs cs, W.cell? ⟨a, j, none⟩ = some (.func (.func F) bs cs) ∧ (∀ W', Sem.run Tryz.prog (callFunc F (bs ++ cs)) W' = .ok (.enter F (bs ++ cs)) W') ∧ Calls Tryz.prog F (bs ++ cs) W fun e W' => ∃ m : Int, e = .returned (.int .i64 m) ∧ (m = 0 → R (j + 1) W') ∧ (m ≠ 0 → E m W'))
    (h0 : R 0 w) : Calls Tryz.prog 22 #[.slice (some ⟨a, 0, none⟩) n c] w fun e w' => ∃ m : Int, e = .returned (.int .i64 m) ∧ (m = 0 → R n w') ∧ (m ≠ 0 → E m w') := by
  have HD := Lib.hid hd
  have H0 := Lib.hid h0
  clear hd h0
  go_enter Tryz.func22, Tryz.ntmps22
  go_wp2_with fail
  go_loopw [8] (fun v wr => ∃ j : Nat, j ≤ n ∧ v = .int .i64 j ∧ Hid (R j wr)) (fun v _ => n - (intOf v).toNat)
  case atStart => exact ⟨0, Nat.zero_le _, rfl, H0⟩
  case round =>
    obtain ⟨j, hj, rfl, hR⟩ := hrel
    by_cases hlt : j < n
    · obtain ⟨F, bs, cs, hc, hrun, hcall⟩ := HD.out j wr hlt hR.out
      go_wp2_with fail
      refine hcall.mono ?_
      rintro e w1 ⟨m, rfl, h0, hE⟩
      have HZ := Lib.hid h0
      have HE := Lib.hid hE
      clear h0 hE hcall hrun hc
      by_cases hm : m = 0
      · subst hm
        have hz : ((0 : Int) != 0) = false := rfl
        go_wp2
        go_roundw
        case rel => exact ⟨j + 1, by omega, by go_num, Lib.hid (HZ.out (by trivial))⟩
        case measure => simp [intOf]; omega
      · have hz : (m != 0) = true := by simp [hm]
        have HM := Lib.hid hm
        clear hm
        go_wp2
        go_ret
        exact ⟨m, rfl, fun h => absurd h HM.out, HE.out⟩
    · obtain rfl : j = n := by omega
      go_wp2
      go_ret
      exact ⟨0, rfl, fun _ => hR.out, fun h => absurd rfl h⟩
end Go.Proofs.YtfmelhcpccghdaaGreat.Rl

/-! NO LOG. -/
namespace Go.Proofs.YtfmelhcpccghdaaGreat.Rl
open Go.RowKit Go.Maps

variable {w : World}

set_option maxRecDepth 100000 in
set_option maxHeartbeats 2000000 in
theorem append_nil {a : Option Addr} {n c : Nat} {l : List UInt8} (h : Bq w a n c l) (hl : n ≤ 4096) :
    Calls Tryz.prog 8 #[.pointer none, .slice a n c] w fun e w' => e = .returned (.int .i64 8) ∧ Below w.heap.size w w' := by
  have hf := frame_c h hl
  clear h
  go_enter Tryz.func8, Tryz.ntmps8
  go_wp2_with fail
  refine hf.mono ?_
  rintro e w1 ⟨a1, c1, rfl, hown, hb1⟩
  clear hf
  have hn := orNone_nil w1
  have HB1 := Lib.hid hb1
  clear hb1 hown
  go_wp2_with fail
  refine hn.mono ?_
  rintro e w2 ⟨rfl, hb2⟩
  clear hn
  have HB2 := Lib.hid (HB1.out.trans (hb2.mono HB1.out.size))
  have ha := Append_nil [] a1 (8 + n) c1 (w2.alloc (.cells #[.pointer none, .string ⟨#[]⟩, .int .u8 0] 61))
  rw [show mk [] = (⟨#[]⟩ : ByteArray) from rfl] at ha
  have HB3 := Lib.hid (HB2.out.trans ((below_alloc w2 (.cells #[.pointer none, .string ⟨#[]⟩, .int .u8 0] 61)).mono HB2.out.size))
  clear hb2
  go_wp2_with fail
  refine ha.mono ?_
  rintro e w3 ⟨rfl, hb3⟩
  clear ha
  go_wp2
  go_ret
  exact ⟨rfl, HB3.out.trans (hb3.mono HB3.out.size)⟩

set_option maxHeartbeats 1000000 in
theorem syncCl_nil {b : Nat} (c0 : w.cell? ⟨b, 0, none⟩ = some (.pointer none)) (c1 : w.cell? ⟨b, 1, none⟩ = some (.string ⟨#[]⟩)) :
    Calls Tryz.prog 29 #[.pointer (some ⟨b, 0, none⟩)] w fun e w' => e = .returned (.int .i64 8) ∧ Below w.heap.size w w' := by
  have hs := Sync_nil [] w
  rw [show mk [] = (⟨#[]⟩ : ByteArray) from rfl] at hs
  go_enter Tryz.func29, Tryz.ntmps29
  go_wp2_with fail
  refine hs.mono ?_
  rintro e w1 ⟨rfl, hb1⟩
  go_wp2
  go_ret
  exact ⟨rfl, hb1⟩

set_option maxRecDepth 100000 in
set_option maxHeartbeats 2000000 in
theorem sync_nil (w : World) : Calls Tryz.prog 9 #[.pointer none] w fun e w' => e = .returned (.int .i64 8) ∧ Below w.heap.size w w' := by
  have hn := orNone_nil w
  go_enter Tryz.func9, Tryz.ntmps9
  go_wp2_with fail
  refine hn.mono ?_
  rintro e w1 ⟨rfl, hb1⟩
  clear hn
  have HB1 := Lib.hid hb1
  clear hb1
  obtain ⟨W0, hW0⟩ : ∃ W, (w1.alloc (.cells #[.pointer none, .string ⟨#[]⟩, .int .u8 0] 61)).alloc (.cells #[.func (.func 29) #[] #[.pointer (some ⟨w1.heap.size, 0, none⟩)], .func (.func 19) #[.pointer none] #[]] 36) = W := ⟨_, rfl⟩
  have d0 : W0.cell? ⟨w1.heap.size, 0, none⟩ = some (.pointer none) := by rw [← hW0]; exact Pk.cell_keep (cell_at_new _ _ _ _ _ rfl) _
  have d1 : W0.cell? ⟨w1.heap.size, 1, none⟩ = some (.string ⟨#[]⟩) := by rw [← hW0]; exact Pk.cell_keep (cell_at_new _ _ _ _ _ rfl) _
  have d2 : W0.cell? ⟨w1.heap.size + 1, 0, none⟩ = some (.func (.func 29) #[] #[.pointer (some ⟨w1.heap.size, 0, none⟩)]) := by
    have e : (w1.alloc (.cells #[.pointer none, .string ⟨#[]⟩, .int .u8 0] 61)).heap.size = w1.heap.size + 1 := Array.size_push _
    rw [← hW0, ← e]
    exact cell_at_new _ _ _ _ _ rfl
  have hb0 : Below w.heap.size w W0 := by rw [← hW0]; exact HB1.out.trans (((below_alloc w1 _).trans ((below_alloc _ _).mono (below_alloc w1 _).size)).mono HB1.out.size)
  have hin := inTurn_c (w := W0) (a := w1.heap.size + 1) (n := 2) (c := 2) (R := fun j W => j = 0 ∧ W = W0) (E := fun m W => m = 8 ∧ Below W0.heap.size W0 W) (by omega) (fun j W _ ⟨e1, e2⟩ => by
    subst e1 e2
    exact ⟨_, _, _, d2, fun W' => rfl, (syncCl_nil d0 d1).mono fun e W' ⟨he, hb⟩ => ⟨8, he, fun h => absurd h (by decide), fun _ => ⟨rfl, hb⟩⟩⟩) ⟨rfl, rfl⟩
  rw [← hW0] at hin
  have HB0 := Lib.hid hb0
  have HW := Lib.hid hW0
  clear d0 d1 d2 hb0 hW0
  go_wp2_with fail
  refine hin.mono ?_
  rintro e w3 ⟨m, rfl, h0, hE⟩
  rw [HW.out] at hE
  by_cases hm : m = 0
  · exact absurd (h0 hm).1 (by omega)
  · obtain ⟨rfl, hb3⟩ := hE hm
    clear h0 hE hm hin
    go_wp2
    go_ret
    exact ⟨rfl, HB0.out.trans (hb3.mono HB0.out.size)⟩
end Go.Proofs.YtfmelhcpccghdaaGreat.Rl
