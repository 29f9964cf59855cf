/-
  A FRESH DISK; A DISK THAT IS DOWN.
-/
import Derived.Test.YtdgfnhgkncfmpaaAwake
namespace Go.Proofs.Ytdgfnhgkncfmpaa
open Go.RowKit Go.Maps

variable {X : Nat → Prop} {K : Nat} {w : World} {p : Nat} {q : Pl} {d : Ds}

set_option maxHeartbeats 2000000 in
theorem fresh_c (w : World) : Calls Try.prog 11 #[] w fun e w' => ∃ p, e = .returned (.tuple #[.pointer (some ⟨p, 0, none⟩), .bool true]) ∧ w.heap.size ≤ p ∧ Below w.heap.size w w' ∧ Dk (fun k => k < w.heap.size) 0 w' p (newD 16777216) := by
  have hn := new_c 16777216 (by omega) w
  go_enter Try.func11, Try.ntmps11
  go_wp2_with fail
  refine hn.mono ?_
  rintro e w1 ⟨p, rfl, hp, hb, hd⟩
  go_wp2
  go_ret2
  exact ⟨p, rfl, hp, hb, hd⟩

theorem arm_ok (h : Dk X K w p d) (n : Int) (hn : -9223372036854775808 ≤ n ∧ n ≤ 9223372036854775807) : Calls Try.prog 16 #[.pointer (some ⟨p, 0, none⟩), .int .i64 n] w fun e w' => (∃ v, e = .returned v) ∧ Same X w w' ∧ Dk X K w' p { d with left := n } := by
  obtain ⟨q, h⟩ := h
  refine (arm_at h n hn).mono fun e w' ⟨h1, h2, h3⟩ => ⟨h1, h2, _, h3⟩
theorem down_ok (h : Dk X K w p d) : Calls Try.prog 53 #[.pointer (some ⟨p, 0, none⟩)] w fun e w' => e = .returned (.bool (!d.up)) ∧ w = w' := by
  obtain ⟨q, h⟩ := h; exact down_at h
/-- a deed of a disk that is down, or goes down -/
theorem append_no (h : Dk X K w p d) (hK : K + 3 ≤ 1000) {l : List UInt8} (hl : l.length ≤ 1000000) {v : Value} {bs : List UInt8} (hv : BRow w v bs) (hvX : ∀ k, Value.rowBlock v = some k → X k) (hbs : bs.length ≤ 65536) (hu : d.up = false ∨ d.left = 0) :
    Calls Try.prog 48 #[.pointer (some ⟨p, 0, none⟩), .string (mk l), v] w fun e w' => e = .returned (.int .i64 8) ∧ Same X w w' ∧ Dk X (K + 3) w' p { d with up := false } := by
  obtain ⟨q, h⟩ := h
  refine (Append_c h hK (M := 65536) (Nat.le_refl _) (fun l i hi => (h.file i (ref_now hi)).len) hl hv hvX (by omega)).mono ?_
  rintro e w' ⟨n, d', rfl, hs, hd, hq⟩
  cases hup : d.up with
  | false =>
    obtain ⟨rfl, he⟩ := deed_down hq hup
    refine ⟨rfl, hs, ?_⟩
    have e2 : ({ d with up := false } : Ds) = d := by rw [← hup]
    rw [e2, ← he]
    exact hd
  | true =>
    rcases hu with hu | hu
    · rw [hup] at hu; cases hu
    · obtain ⟨rfl, rfl⟩ := deed_falls hq hup hu
      exact ⟨rfl, hs, hd⟩
theorem syncDir_no (h : Dk X K w p d) (hK : K < 1000) (hu : d.up = false) : Calls Try.prog 14 #[.pointer (some ⟨p, 0, none⟩)] w fun e w' => e = .returned (.int .i64 8) ∧ Same X w w' ∧ Dk X (K + 1) w' p d := by
  obtain ⟨q, h⟩ := h
  refine (SyncDir_c h hK).mono ?_
  rintro e w' ⟨n, d', rfl, hs, hd, hq⟩
  obtain ⟨rfl, he⟩ := deed_down hq hu
  exact ⟨rfl, hs, by rw [← he]; exact hd⟩

end Go.Proofs.Ytdgfnhgkncfmpaa
