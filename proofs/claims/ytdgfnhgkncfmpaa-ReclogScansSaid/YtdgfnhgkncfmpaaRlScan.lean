/-
  reclog's FRAME, AND WHAT IT SCANS.
-/
import Derived.Test.YtdgfnhgkncfmpaaRlW
namespace Go.Proofs.Ytdgfnhgkncfmpaa.Rl
open Go.RowKit Go.Maps

variable {w : World}

set_option maxHeartbeats 2000000 in
theorem frame_long {a : Option Addr} {n c : Nat} (hl : 4096 < n) : Calls Try.prog 22 #[.slice a n c] w fun e w' => e = .returned (.tuple #[.slice none 0 0, .int .i64 3]) ∧ w = w' := by
  go_enter Try.func22, Try.ntmps22
  go_wp2
  go_ret2
  exact ⟨rfl, rfl⟩

set_option maxRecDepth 100000 in
set_option maxHeartbeats 4000000 in
theorem frame_c {a : Option Addr} {n c : Nat} {l : List UInt8} (h : Bq w a n c l) (hl : n ≤ 4096) :
    Calls Try.prog 22 #[.slice a n c] w fun e w' => ∃ a' c', e = .returned (.tuple #[.slice a' (8 + n) c', .int .i64 0]) ∧ w'.ownsRow w.heap.size 5 1 (.slice a' (8 + n) c') (8 + n) (bytesV (frame l)) ∧ Below w.heap.size w w' := by
  have H := Lib.hid h
  have h1 := Pk.u32_any none 0 0 [] n w (by omega) (Lib.hid rfl) (.inl rfl) (by omega)
  clear h
  go_enter Try.func22, Try.ntmps22
  go_wp2_with fail
  refine h1.mono ?_
  rintro e w1 ⟨a1, n1, c1, rfl, hown1, hb1⟩
  clear h1
  obtain ⟨a1', c1', e1, hn1, hr1, _⟩ := Pk.row_owned hown1
  cases e1
  have hs := Cr.sum_any a n c (nb l) w1 (nb_lt l) (by rw [nb_length, ← H.out.len]; omega) (by rw [nb_length]; exact H.out.len) (H.out.below hb1).cr
  have hn1' : n1 = 4 := by rw [hn1]; simp [Pk.le_length]
  subst hn1'
  have HN := Lib.hid hn1
  have HR1 := Lib.hid hr1
  have HB1 := Lib.hid hb1
  clear hown1 hn1 hr1 hb1
  go_wp2_with fail
  refine hs.mono ?_
  rintro e w2 ⟨rfl, hb2⟩
  clear hs
  have h2 := Pk.u32_any a1 4 c1 ([] ++ Pk.le n 4) (Cr.Crc.sum (nb l)) w2 (Cr.Crc.more_lt _ _) HN (HR1.out.below hb2) (by omega)
  have HB2 := Lib.hid (HB1.out.trans (hb2.mono HB1.out.size))
  clear hb2 HR1
  go_wp2_with fail
  refine h2.mono ?_
  rintro e w3 ⟨a3, n3, c3, rfl, hown3, hb3⟩
  clear h2
  have hn3 : n3 = 8 := by
    have := hown3.1
    rw [Pk.bytesV_length] at this
    simp [Pk.le_length] at this
    omega
  subst hn3
  have HB3 := Lib.hid (HB2.out.trans (hb3.mono HB2.out.size))
  have hr := (H.out.below HB3.out).pk
  have hsz := hb3.size
  clear hb3
  go_wp2_with (at_builtin; refine Pk.wpList_append_bytes rfl _ _ rfl w2.heap.size _ 8 _ rfl hown3 a n c (nb l) rfl (by rw [nb_length]; exact H.out.len) H.out.nil hr _ rfl (by omega) hsz ?_; intro a4 n4 c4 w4 hown4 Hn4 _ hr4 _ hb4)
  have hn4 : n4 = 8 + n := by rw [Hn4.out]; simp [Pk.le_length, nb_length, H.out.len]; omega
  subst hn4
  have he : [] ++ Pk.le n 4 ++ Pk.le (Cr.Crc.sum (nb l)) 4 ++ nb l = nb (frame l) := by
    rw [le_nb, le_nb, List.nil_append, List.append_assoc, ← nb_append, ← nb_append]
    show nb (le4 n ++ (le4 (csum l) ++ l)) = _
    unfold frame
    rw [H.out.len]
  rw [he, bytesV_nb] at hown4
  go_ret2
  exact ⟨a4, c4, rfl, Pk.owns_mono hown4 HB2.out.size, HB3.out.trans (hb4.mono (by have := HB2.out.size; omega))⟩
end Go.Proofs.Ytdgfnhgkncfmpaa.Rl
