/-
  THE DOCUMENT's OWN HEAD, FRAME, FILE.
-/
import Derived.Test.YtdgfnhgkncfmpaaRlLaw
import Derived.Test.YtdgfnhgkncfmpaaCrcR
import Derived.Test.YtdgfnhgkncfmpaaPkRef
namespace Go.Proofs.Ytdgfnhgkncfmpaa.Rl
open Go.RowKit Go.Maps

variable {w : World}

theorem shorts_of_light {rs : List (List UInt8)} (h : Light rs) : Shorts rs := fun r hr => by have := h.2 r hr; omega

set_option maxRecDepth 100000 in
set_option maxHeartbeats 1000000 in
theorem refHead_c (k : UInt8) (w : World) : Calls Try.prog 28 #[.int .u8 k.toNat] w fun e w' => ∃ a c, e = .returned (.slice a 8 c) ∧ w'.ownsRow w.heap.size 5 1 (.slice a 8 c) 8 (bytesV (head k)) ∧ Below w.heap.size w w' := by
  obtain ⟨w1, hw1⟩ : ∃ W, w.alloc (.cells #[.int .u8 66, .int .u8 76, .int .u8 87, .int .u8 49, .int .u8 k.toNat, .int .u8 0, .int .u8 0, .int .u8 0] 5) = W := ⟨_, rfl⟩
  have hb1 : Below w.heap.size w w1 := by rw [← hw1]; exact below_alloc _ _
  have e1 : w1.heap[w.heap.size]? = some (.cells #[.int .u8 66, .int .u8 76, .int .u8 87, .int .u8 49, .int .u8 k.toNat, .int .u8 0, .int .u8 0, .int .u8 0] 5 (0, 0)) := by rw [← hw1]; exact heap_alloc_new _ _
  have hown : w1.ownsRow w.heap.size 5 1 (.slice (some ⟨w.heap.size, 0, none⟩) 8 8) 8 (bytesV (head k)) :=
    ⟨rfl, .inr ⟨w.heap.size, 8, _, rfl, Nat.le_refl _, e1, Nat.le_refl _, by unfold maxLen; omega, rfl, rfl⟩⟩
  have HO := Lib.hid hown
  have HB := Lib.hid hb1
  clear hown hb1 e1
  go_enter Try.func28, Try.ntmps28
  go_wp2
  go_ret
  exact ⟨_, _, rfl, HO.out, HB.out⟩

set_option maxRecDepth 100000 in
set_option maxHeartbeats 4000000 in
theorem refFrame_c {a : Option Addr} {n c : Nat} {l : List UInt8} (h : Bq w a n c l) (hl : n ≤ 4096) :
    Calls Try.prog 23 #[.slice a n c] w fun e w' => ∃ a' c', e = .returned (.tuple #[.slice a' (8 + n) c', .bool true]) ∧ w'.ownsRow w.heap.size 5 1 (.slice a' (8 + n) c') (8 + n) (bytesV (frame l)) ∧ Below w.heap.size w w' := by
  have H := Lib.hid h
  have h1 := Pk.refnum_any n 4 w (by omega) (by omega)
  clear h
  go_enter Try.func23, Try.ntmps23
  go_wp2_with fail
  refine h1.mono ?_
  rintro e w1 ⟨a1, n1, c1, rfl, hown1, hb1⟩
  clear h1
  have hs := Cr.refsum_any a n c (nb l) w1 (nb_lt l) (by rw [nb_length, ← H.out.len]; omega) (by rw [nb_length]; exact H.out.len) (H.out.below hb1).cr
  have hn1' : n1 = 4 := by have := hown1.1; rw [Pk.bytesV_length, Pk.le_length] at this; omega
  subst hn1'
  have h2 := Pk.refnum_any (Cr.Crc.sum (nb l)) 4 w1 (by have := Cr.Crc.more_lt 0 (nb l); unfold Cr.Crc.sum; omega) (by omega)
  have hs32 : Cr.Crc.sum (nb l) < 4294967296 := Cr.Crc.more_lt _ _
  obtain ⟨cs, hcs⟩ : ∃ x, Cr.Crc.sum (nb l) = x := ⟨_, rfl⟩
  rw [hcs] at hs h2 hs32
  have HCS := Lib.hid hcs
  have HB1 := Lib.hid hb1
  clear hcs hb1
  go_wp2_with fail
  refine hs.mono ?_
  rintro e w2 ⟨rfl, rfl⟩
  clear hs
  go_wp2_with fail
  refine h2.mono ?_
  rintro e w2 ⟨a2, n2, c2, rfl, hown2, hb2⟩
  clear h2
  have hn2' : n2 = 4 := by have := hown2.1; rw [Pk.bytesV_length, Pk.le_length] at this; omega
  subst hn2'
  obtain ⟨a2', c2', e2, hn2, hr2, hnil2⟩ := Pk.row_owned hown2
  cases e2
  have HN2 := Lib.hid hn2
  clear hn2
  have hown1' := row_kept hown1 fun k hk => hb2.block k (hown1.lt k hk).2
  have HB2 := Lib.hid (HB1.out.trans (hb2.mono HB1.out.size))
  have hsz2 : w.heap.size ≤ w2.heap.size := HB2.out.size
  clear hown1 hown2 hb2 hs32
  go_wp2_with (first
    | (at_builtin; refine Pk.wpList_append_bytes rfl _ _ rfl w.heap.size _ 4 _ rfl hown1' a2 4 c2 (Pk.le cs 4) rfl HN2.out hnil2 hr2 _ rfl (by omega) hsz2 ?_; intro a3 n3 c3 w3 hown3 Hn3 _ _ _ hb3; have hn3 : n3 = 8 := (by rw [Hn3.out, List.length_append, Pk.le_length, Pk.le_length]); subst hn3; have HB23 := Lib.hid (HB2.out.trans hb3); have hr := (H.out.below HB23.out).pk; have hsz3 := HB23.out.size; clear hb3 Hn3 hown1' hr2 hnil2)
    | (at_builtin; refine Pk.wpList_append_bytes rfl _ _ rfl w.heap.size _ 8 _ rfl hown3 a n c (nb l) rfl (by rw [nb_length]; exact H.out.len) H.out.nil hr _ rfl (by omega) hsz3 ?_; intro a4 n4 c4 w4 hown4 Hn4 _ hr4 _ hb4))
  have hn4 : n4 = 8 + n := by rw [Hn4.out, List.length_append, List.length_append, Pk.le_length, Pk.le_length, nb_length, ← H.out.len]
  subst hn4
  have he : Pk.le n 4 ++ Pk.le cs 4 ++ nb l = nb (frame l) := by
    rw [← HCS.out, le_nb, le_nb, List.append_assoc, ← nb_append, ← nb_append]
    show nb (le4 n ++ (le4 (csum l) ++ l)) = _
    unfold frame
    rw [H.out.len]
  rw [he, bytesV_nb] at hown4
  go_ret2
  exact ⟨a4, c4, rfl, hown4, HB23.out.trans hb4⟩

theorem body_app (k : UInt8) (rs : List (List UInt8)) (i : Nat) (r : List UInt8) (h : rs[i]? = some r) : body k (rs.take (i + 1)) = body k (rs.take i) ++ frame r := by
  obtain ⟨hi, rfl⟩ := List.getElem?_eq_some_iff.1 h
  rw [List.take_succ_eq_append_getElem hi, body_snoc]
theorem light_size : ∀ {rs : List (List UInt8)}, (∀ r ∈ rs, r.length ≤ 500) → (all rs).length ≤ 508 * rs.length
  | [], _ => Nat.le_refl _
  | r :: rs, h => by
    have := light_size (rs := rs) fun x hx => h x (by simp [hx])
    have h1 := h r (by simp)
    rw [all_cons, List.length_append, frame_length, List.length_cons]
    omega

set_option maxRecDepth 100000 in
set_option maxHeartbeats 4000000 in
theorem file_c {a : Option Addr} {n c : Nat} {rs : List (List UInt8)} (k : UInt8) (h : Mat w (.slice a n c) rs) (hl : Light rs) :
    Calls Try.prog 33 #[.int .u8 k.toNat, .slice a n c] w fun e w' => ∃ a' m c', e = .returned (.slice a' m c') ∧ w'.ownsRow w.heap.size 5 1 (.slice a' m c') m (bytesV (body k rs)) ∧ Below w.heap.size w w' := by
  have hh := refHead_c k w
  obtain ⟨hn, hat⟩ := Mat.at h
  have HAT := Lib.hid hat
  have HN := Lib.hid hn
  have HL := Lib.hid hl
  have hn30 : n ≤ 30 := by rw [hn]; exact hl.1
  clear h hat hn hl
  go_enter Try.func33, Try.ntmps33
  go_wp2_with fail
  refine hh.mono ?_
  rintro e w1 ⟨a8, c8, rfl, hown, hb1⟩
  clear hh
  have HO : Hid (w1.ownsRow w.heap.size 5 1 (.slice a8 8 c8) 8 (bytesV (body k (rs.take 0)))) := Lib.hid (by rw [List.take_zero]; exact hown)
  have HB := Lib.hid hb1
  clear hown hb1
  go_wp2_with fail
  go_loopw [5, 6] (fun vb vi wr => ∃ i : Nat, i ≤ n ∧ vi = .int .i64 i ∧ ∃ ba bm bc, vb = .slice ba bm bc ∧ Hid (wr.ownsRow w.heap.size 5 1 (.slice ba bm bc) bm (bytesV (body k (rs.take i)))) ∧ Hid (Below w.heap.size w wr)) (fun _ vi _ => n - (intOf vi).toNat)
  case atStart => exact ⟨0, Nat.zero_le _, rfl, _, _, _, rfl, HO, HB⟩
  case round =>
    obtain ⟨i, hi, rfl, ba, bm, bc, rfl, hO, hBR⟩ := hrel
    clear HO HB
    have hbm : bm = 8 + (all (rs.take i)).length := by have := hO.out.1; rw [bytesV_length, body_length] at this; omega
    have hbl : (all (rs.take i)).length ≤ 508 * (rs.take i).length := light_size fun r hr => HL.out.2 r (List.mem_of_mem_take hr)
    have hbm2 : bm ≤ 16000 := by rw [List.length_take] at hbl; have := HN.out; omega
    clear hbl hbm
    by_cases hlt : i < n
    · obtain ⟨r, hr⟩ : ∃ r, rs[i]? = some r := ⟨rs[i]'(by rw [← HN.out]; exact hlt), List.getElem?_eq_getElem _⟩
      obtain ⟨b, o, ua, uc, rfl, hb, hc, hrow⟩ := HAT.out i r hr
      have hcw := (hBR.out.cell (p := ⟨b, o + i, none⟩) hb).trans hc
      obtain ⟨rn, hrn⟩ : ∃ x, r.length = x := ⟨_, rfl⟩
      have hr5 : rn ≤ 500 := by rw [← hrn]; exact HL.out.2 r (List.mem_of_getElem? hr)
      rw [hrn] at hcw hrow
      have hf := refFrame_c (bq_of_row (hrow.below hBR.out)) (by omega)
      have HR := Lib.hid hr
      clear hr hrn hrow hc
      go_wp2_with fail
      refine hf.mono ?_
      rintro e w2 ⟨a2, c2, rfl, hown2, hb2⟩
      clear hf
      have hO2 := row_kept (w' := w2) hO.out fun k hk => hb2.block k (hO.out.lt k hk).2
      have hbt := Bt.owned hown2
      have hB2 := Lib.hid (hBR.out.trans (hb2.mono hBR.out.size))
      have hsz : w.heap.size ≤ w2.heap.size := hB2.out.size
      have hO2' : w2.ownsRow w.heap.size 5 1 (.slice ba bm bc) bm (Pk.bytesV (nb (body k (rs.take i)))) := by rw [bytesV_nb]; exact hO2
      have hpk := hbt.pk
      have hnil := hbt.nil
      have HLEN : Hid (8 + rn = (nb (frame r)).length) := Lib.hid (by rw [nb_length]; exact hbt.len)
      clear hown2 hb2 hO2 hbt hcw
      go_wp2_with (at_builtin; refine Pk.wpList_append_bytes rfl _ _ rfl w.heap.size _ bm _ rfl hO2' a2 (8 + rn) c2 (nb (frame r)) rfl HLEN.out hnil hpk _ rfl (by omega) hsz ?_; intro a3 n3 c3 w3 hown3 Hn3 hle3 _ _ hb3)
      have hown4 : w3.ownsRow w.heap.size 5 1 (.slice a3 n3 c3) n3 (bytesV (body k (rs.take (i + 1)))) := by
        rw [body_app k rs i r HR.out, ← bytesV_nb, nb_append]
        exact hown3
      go_roundw
      case rel => exact ⟨i + 1, by omega, by go_num, a3, n3, c3, rfl, Lib.hid hown4, Lib.hid (hB2.out.trans hb3)⟩
      case measure => simp [intOf]; omega
    · obtain rfl : i = n := by omega
      go_wp2
      go_ret
      exact ⟨ba, bm, bc, rfl, by have := hO.out; rw [HN.out, List.take_length] at this; exact this, hBR.out⟩
end Go.Proofs.Ytdgfnhgkncfmpaa.Rl
