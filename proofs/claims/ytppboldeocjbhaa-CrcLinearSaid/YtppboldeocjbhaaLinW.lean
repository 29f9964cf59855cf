/-
  THE LAW CrcLinear, WALKED.
-/
import Derived.Test.YtppboldeocjbhaaApp
import Derived.Deep.RegionLaw
import Derived.Deep.RegionWith
import Derived.Deep.RegionHeld3
import Derived.Deep.QuietTactic
import Derived.BigQuiet
import Derived.StillTailTactics
namespace Go.Proofs.Ytppboldeocjbhaa
open Go.RowKit

/-- three bytes put together, as the walk writes it -/
theorem xor3_walk (x y z : Nat) (hx : x < 256) (hy : y < 256) (hz : z < 256) :
    bits BinOp.xor IntKind.u8 (bits BinOp.xor IntKind.u8 (x : Int) (y : Int)) (z : Int) = ((x ^^^ y ^^^ z : Nat) : Int) := by
  rw [u8_xor_nat x y hx hy, u8_xor_nat _ z (Crc.xor_lt (n := 8) hx hy) hz]

theorem xor3_succ {a b c : List Nat} {k : Nat} (h : k < a.length) : (Crc.xor3 a b c).take (k + 1) = (Crc.xor3 a b c).take k ++ [a.getD k 0 ^^^ b.getD k 0 ^^^ c.getD k 0] := by
  rw [List.take_add_one]
  simp [Crc.xor3, h]

/-- the byte at k of a slice that is read, where there is one -/
theorem Row.some {w : World} {a : Option Addr} {l : List Nat} (h : Row w a l) (hp : 0 < l.length) :
    ∃ b off, a = some ⟨b, off, none⟩ ∧ ∀ i, i < l.length → w.cell? ⟨b, off + i, none⟩ = some (.int .u8 ((l.getD i 0 : Nat) : Int)) := by
  rcases h with rfl | ⟨b, off, h1, _, h3⟩
  · simp at hp
  · exact ⟨b, off, h1, h3⟩

theorem cell_keep {w : World} {p : Addr} {v : Value} (h : w.cell? p = some v) (o : Obj) : (w.alloc o).cell? p = some v := by
  rw [← h]
  exact (below_alloc w o).cell (lt_of_cell h)

/-- append of new bytes onto a row of the call's own, as one step of a region that draws -/
theorem step_append_bytes {ops : Array Oper} {o : Oper} {a : Act} {w : World} {K : Act → World → Prop} {Q : Exit → Act → World → Prop} {E : Prop}
    (hg : o.guard = none) (s x : Operand) (ho : o.op = .call { callee := .builtin .append, args := #[s, x], argTypes := #[22, 22] })
    (base : Nat) (v : Value) (n : Nat) (xs : List Nat) (hs : a.eval s = v) (hown : w.ownsRow base 5 1 v n (bytesV xs))
    (ad : Addr) (m c : Nat) (l : List Nat) (hx : a.eval x = .slice (some ad) m c) (hm : m = l.length) (hrow : Row w (some ad) l)
    (hbytes : n + m ≤ 140737488351232) (hbase : base ≤ w.heap.size)
    (h : ∀ v' w', w'.ownsRow base 5 1 v' (n + m) (bytesV (xs ++ l)) → Below base w w' → K (a.put o.dst v') w') :
    if Region.wanted o (yielded ops a.tmps) = true then Oper.wp Try.prog o a w K Q else E := by
  obtain ⟨i0, hi, hz0, hz1, hz2⟩ := info_parts info5
  rw [if_pos (by simp [Region.wanted, hg])]
  refine wp_append_own w s x 22 ho base 5 i0 (.int .u8 0) 1 1 Try.underlying22 hi hz0 hz1 hz2 rfl (by decide) v n (bytesV xs) hs hown ad m c (bytesV l) hx (by rw [bytesV_length]; omega) (row_cells hrow) ?_ (by unfold maxLen; omega) (by omega) hbase ?_
  · intro u hu
    unfold bytesV at hu
    obtain ⟨k, _, rfl⟩ := List.mem_map.1 hu
    rfl
  · intro v' w' h1 h2 _
    exact h v' w' (by rw [bytesV_append]; exact h1) (below_grown hown h2 hbase)

theorem Row.take {w : World} {a : Option Addr} {l : List Nat} (h : Row w a l) (k : Nat) : Row w a (l.take k) := by
  rcases h with rfl | ⟨b, off, h1, h2, h3⟩
  · exact .inl (by simp)
  · refine .inr ⟨b, off, h1, h2, fun i hi => ?_⟩
    have hi2 : i < k ∧ i < l.length := by simp at hi; omega
    rw [h3 i hi2.2]
    simp [List.getD, hi2.1]

theorem xor3_take {na : Nat} {la lb lc : List Nat} (h : na = la.length) : Crc.xor3 la (lb.take na) (lc.take na) = Crc.xor3 la lb lc := by
  unfold Crc.xor3
  refine List.map_congr_left fun i hi => ?_
  have hi : i < na := by rw [h]; simpa using hi
  simp [List.getD, hi]

theorem xor3_lt {la lb lc : List Nat} (ha : ∀ n ∈ la, n < 256) (hb : ∀ n ∈ lb, n < 256) (hc : ∀ n ∈ lc, n < 256) : ∀ n ∈ Crc.xor3 la lb lc, n < 256 := by
  intro n hn
  obtain ⟨i, _, rfl⟩ := List.mem_map.1 hn
  exact Crc.xor_lt (n := 8) (Crc.xor_lt (n := 8) (Crc.getD_lt ha i) (Crc.getD_lt hb i)) (Crc.getD_lt hc i)

theorem lin_else (a b c : Option Addr) (na nb nc ca cb cc : Nat) (w : World) (h : ¬ (¬ 1000 < na ∧ ¬ nb < na ∧ ¬ nc < na ∧ ¬ 1000 < nb ∧ ¬ 1000 < nc)) :
    Calls Try.prog 6 #[.slice a na ca, .slice b nb cb, .slice c nc cc] w fun e w' => e = .returned (.bool true) ∧ Below w.heap.size w w' := by
  have H := Lib.hid h
  clear h
  by_cases h1 : 1000 < na
  · go_enter Try.func6, Try.ntmps6
    go_wp2_with fail
    go_ret
    exact ⟨rfl, Below.refl _ _⟩
  by_cases h2 : nb < na
  · go_enter Try.func6, Try.ntmps6
    go_wp2_with fail
    go_ret
    exact ⟨rfl, Below.refl _ _⟩
  by_cases h3 : nc < na
  · go_enter Try.func6, Try.ntmps6
    go_wp2_with fail
    go_ret
    exact ⟨rfl, Below.refl _ _⟩
  by_cases h4 : 1000 < nb
  · go_enter Try.func6, Try.ntmps6
    go_wp2_with fail
    go_ret
    exact ⟨rfl, Below.refl _ _⟩
  have h5 : 1000 < nc := by have := H.out; omega
  clear H
  go_enter Try.func6, Try.ntmps6
  go_wp2_with fail
  go_ret
  exact ⟨rfl, Below.refl _ _⟩

set_option maxHeartbeats 400000 in
theorem lin_main (a b c : Option Addr) (na nb nc ca cb cc : Nat) (la lb lc : List Nat) (w : World) (hla : ∀ n ∈ la, n < 256) (hlb : ∀ n ∈ lb, n < 256) (hlc : ∀ n ∈ lc, n < 256)
    (hna : Hid (na = la.length)) (hnb : Hid (nb = lb.length)) (hnc : Hid (nc = lc.length)) (za : Hid (a = none → ca = 0)) (zb : Hid (b = none → cb = 0)) (zc : Hid (c = none → cc = 0))
    (cab : na ≤ cb) (cac : na ≤ cc)
    (ra : Row w a la) (rb : Row w b lb) (rc : Row w c lc) (h1 : ¬ 1000 < na) (h2 : ¬ nb < na) (h3 : ¬ nc < na) (h4 : ¬ 1000 < nb) (h5 : ¬ 1000 < nc) :
    Calls Try.prog 6 #[.slice a na ca, .slice b nb cb, .slice c nc cc] w fun e w' => e = .returned (.bool true) ∧ Below w.heap.size w w' := by
  go_enter Try.func6, Try.ntmps6
  go_wp2_with fail
  go_quiet (fail)
  go_wp2_with fail
  go_loopw [7, 8] (fun v i wr => ∃ k : Nat, k ≤ na ∧ i = .int .i64 k ∧ wr.ownsRow w.heap.size 5 1 v k (bytesV ((Crc.xor3 la lb lc).take k)) ∧ Below w.heap.size w wr) (fun _ i _ => na - (intOf i).toNat)
  case atStart => exact ⟨0, by omega, rfl, by rw [List.take_zero]; exact World.ownsRow_nil _ _ _ _, ⟨rfl, rfl, rfl, Nat.le_refl _, fun _ _ => rfl⟩⟩
  case round =>
    obtain ⟨k, hk, rfl, hown, hnx⟩ := hrel
    by_cases hlt : k < na
    · have e1 := hna.out
      have e2 := hnb.out
      have e3 := hnc.out
      obtain ⟨ba, oa, Ha, ra⟩ := ra.some (by omega)
      obtain ⟨bb, ob, Hb, rb⟩ := rb.some (by omega)
      obtain ⟨bc, oc, Hc, rc⟩ := rc.some (by omega)
      have ca' := ra k (by omega)
      have cb' := rb k (by omega)
      have cc' := rc k (by omega)
      have xa := Crc.getD_lt hla k
      have xb := Crc.getD_lt hlb k
      have xc := Crc.getD_lt hlc k
      have hsn := xor3_succ (b := lb) (c := lc) (show k < la.length by omega)
      have Hsn := Lib.hid hsn
      clear hsn e1 e2 e3 ra rb rc
      subst Ha Hb Hc
      have xa0 := ca'
      have xb0 := cb'
      have xc0 := cc'
      have ca1 := (hnx.cell (p := ⟨ba, oa + k, none⟩) (lt_of_cell ca')).trans ca'
      have cb1 := (hnx.cell (p := ⟨bb, ob + k, none⟩) (lt_of_cell cb')).trans cb'
      have cc1 := (hnx.cell (p := ⟨bc, oc + k, none⟩) (lt_of_cell cc')).trans cc'
      clear ca' cb' cc'
      generalize la.getD k 0 = x at *
      generalize lb.getD k 0 = y at *
      generalize lc.getD k 0 = z at *
      go_wp2_with fail
      have h3 := xor3_walk x y z xa xb xc
      go_region_held3 (fun w' => w'.cell? ⟨ba, oa + k, none⟩ = some (.int .u8 (x : Int)) ∧ w'.cell? ⟨bb, ob + k, none⟩ = some (.int .u8 (y : Int)) ∧ w'.cell? ⟨bc, oc + k, none⟩ = some (.int .u8 (z : Int)))
        (first
          | go_keep
          | (go_split_ands
             refine ⟨?_, ?_, ?_⟩
             · exact (hb2.cell (p := ⟨ba, oa + k, none⟩) (lt_of_cell xa0)).trans (cell_keep ca1 _)
             · exact (hb2.cell (p := ⟨bb, ob + k, none⟩) (lt_of_cell xb0)).trans (cell_keep cb1 _)
             · exact (hb2.cell (p := ⟨bc, oc + k, none⟩) (lt_of_cell xc0)).trans (cell_keep cc1 _)))
        ((refine step_append_bytes rfl (.tmp 50) (.tmp 65) rfl w.heap.size u7 k _ rfl (hown.drew.alloc _) ⟨wr.heap.size, 0, none⟩ 1 1 [x ^^^ y ^^^ z] rfl rfl (row_list _ _ _ _ _ rfl) (by omega) (by have := hnx.size; simp; omega) ?_; intro v2 w2 hown2 hb2))
      go_wp2_with fail
      go_roundw
      case rel => exact ⟨k + 1, by omega, by go_num, by rw [Hsn.out]; exact hown2, (hnx.drew.alloc hnx.size _).trans hb2⟩
      case measure => simp [intOf]; omega
    · obtain rfl : na = k := by omega
      have hx3 : (Crc.xor3 la lb lc).take na = Crc.xor3 la lb lc := List.take_of_length_le (by rw [hna.out]; simp [Crc.xor3])
      rw [hx3] at hown
      obtain ⟨ad, cd, rfl, hnd, rd, _⟩ := row_owned hown
      have Hnd := Lib.hid hnd
      have tb : Row wr b (lb.take na) := (rb.take na).below hnx
      have tc : Row wr c (lc.take na) := (rc.take na).below hnx
      have ta : Row wr a la := ra.below hnx
      have hsum := Crc.sum_xor3 la (lb.take na) (lc.take na) hla (take_lt hlb na) (take_lt hlc na) (by have := hna.out; have := hnb.out; simp; omega) (by have := hna.out; have := hnc.out; simp; omega)
      rw [show Crc.xor3 la (lb.take na) (lc.take na) = Crc.xor3 la lb lc from xor3_take hna.out] at hsum
      have sa : Crc.sum la < 4294967296 := Crc.more_lt 0 la
      have sb : Crc.sum (lb.take na) < 4294967296 := Crc.more_lt 0 (lb.take na)
      have sc : Crc.sum (lc.take na) < 4294967296 := Crc.more_lt 0 (lc.take na)
      have hx : bits BinOp.xor IntKind.u32 (bits BinOp.xor IntKind.u32 ((Crc.sum la : Nat) : Int) ((Crc.sum (lb.take na) : Nat) : Int)) ((Crc.sum (lc.take na) : Nat) : Int) = ((Crc.sum (Crc.xor3 la lb lc) : Nat) : Int) := by
        rw [u32_xor_nat _ _ sa sb, u32_xor_nat _ _ (Crc.xor_lt32 sa sb) sc, hsum]
      have HX := Lib.hid hx
      have lx : ∀ n ∈ Crc.xor3 la lb lc, n < 256 := xor3_lt hla hlb hlc
      have nx : (Crc.xor3 la lb lc).length ≤ 1000 := by have := hna.out; simp [Crc.xor3]; omega
      have l1 : na = (lb.take na).length := by have := hnb.out; simp; omega
      have l2 : na = (lc.take na).length := by have := hnc.out; simp; omega
      have L1 := Lib.hid l1
      have L2 := Lib.hid l2
      have lla := hna.out
      have k1 : la.length ≤ 1000 := by omega
      have k2 : (lb.take na).length ≤ 1000 := by omega
      have k3 : (lc.take na).length ≤ 1000 := by omega
      clear hnd hsum hx3 hx l1 l2 lla sa sb sc
      go_wp2_with fail
      refine (sum_any ad na cd _ _ lx (by omega) Hnd.out rd).mono ?_
      rintro e w1 ⟨rfl, hb1⟩
      go_wp2_with fail
      refine (sum_any a na ca la _ hla (by omega) hna.out (ta.below hb1)).mono ?_
      rintro e w2 ⟨rfl, hb2⟩
      have hb2 := hb1.trans (hb2.mono hb1.size)
      go_wp2_with fail
      refine (sum_any b na cb _ _ (take_lt hlb na) (by omega) L1.out (tb.below hb2)).mono ?_
      rintro e w3 ⟨rfl, hb3⟩
      have hb3 := hb2.trans (hb3.mono hb2.size)
      go_wp2_with fail
      refine (sum_any c na cc _ _ (take_lt hlc na) (by omega) L2.out (tc.below hb3)).mono ?_
      rintro e w4 ⟨rfl, hb4⟩
      have hb4 := hb3.trans (hb4.mono hb3.size)
      have hx := HX.out
      go_wp2_with fail
      refine (awake_any _).mono ?_
      rintro e w5 ⟨rfl, hb5⟩
      have hb5 := hb4.trans (hb5.mono hb4.size)
      go_wp2_with fail
      go_ret
      exact ⟨rfl, hnx.trans (hb5.mono hnx.size)⟩

theorem lawlinear_any (a b c : Option Addr) (na nb nc ca cb cc : Nat) (la lb lc : List Nat) (w : World) (hla : ∀ n ∈ la, n < 256) (hlb : ∀ n ∈ lb, n < 256) (hlc : ∀ n ∈ lc, n < 256)
    (hna : Hid (na = la.length)) (hnb : Hid (nb = lb.length)) (hnc : Hid (nc = lc.length)) (za : Hid (a = none → ca = 0)) (zb : Hid (b = none → cb = 0)) (zc : Hid (c = none → cc = 0))
    (cab : nb ≤ cb) (cac : nc ≤ cc)
    (ra : Row w a la) (rb : Row w b lb) (rc : Row w c lc) :
    Calls Try.prog 6 #[.slice a na ca, .slice b nb cb, .slice c nc cc] w fun e w' => e = .returned (.bool true) ∧ Below w.heap.size w w' := by
  by_cases h : ¬ 1000 < na ∧ ¬ nb < na ∧ ¬ nc < na ∧ ¬ 1000 < nb ∧ ¬ 1000 < nc
  · exact lin_main a b c na nb nc ca cb cc la lb lc w hla hlb hlc hna hnb hnc za zb zc (by omega) (by omega) ra rb rc h.1 h.2.1 h.2.2.1 h.2.2.2.1 h.2.2.2.2
  · exact lin_else a b c na nb nc ca cb cc w h
end Go.Proofs.Ytppboldeocjbhaa
