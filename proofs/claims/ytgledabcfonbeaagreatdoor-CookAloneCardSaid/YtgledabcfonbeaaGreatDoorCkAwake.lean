/-
  awake: what the chapter's examples say.
-/
import Derived.Test.YtgledabcfonbeaaGreatDoorCkJ13
import Derived.Deep.DeepCutAuto
namespace Go.Proofs.YtgledabcfonbeaaGreatDoor.Df
open Go.RowKit Go.Maps Go.Proofs.YtgledabcfonbeaaGreatDoor

/-- a dish of one output -/
theorem CoA.one {w w' : World} {o : Cmd} {p : Bs × List Bs} {x : Bs} {e : Ending} (h : CoA w (some (o, p)) e w') (hx : o.outs = [x]) :
    ∃ g c bv, e = .returned (.tuple #[.agg #[.slice (some ⟨g, 0, none⟩) 1 c, .bool o.once, .string (mk o.dep), .string (mk (depsT o p.2))], .int .i64 0]) ∧ w.heap.size ≤ g ∧ (∃ cur, w'.heap[g]? = some (.cells cur 52 (0, 0))) ∧ w'.cell? ⟨g, 0, none⟩ = some (.string (mk x)) ∧ w'.cell? ⟨g, 1, none⟩ = some bv ∧ OB w' bv p.1 ∧ Below w.heap.size w w' := by
  obtain ⟨⟨C, er, rfl, he, base, hbase, a, c, L, hC, hfst, hob, hown⟩, hB⟩ := h
  obtain rfl : er = 0 := he
  cases hC
  have hfst2 : L.map Prod.fst = [x] := hfst.trans hx
  have hL : ∃ v, L = [(x, v)] := by
    cases L with
    | nil => cases hfst2
    | cons q L =>
      cases L with
      | nil =>
        obtain ⟨y, v⟩ := q
        rw [List.map_cons, List.map_nil] at hfst2
        injection hfst2 with h1
        have h1 : y = x := h1
        rw [h1]
        exact ⟨v, rfl⟩
      | cons r L => cases hfst2
  obtain ⟨v, rfl⟩ := hL
  have hob2 := hob (x, v) List.mem_cons_self
  have h2 := hown.2
  obtain ⟨g, rfl⟩ : ∃ g, a = some ⟨g, 0, none⟩ := by
    rcases h2 with ⟨e1, e2⟩ | ⟨g, cap, cur, e1, _⟩
    · cases e2
    · injection e1 with e1
      exact ⟨g, e1⟩
  obtain ⟨hlo, cur, hcur⟩ := owns_block hown (g := g) rfl
  have hc0 := hown.cells (g := g) rfl 0 (.string (mk x)) rfl
  have hc1 := hown.cells (g := g) rfl 1 v rfl
  rw [Go.WideShapes.add_plain] at hc0 hc1
  exact ⟨g, c, v, rfl, Nat.le_trans hbase hlo, ⟨cur, hcur⟩, hc0, hc1, hob2, hB⟩

theorem SumC.not {w : World} {H : Bs → Bs} {decl : List Bs} {F : Bs → Option Bs} {o : Cmd} (h : o.verb ≠ wSum) : SumC w H decl F o := fun e => absurd e h
theorem fls2 {W : World} {FB : Nat} {n1 n2 r1 r2 : Bs} {u1 u2 : Value} (hF : W.heap[FB]? = some (.cells #[.string (mk n1), u1, .string (mk n2), u2] 52 (0, 0))) (h1 : Byt W u1 r1) (h2 : Byt W u2 r2) : Fls W (.slice (some ⟨FB, 0, none⟩) 2 2) [(n1, r1), (n2, r2)] [u1, u2] := by
  refine ⟨fun u hu => ?_, _, 2, rfl, Nat.le_refl _, .inr ⟨FB, 0, rfl, lt_some hF, fun j x hx => ?_⟩⟩
  · rcases List.mem_cons.1 hu with rfl | hu
    · obtain ⟨a, c, rfl, -⟩ := h1; exact ⟨_, _, _, rfl⟩
    · obtain rfl := List.mem_singleton.1 hu
      obtain ⟨a, c, rfl, -⟩ := h2; exact ⟨_, _, _, rfl⟩
  · match j, hx with
    | 0, hx => cases hx; exact ⟨u1, rfl, cell_of_heap hF, cell_of_heap hF, h1⟩
    | 1, hx => cases hx; exact ⟨u2, rfl, cell_of_heap hF, cell_of_heap hF, h2⟩
theorem two_names {n : Nat} {x y : Bs} (hx : x.length ≤ n) (hy : y.length ≤ n) : ∀ z ∈ [x, y], z.length ≤ n := fun z hz => by
  rcases List.mem_cons.1 hz with rfl | hz
  · exact hx
  · rw [List.mem_singleton.1 hz]; exact hy

set_option maxRecDepth 100000 in
set_option maxHeartbeats 8000000 in
theorem awake_c (w : World) : Calls Tryz.prog 12 #[] w fun e w' => e = .returned (.bool true) ∧ Below w.heap.size w w' := by
  have kc := fun (w : World) (C : Array Value) (n c : Nat) => Lib.run_convert_bytes_const (P := Tryz.prog) w 24 5 C n c Tryz.underlying24 Tryz.underlying5
  obtain ⟨wa, hwa⟩ : ∃ W, w.alloc (.cells #[.int .u8 120] 5 (1, 2)) = W := ⟨_, rfl⟩
  obtain ⟨wb, hwb⟩ : ∃ W, wa.alloc (.cells #[.int .u8 121] 5 (1, 2)) = W := ⟨_, rfl⟩
  obtain ⟨wc, hwc⟩ : ∃ W, wb.alloc (.cells #[.string ⟨#[97]⟩, .slice (some ⟨w.heap.size, 0, none⟩) 1 1, .string ⟨#[98]⟩, .slice (some ⟨wa.heap.size, 0, none⟩) 1 1] 52) = W := ⟨_, rfl⟩
  obtain ⟨wd, hwd⟩ : ∃ W, wc.alloc (.cells #[.string ⟨#[97]⟩, .string ⟨#[98]⟩] 9) = W := ⟨_, rfl⟩
  have ba : Below w.heap.size w wa := by rw [← hwa]; exact below_alloc _ _
  have bb : Below wa.heap.size wa wb := by rw [← hwb]; exact below_alloc _ _
  have bc : Below wb.heap.size wb wc := by rw [← hwc]; exact below_alloc _ _
  have bd : Below wc.heap.size wc wd := by rw [← hwd]; exact below_alloc _ _
  have na : wa.heap[w.heap.size]? = some (.cells #[.int .u8 120] 5 (1, 2)) := by rw [← hwa]; exact heap_alloc_new _ _
  have nb : wb.heap[wa.heap.size]? = some (.cells #[.int .u8 121] 5 (1, 2)) := by rw [← hwb]; exact heap_alloc_new _ _
  have nc : wc.heap[wb.heap.size]? = some (.cells #[.string ⟨#[97]⟩, .slice (some ⟨w.heap.size, 0, none⟩) 1 1, .string ⟨#[98]⟩, .slice (some ⟨wa.heap.size, 0, none⟩) 1 1] 52 (0, 0)) := by rw [← hwc]; exact heap_alloc_new _ _
  have nd : wd.heap[wc.heap.size]? = some (.cells #[.string ⟨#[97]⟩, .string ⟨#[98]⟩] 9 (0, 0)) := by rw [← hwd]; exact heap_alloc_new _ _
  have hdec : Strs wd (.slice (some ⟨wc.heap.size, 0, none⟩) 2 2) [[97], [98]] := ⟨_, 2, rfl, Nat.le_refl _, .inr ⟨wc.heap.size, 0, rfl, lt_some nd, fun j p hp => by
    match j, hp with
    | 0, hp => cases hp; exact cell_of_heap nd
    | 1, hp => cases hp; exact cell_of_heap nd⟩⟩
  have na2 := (bc.block _ (lt_some ((bb.block _ (lt_some na)).trans na))).trans ((bb.block _ (lt_some na)).trans na)
  have na3 := (bd.block _ (lt_some na2)).trans na2
  have nb2 := (bc.block _ (lt_some nb)).trans nb
  have nb3 := (bd.block _ (lt_some nb2)).trans nb2
  have nc3 := (bd.block _ (lt_some nc)).trans nc
  have hf1 : Fls wd (.slice (some ⟨wb.heap.size, 0, none⟩) 2 2) [([97], [120]), ([98], [121])] [.slice (some ⟨w.heap.size, 0, none⟩) 1 1, .slice (some ⟨wa.heap.size, 0, none⟩) 1 1] := fls2 nc3 (byt_block (r := [120]) na3 rfl rfl (Nat.le_refl _)) (byt_block (r := [121]) nb3 rfl rfl (Nat.le_refl _))
  have hcap : ∀ (a1 a2 : Option Addr) (k1 k2 : Nat), k1 ≤ 100 → k2 ≤ 100 → ∀ u ∈ [Value.slice a1 k1 k1, Value.slice a2 k2 k2], ∀ a n c, u = .slice a n c → c ≤ 9223372036854775807 := fun a1 a2 k1 k2 h1 h2 u hu a n c e => by
    rcases List.mem_cons.1 hu with rfl | hu
    · cases e; omega
    · rw [List.mem_singleton.1 hu] at e; cases e; omega
  have two : ∀ {P : Fl → Prop} (x y : Fl), P x → P y → ∀ z ∈ [x, y], P z := fun x y hx hy z hz => by
    rcases List.mem_cons.1 hz with rfl | hz
    · exact hx
    · rw [List.mem_singleton.1 hz]; exact hy
  have ck1 := cook_a (H := fun x => x) (s := sCat) (by decide) hdec hf1 (by decide) (two_names (by decide) (by decide)) (by decide) (two (P := fun x => x.1.length ≤ 1000000) _ _ (by decide) (by decide)) (two (P := fun x => x.2.length ≤ 1000000) _ _ (by decide) (by decide)) (hcap _ _ _ _ (by decide) (by decide)) (fun o ho => SumC.not (by rw [read_cat] at ho; cases ho; decide))
  rw [eval_cat] at ck1
  have ct1 : Calls Tryz.prog 13 #[.string ⟨#[99, 97, 116, 32, 97, 32, 98, 32, 62, 32, 111]⟩, .slice (some ⟨wc.heap.size, 0, none⟩) 2 2, .slice (some ⟨wb.heap.size, 0, none⟩) 2 2] wd fun e w' => ∃ g c bv, e = .returned (.tuple #[.agg #[.slice (some ⟨g, 0, none⟩) 1 c, .bool false, .string ⟨#[]⟩, .string ⟨#[]⟩], .int .i64 0]) ∧ wd.heap.size ≤ g ∧ (∃ cur, w'.heap[g]? = some (.cells cur 52 (0, 0))) ∧ w'.cell? ⟨g, 1, none⟩ = some bv ∧ OB w' bv [120, 121] ∧ Below wd.heap.size wd w' := ck1.mono fun e w' h => by
    obtain ⟨g, c, bv, i1, i2, i3, -, i4, i5, i6⟩ := h.one (x := [111]) rfl
    exact ⟨g, c, bv, i1, i2, i3, i4, i5, i6⟩
  have HBD : Hid (Below w.heap.size w wd) := Lib.hid (((ba.trans (bb.mono ba.size)).trans (bc.mono (Nat.le_trans ba.size bb.size))).trans (bd.mono (Nat.le_trans ba.size (Nat.le_trans bb.size bc.size))))
  have HNA := Lib.hid na3
  have HNB := Lib.hid nb3
  have HNC := Lib.hid nc3
  have HCAP := Lib.hid hcap
  have HSZ : Hid (w.heap.size < wa.heap.size ∧ wa.heap.size < wb.heap.size ∧ wb.heap.size < wc.heap.size ∧ wc.heap.size < wd.heap.size) := Lib.hid ⟨lt_some na, lt_some nb, lt_some nc, lt_some nd⟩
  clear ba bb bc bd na nb nc nd na2 na3 nb2 nb3 nc3 hdec hf1 ck1 hcap
  go_enter Tryz.func12, Tryz.ntmps12
  go_wp2_with fail
  refine ct1.mono ?_
  rintro e w5 ⟨g1, c1, bv1, rfl, hg1, ⟨cur1, hcur1⟩, hb1c, hob1, hb5⟩
  clear ct1 hwa hwb hwc hwd
  go_upto_region 3 with fail
  obtain ⟨w6, hw6⟩ : ∃ W, w5.alloc (.cells #[.slice (some ⟨g1, 0, none⟩) 1 c1, .bool false, .string ⟨#[]⟩, .string ⟨#[]⟩] 36) = W := ⟨_, rfl⟩
  obtain ⟨w7, hw7⟩ : ∃ W, w6.alloc (.cells #[.int .u8 35, .int .u8 105, .int .u8 110, .int .u8 99, .int .u8 108, .int .u8 117, .int .u8 100, .int .u8 101, .int .u8 32, .int .u8 98] 5 (10, 11)) = W := ⟨_, rfl⟩
  obtain ⟨w8, hw8⟩ : ∃ W, w7.setCell ⟨wb.heap.size, 1, none⟩ (.slice (some ⟨w6.heap.size, 0, none⟩) 10 10) = W := ⟨_, rfl⟩
  obtain ⟨w9, hw9⟩ : ∃ W, w8.alloc (.cells #[.string ⟨#[97]⟩] 9) = W := ⟨_, rfl⟩
  rw [hw6]
  have b6 : Below w5.heap.size w5 w6 := by rw [← hw6]; exact below_alloc _ _
  have b7 : Below w6.heap.size w6 w7 := by rw [← hw7]; exact below_alloc _ _
  have b9 : Below w8.heap.size w8 w9 := by rw [← hw9]; exact below_alloc _ _
  have n6 : w6.heap[w5.heap.size]? = some (.cells #[.slice (some ⟨g1, 0, none⟩) 1 c1, .bool false, .string ⟨#[]⟩, .string ⟨#[]⟩] 36 (0, 0)) := by rw [← hw6]; exact heap_alloc_new _ _
  have n7 : w7.heap[w6.heap.size]? = some (.cells #[.int .u8 35, .int .u8 105, .int .u8 110, .int .u8 99, .int .u8 108, .int .u8 117, .int .u8 100, .int .u8 101, .int .u8 32, .int .u8 98] 5 (10, 11)) := by rw [← hw7]; exact heap_alloc_new _ _
  have n9 : w9.heap[w8.heap.size]? = some (.cells #[.string ⟨#[97]⟩] 9 (0, 0)) := by rw [← hw9]; exact heap_alloc_new _ _
  have b57 : Below w5.heap.size w5 w7 := b6.trans (b7.mono b6.size)
  have bD7 : Below wd.heap.size wd w7 := hb5.trans (b57.mono hb5.size)
  have nc7 := (bD7.block _ (lt_some HNC.out)).trans HNC.out
  have x1 : w7.cell? ⟨wb.heap.size, 1, none⟩ = some (.slice (some ⟨w.heap.size, 0, none⟩) 1 1) := cell_of_heap nc7
  have z1 : w7.frozen? ⟨wb.heap.size, 1, none⟩ = false := by simp [World.frozen?, nc7]
  have o8 : ∀ q, q ≠ wb.heap.size → w8.heap[q]? = w7.heap[q]? := fun q h => by rw [← hw8]; exact set_other h
  have s8 : w8.heap.size = w7.heap.size := by rw [← hw8]; exact World.size_setCell _ _ _
  have o9 : ∀ q, q < w7.heap.size → q ≠ wb.heap.size → w9.heap[q]? = w7.heap[q]? := fun q hq hne => (b9.block q (by omega)).trans (o8 q hne)
  have nc8 : w8.heap[wb.heap.size]? = some (.cells #[.string (mk [97]), .slice (some ⟨w6.heap.size, 0, none⟩) 10 10, .string (mk [98]), .slice (some ⟨wa.heap.size, 0, none⟩) 1 1] 52 (0, 0)) := by rw [← hw8]; exact set_block (j := 1) nc7
  have nc9 := (b9.block _ (lt_some nc8)).trans nc8
  have hsz := HSZ.out
  have l57 := b57.size
  have l67 := b7.size
  have l56 := b6.size
  have ld5 := hb5.size
  have nb7 := (bD7.block _ (lt_some HNB.out)).trans HNB.out
  have nb9 := (o9 _ (lt_some nb7) (by omega)).trans nb7
  have n79 := (o9 _ (lt_some n7) (by omega)).trans n7
  have n69 := (o9 _ (lt_some ((b7.block _ (lt_some n6)).trans n6)) (by omega)).trans ((b7.block _ (lt_some n6)).trans n6)
  have hg17 := (b57.block _ (lt_some hcur1)).trans hcur1
  have hg19 := (o9 _ (lt_some hg17) (by omega)).trans hg17
  have hc19 : w9.cell? ⟨g1, 1, none⟩ = some bv1 := (cell_of_block (o9 _ (lt_some hg17) (by omega))).trans ((cell_of_block (b57.block _ (lt_some hcur1))).trans hb1c)
  have hob19 : OB w9 bv1 [120, 121] := (hob1.below b57).kept fun g cur hc => o9 g (lt_some hc) (fun e => by
    rw [e, nc7] at hc
    injection hc with hc
    injection hc with _ hc
    exact absurd hc (by decide))
  have hdec2 : Strs w9 (.slice (some ⟨w8.heap.size, 0, none⟩) 1 1) [[97]] := ⟨_, 1, rfl, Nat.le_refl _, .inr ⟨w8.heap.size, 0, rfl, lt_some n9, fun j p hp => by
    match j, hp with
    | 0, hp => cases hp; exact cell_of_heap n9⟩⟩
  have hf2 : Fls w9 (.slice (some ⟨wb.heap.size, 0, none⟩) 2 2) [([97], [35, 105, 110, 99, 108, 117, 100, 101, 32, 98]), ([98], [121])] [.slice (some ⟨w6.heap.size, 0, none⟩) 10 10, .slice (some ⟨wa.heap.size, 0, none⟩) 1 1] := fls2 nc9 (byt_block (r := [35, 105, 110, 99, 108, 117, 100, 101, 32, 98]) n79 rfl rfl (Nat.le_refl _)) (byt_block (r := [121]) nb9 rfl rfl (Nat.le_refl _))
  have ck2 := cook_a (H := fun x => x) (s := sInc) (by decide) hdec2 hf2 (by decide) (fun z hz => by rw [List.mem_singleton.1 hz]; decide) (by decide) (two (P := fun x => x.1.length ≤ 1000000) _ _ (by decide) (by decide)) (two (P := fun x => x.2.length ≤ 1000000) _ _ (by decide) (by decide)) (HCAP.out _ _ _ _ (by decide) (by decide)) (fun o ho => SumC.not (by rw [read_inc] at ho; cases ho; decide))
  rw [eval_inc] at ck2
  have ct2 : Calls Tryz.prog 13 #[.string ⟨#[105, 110, 99, 32, 97, 32, 62, 32, 111, 32, 58, 32, 100]⟩, .slice (some ⟨w8.heap.size, 0, none⟩) 1 1, .slice (some ⟨wb.heap.size, 0, none⟩) 2 2] w9 fun e w' => ∃ g c bv, e = .returned (.tuple #[.agg #[.slice (some ⟨g, 0, none⟩) 1 c, .bool false, .string ⟨#[100]⟩, .string ⟨#[111, 58, 32, 98, 10]⟩], .int .i64 0]) ∧ w9.heap.size ≤ g ∧ (∃ cur, w'.heap[g]? = some (.cells cur 52 (0, 0))) ∧ w'.cell? ⟨g, 1, none⟩ = some bv ∧ OB w' bv [121] ∧ Below w9.heap.size w9 w' := ck2.mono fun e w' h => by
    obtain ⟨g, c, bv, i1, i2, i3, -, i4, i5, i6⟩ := h.one (x := [111]) rfl
    rw [eval_deps] at i1
    exact ⟨g, c, bv, i1, i2, i3, i4, i5, i6⟩
  have HB9 : Hid (Below w.heap.size w w9) := Lib.hid (by
    have h1 := HBD.out.trans (bD7.mono HBD.out.size)
    refine ⟨b9.os.trans (by rw [← hw8]; exact h1.os), b9.tape.trans (by rw [← hw8]; exact h1.tape), b9.output.trans (by rw [← hw8]; exact h1.output), Nat.le_trans h1.size (by have := b9.size; omega), fun q hq => (o9 q (by have := h1.size; omega) (by omega)).trans (h1.block q hq)⟩)
  have H69 := Lib.hid n69
  have H19 := Lib.hid hg19
  have HC19 := Lib.hid hc19
  have HO19 := Lib.hid hob19
  clear hw6 b6 b7 b9 n6 n7 n9 b57 bD7 nc7 o8 s8 o9 nc8 nc9 hsz l57 l67 l56 ld5 nb7 nb9 n79 n69 hg17 hg19 hc19 hob19 hdec2 hf2 ck2 hcur1 hb1c hob1 hb5 HNA HNB HNC HCAP HSZ hg1
  go_wp2_with fail
  refine ct2.mono ?_
  rintro e w10 ⟨g2, c2, bv2, rfl, hg2, ⟨cur2, hcur2⟩, hb2c, hob2, hb10⟩
  clear ct2 hw7 hw8 hw9 x1 z1
  go_upto_region 5 with fail
  obtain ⟨w11, hw11⟩ : ∃ W, w10.alloc (.cells #[.slice (some ⟨g2, 0, none⟩) 1 c2, .bool false, .string ⟨#[100]⟩, .string ⟨#[111, 58, 32, 98, 10]⟩] 36) = W := ⟨_, rfl⟩
  rw [hw11]
  have b11 : Below w10.heap.size w10 w11 := by rw [← hw11]; exact below_alloc _ _
  have n11 : w11.heap[w10.heap.size]? = some (.cells #[.slice (some ⟨g2, 0, none⟩) 1 c2, .bool false, .string ⟨#[100]⟩, .string ⟨#[111, 58, 32, 98, 10]⟩] 36 (0, 0)) := by rw [← hw11]; exact heap_alloc_new _ _
  have b911 : Below w9.heap.size w9 w11 := hb10.trans (b11.mono hb10.size)
  have n611 := (b911.block _ (lt_some H69.out)).trans H69.out
  have e1 : w11.cell? ⟨w5.heap.size, 0, none⟩ = some (.slice (some ⟨g1, 0, none⟩) 1 c1) := cell_of_heap n611
  have e2 : w11.cell? ⟨g1, 1, none⟩ = some bv1 := (cell_of_block (b911.block _ (lt_some H19.out))).trans HC19.out
  have e3 : w11.cell? ⟨w10.heap.size, 0, none⟩ = some (.slice (some ⟨g2, 0, none⟩) 1 c2) := cell_of_heap n11
  have e4 : w11.cell? ⟨w10.heap.size, 2, none⟩ = some (.string ⟨#[100]⟩) := cell_of_heap n11
  have e5 : w11.cell? ⟨w10.heap.size, 3, none⟩ = some (.string ⟨#[111, 58, 32, 98, 10]⟩) := cell_of_heap n11
  have e6 : w11.cell? ⟨g2, 1, none⟩ = some bv2 := (cell_of_block (b11.block _ (lt_some hcur2))).trans hb2c
  obtain ⟨bs1, ho1⟩ := HO19.out.below b911
  obtain ⟨bs2, ho2⟩ := hob2.below b11
  obtain ⟨a1, k1, rfl⟩ := own_slice ho1
  obtain ⟨a2, k2, rfl⟩ := own_slice ho2
  have v1 : (convert 24 9 (.slice a1 2 k1)).run Tryz.prog w11 = .ok (.string ⟨#[120, 121]⟩) w11 := conv_byt (owns_byt ho1)
  have v2 : (convert 24 9 (.slice a2 1 k2)).run Tryz.prog w11 = .ok (.string ⟨#[121]⟩) w11 := conv_byt (owns_byt ho2)
  have HB11 := Lib.hid (HB9.out.trans (b911.mono HB9.out.size))
  clear hw11 b11 n11 b911 n611 ho1 ho2 hob2 hb10 hcur2 hb2c H69 H19 HC19 HO19
  go_wp2_with fail
  go_ret
  exact ⟨rfl, HB11.out⟩
end Go.Proofs.YtgledabcfonbeaaGreatDoor.Df
