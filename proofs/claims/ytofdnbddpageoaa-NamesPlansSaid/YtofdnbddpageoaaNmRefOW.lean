/-
  .. WALKED.
-/
import Derived.Test.YtofdnbddpageoaaNmRefO
import Derived.Test.YtofdnbddpageoaaRgHold
namespace Go.Proofs.Ytofdnbddpageoaa.Nm
open Go.RowKit Go.Maps

theorem refT_2 (N : List ByteArray) (L : List Dp) (t : List Nat) : refT N L (2 :: t) = if fitsO ⟨N, []⟩ t = true then some (N, putL L ⟨nameAt N (oOut t), (oTime t : Int), (nums (oMany t) (oRest t)).map (nameAt N)⟩) else Option.none := by
  simp [refT]

theorem fits_parts {N : List ByteArray} {t : List Nat} (h : fitsO ⟨N, []⟩ t = true) : oBad t = false ∧ oTime t < 4611686018427387904 ∧ oMany t * 4 = (oRest t).length ∧ oOut t < N.length ∧ ∀ x ∈ nums (oMany t) (oRest t), x < N.length := by
  unfold fitsO at h
  simp only [Bool.and_eq_true, decide_eq_true_eq, List.all_eq_true, Bool.not_eq_true'] at h
  obtain ⟨⟨⟨⟨h1, h2⟩, h3⟩, h4⟩, h5⟩ := h
  exact ⟨h1, h2, h3, h4, h5⟩
theorem fits_of {N : List ByteArray} {t : List Nat} (h1 : oBad t = false) (h2 : oTime t < 4611686018427387904) (h3 : oMany t * 4 = (oRest t).length) (h4 : oOut t < N.length) (h5 : ∀ x ∈ nums (oMany t) (oRest t), x < N.length) : fitsO ⟨N, []⟩ t = true := by
  unfold fitsO
  simp only [Bool.and_eq_true, decide_eq_true_eq, List.all_eq_true, Bool.not_eq_true']
  exact ⟨⟨⟨⟨h1, h2⟩, h3⟩, h4⟩, h5⟩

set_option maxRecDepth 100000 in
set_option maxHeartbeats 8000000 in
theorem refOut_c {S : Nat → Prop} {w : World} {p : Nat} {N : List ByteArray} {L : List Dp} {vN vL : Value} {G : List Gd} {a : Option Addr} {n c : Nat} {t : List Nat} (h : Rb S w p N L vN vL G) (hSw : ∀ k, S k → k < w.heap.size) (hrow : Pk.Row w a (2 :: t)) (hn : Hid (n = (2 :: t).length)) (hc : n ≤ c) (hl : (2 :: t).length ≤ 300000) (hb : ∀ x ∈ t, x < 256) (hN : N.length ≤ 100000) (hL : L.length < 900000) :
    Calls Try.prog 11 #[.pointer (some ⟨p, 0, Option.none⟩), .slice a n c] w (RtQ S w p N L (refT N L (2 :: t))) := by
  obtain ⟨an, cn, rfl⟩ := own_slice h.names
  obtain ⟨b, off, rfl, hbl, hcell, htail⟩ := row_tail hrow
  obtain ⟨m, rfl⟩ : ∃ m, n = m + 1 := ⟨t.length, hn.out⟩
  have hbox1 : (w.alloc (.cells #[.slice (some ⟨b, off, Option.none⟩) (m + 1) c, .int .i64 1, .bool false] 72)).heap[w.heap.size]? = _ := heap_alloc_new _ _
  have hB1 := Pk.below_alloc w (.cells #[.slice (some ⟨b, off, Option.none⟩) (m + 1) c, .int .i64 1, .bool false] 72)
  have hrf : Pk.Rf (w.alloc (.cells #[.slice (some ⟨b, off, Option.none⟩) (m + 1) c, .int .i64 1, .bool false] 72)) w.heap.size b t false := by
    refine ⟨by omega, by rw [World.size_alloc]; omega, _, m + 1, c, 1, 2 :: t, hbox1, hn.out, by omega, by rw [hn.out]; omega, hc, (fun e => by cases e), (fun _ => rfl), .inr ⟨off, rfl, fun i hi => ?_⟩⟩
    rcases hrow with h0 | ⟨b', off', e, _, hc'⟩
    · cases h0
    · cases e
      exact (cell_of_block (hB1.block b hbl)).trans (hc' i hi)
  have hT := Pk.number_any w.heap.size b t false 4 _ hrf (fun e => by cases e) (by omega) (by omega) hb
  have hb4 := Pk.rdL_lt 4 hb
  have hb8 := Pk.rdL_lt 8 hb4
  have HBD1 := Lib.hid (Pk.rdB_bad (m := 4) (l := t) (bad := false) (fun e => by cases e))
  have HBD2 := Lib.hid (Pk.rdB_bad (m := 8) HBD1.out)
  have HB4 := Lib.hid hb4
  have HB8 := Lib.hid hb8
  have HBR : Hid (∀ x ∈ oRest t, x < 256) := Lib.hid (Pk.rdL_lt 4 hb8)
  have hM : oMany t < 4294967296 := by have := Pk.rdN_lt 4 hb8; unfold oMany; omega
  have hrl : (oRest t).length ≤ 300000 := by
    have h1 := Pk.rdL_le 4 (Pk.rdL 8 (Pk.rdL 4 t))
    have h2 := Pk.rdL_le 8 (Pk.rdL 4 t)
    have h3 := Pk.rdL_le 4 t
    have h4 : t.length ≤ 300000 := by simp at hl; omega
    unfold oRest
    omega
  have HS : Hid (∀ W, Below w.heap.size w W → Rb S W p N L (.slice an N.length cn) vL G) := Lib.hid fun W hb => h.below hb
  have HR0 := Lib.hid (refT_2 N L t)
  have HB1 := Lib.hid hB1
  have HSW := Lib.hid hSw
  have HH := Lib.hid h
  have HRL := Lib.hid hrl
  have HBL := Lib.hid hbl
  have z1 : (0 : Int) < (m : Int) + 1 := by omega
  have z2 : ¬ ((m : Int) + 1 = 0) := by omega
  have zw : IntKind.u64.wrap ((N.length : Nat) : Int) = ((N.length : Nat) : Int) := by rw [IntKind.wrap_u64]; omega
  clear h hSw hrow hn hc hl hb htail hbox1 hrf hB1 hb4 hb8 hrl
  go_enter Try.func11, Try.ntmps11
  go_wp2_with fail
  refine hT.mono ?_
  rintro e w1 ⟨he, hr1, ho1⟩
  have he : e = .returned (.int .u64 ((oOut t : Nat) : Int)) := he
  subst he
  have hT2 := Pk.number_any w.heap.size b _ _ 8 _ hr1 HBD1.out (by omega) (by omega) HB4.out
  go_wp2_with fail
  refine hT2.mono ?_
  rintro e w2 ⟨he, hr2, ho2⟩
  have he : e = .returned (.int .u64 ((oTime t : Nat) : Int)) := he
  subst he
  have hT3 := Pk.number_any w.heap.size b _ _ 4 _ hr2 HBD2.out (by omega) (by omega) HB8.out
  go_wp2_with fail
  refine hT3.mono ?_
  rintro e w3 ⟨he, hr3, ho3⟩
  have he : e = .returned (.int .u64 ((oMany t : Nat) : Int)) := he
  subst he
  have hr3 : Pk.Rf w3 w.heap.size b (oRest t) (oBad t) := hr3
  have hB3 : Below w.heap.size w w3 := HB1.out.trans (((ho1.trans ho2).trans ho3).below (Nat.le_refl _) (by rw [World.size_alloc]; omega))
  have HB3 := Lib.hid hB3
  obtain ⟨hne, hlt, ra, rn, rc, rat, rB, hq, hrest⟩ := hr3
  obtain ⟨-, -, q2, -, -, -⟩ := Pk.cell_three hq
  have HR3 := Lib.hid (show Pk.Rf w3 w.heap.size b (oRest t) (oBad t) from ⟨hne, hlt, ra, rn, rc, rat, rB, hq, hrest⟩)
  obtain ⟨c0, -, -, -⟩ := (HS.out _ hB3).cells
  clear hT hT2 hT3 hB3 ho1 ho2 ho3 hr1 hr2 hne hlt hq hrest hcell hbl
  cases hbad : oBad t with
  | true =>
    rw [hbad] at q2
    have HR : Hid (refT N L (2 :: t) = Option.none) := Lib.hid (by rw [HR0.out, if_neg (fun hf => by have := (fits_parts hf).1; rw [hbad] at this; cases this)])
    clear hbad
    go_wp2_with fail
    go_ret
    exact rt_none HH.out HB3.out HR.out
  | false =>
  rw [hbad] at q2
  have HBAD := Lib.hid hbad
  clear hbad
  by_cases h1 : oOut t < N.length
  rotate_left 1
  · have HR : Hid (refT N L (2 :: t) = Option.none) := Lib.hid (by rw [HR0.out, if_neg (fun hf => h1 (fits_parts hf).2.2.2.1)])
    have g1 : ((N.length : Nat) : Int) ≤ ((oOut t : Nat) : Int) := by omega
    clear h1
    go_wp2_with fail
    go_ret
    exact rt_none HH.out HB3.out HR.out
  have g1 : decide (((N.length : Nat) : Int) ≤ ((oOut t : Nat) : Int)) = false := decide_eq_false (by omega)
  by_cases h2 : oTime t < 4611686018427387904
  rotate_left 1
  · have HR : Hid (refT N L (2 :: t) = Option.none) := Lib.hid (by rw [HR0.out, if_neg (fun hf => h2 (fits_parts hf).2.1)])
    have g2 : (4611686018427387904 : Int) ≤ ((oTime t : Nat) : Int) := by omega
    clear h2
    go_wp2_with fail
    go_ret
    exact rt_none HH.out HB3.out HR.out
  have g2 : decide ((4611686018427387904 : Int) ≤ ((oTime t : Nat) : Int)) = false := decide_eq_false (by omega)
  have hleft := Pk.refleft_any w.heap.size b _ _ w3 HR3.out
  have wt : IntKind.i64.wrap ((oTime t : Nat) : Int) = ((oTime t : Nat) : Int) := IntWalk.i64_in _ (by omega)
  have wm : IntKind.u64.wrap (4 * ((oMany t : Nat) : Int)) = 4 * ((oMany t : Nat) : Int) := by rw [IntKind.wrap_u64]; omega
  have wl : IntKind.u64.wrap (((oRest t).length : Nat) : Int) = (((oRest t).length : Nat) : Int) := by have := HRL.out; rw [IntKind.wrap_u64]; omega
  have H1 := Lib.hid h1
  have H2 := Lib.hid h2
  clear h2
  go_wp2_with fail
  refine hleft.mono ?_
  rintro e w4 ⟨rfl, kd, rfl⟩
  have HB4' := Lib.hid (below_drawn HB3.out kd)
  have HR4 := Lib.hid (HR3.out.drewN kd)
  generalize w3.drewN kd = w4 at *
  clear hleft q2 c0 HR3 HB3
  obtain ⟨c0, -, -, -⟩ := (HS.out _ HB4'.out).cells
  by_cases h3 : oMany t * 4 = (oRest t).length
  rotate_left 1
  · have HR : Hid (refT N L (2 :: t) = Option.none) := Lib.hid (by rw [HR0.out, if_neg (fun hf => h3 (fits_parts hf).2.2.1)])
    have g3 : ((((oRest t).length : Nat) : Int) != 4 * ((oMany t : Nat) : Int)) = true := by
      rw [bne_iff_ne]
      omega
    have g4 : ¬ ((((oRest t).length : Nat) : Int) = 4 * ((oMany t : Nat) : Int)) := by omega
    clear h3
    go_wp2_with fail
    go_ret
    exact rt_none HH.out HB4'.out HR.out
  have g3 : (((oRest t).length : Nat) : Int) = 4 * ((oMany t : Nat) : Int) := by omega
  have H3 := Lib.hid h3
  obtain ⟨bN, rfl, hNc⟩ : ∃ bN, an = some ⟨bN, 0, Option.none⟩ ∧ ∀ W, Below w.heap.size w W → ∀ j s, N[j]? = some s → W.cell? ⟨bN, j, Option.none⟩ = some (.string s) := by
    rcases own_at HH.out.names with ⟨e, h9⟩ | ⟨bN, cap, e, -, hlN, -, hcN⟩
    · have := H1.out
      omega
    · obtain ⟨rfl, -, -⟩ := Value.slice.inj e
      exact ⟨bN, rfl, fun W hb j s hj => (cell_of_block (hb.block bN hlN)).trans (hcN _ _ (by simp [strV, hj]))⟩
  have HNC := Lib.hid hNc
  have hnm : N[oOut t]? = some (nameAt N (oOut t)) := by
    unfold nameAt
    rw [List.getD_eq_getElem?_getD, List.getElem?_eq_getElem H1.out]
    rfl
  have x0 := hNc _ HB4'.out _ _ hnm
  have o1 : ((oOut t : Nat) : Int) < ((N.length : Nat) : Int) := by have := H1.out; omega
  have o0 : (0 : Int) ≤ ((oOut t : Nat) : Int) := by omega
  clear h3 hNc hnm wl
  go_wp2_with fail
  have hD0 : RtL w (w4.alloc (.cells #[.string (nameAt N (oOut t)), .int .i64 ((oTime t : Nat) : Int), .slice Option.none 0 0] 42)) w.heap.size w4.heap.size b (nameAt N (oOut t)) ((oTime t : Nat) : Int) ((oRest t).drop (4 * 0)) [] Option.none 0 := {
    rd := by
      have h4 := HR4.out
      rw [HBAD.out] at h4
      have hA := Pk.below_alloc w4 (.cells #[.string (nameAt N (oOut t)), .int .i64 ((oTime t : Nat) : Int), .slice Option.none 0 0] 42)
      obtain ⟨C, hq⟩ : ∃ C, w4.heap[w.heap.size]? = some C := by
        obtain ⟨_, _, a, n, c, at', B, hq, _⟩ := h4
        exact ⟨_, hq⟩
      exact Rf.keep2 h4 (hA.block _ (lt_some hq)) (hA.block _ h4.lt) hA.size
    qw := Nat.le_refl _
    bw := HBL.out
    box := heap_alloc_new _ _
    dw := HB4'.out.size
    own := World.ownsRow_nil _ _ _ _
    bel := HB4'.out.alloc HB4'.out.size _ }
  have D0 := Lib.hid hD0
  have D1 : Hid ([] = ((nums (oMany t) (oRest t)).take 0).map (nameAt N)) := Lib.hid rfl
  have D2 : Hid (∀ x ∈ (nums (oMany t) (oRest t)).take 0, x < N.length) := Lib.hid (by simp)
  obtain ⟨qd, hqd⟩ : ∃ qd, w4.heap.size = qd := ⟨_, rfl⟩
  obtain ⟨nm, hnm⟩ : ∃ nm, nameAt N (oOut t) = nm := ⟨_, rfl⟩
  generalize hw5 : w4.alloc (.cells #[.string (nameAt N (oOut t)), .int .i64 ((oTime t : Nat) : Int), .slice Option.none 0 0] 42) = w5 at *
  rw [hqd, hnm] at D0 ⊢
  rw [hnm] at HR0
  clear hD0 hqd hnm hw5 x0 c0 o0 o1
  have dN : decide (N.length ≤ oOut t) = false := decide_eq_false (by have := H1.out; omega)
  rw [dN]
  clear dN
  go_loopw [11, 12] (fun i _ wr => ∃ (j : Nat) (D : List ByteArray) (da : Option Addr) (dc : Nat), j ≤ oMany t ∧ i = .int .u64 j ∧ Hid (RtL w wr w.heap.size qd b nm ((oTime t : Nat) : Int) ((oRest t).drop (4 * j)) D da dc) ∧ Hid (D = ((nums (oMany t) (oRest t)).take j).map (nameAt N)) ∧ Hid (∀ x ∈ (nums (oMany t) (oRest t)).take j, x < N.length)) (fun i _ _ => oMany t - (intOf i).toNat)
  case atStart => exact ⟨0, [], Option.none, 0, Nat.zero_le _, rfl, D0, D1, D2⟩
  case round =>
    obtain ⟨j, D, da, dc, hj, rfl, hK, hD, hF⟩ := hrel
    clear D0 D1 D2
    by_cases hlt : j < oMany t
    · have hnum := Pk.number_any w.heap.size b _ false 4 wr hK.out.rd (fun e => by cases e) (by omega) (by omega) (fun x hx => HBR.out x (List.mem_of_mem_drop hx))
      have hlen : 4 ≤ ((oRest t).drop (4 * j)).length := by
        rw [List.length_drop]
        have := H3.out
        omega
      have e1 : Pk.rdN 4 ((oRest t).drop (4 * j)) = Pk.num (((oRest t).drop (4 * j)).take 4) := by unfold Pk.rdN; rw [if_pos hlen]
      have e2 : Pk.rdL 4 ((oRest t).drop (4 * j)) = (oRest t).drop (4 * (j + 1)) := by unfold Pk.rdL; rw [if_pos hlen, List.drop_drop]; congr 1
      have e3 : Pk.rdB 4 ((oRest t).drop (4 * j)) false = false := by unfold Pk.rdB; rw [if_pos hlen]
      rw [e1, e2, e3] at hnum
      have hnj := nums_get (oRest t) hlt
      generalize Pk.num (((oRest t).drop (4 * j)).take 4) = x at *
      have HX := Lib.hid hnj
      have hi1 : ((j : Nat) : Int) < ((oMany t : Nat) : Int) := by omega
      have wj : IntKind.u64.wrap (((j : Nat) : Int) + 1) = ((j : Nat) : Int) + 1 := by rw [IntKind.wrap_u64]; omega
      have htk : (nums (oMany t) (oRest t)).take (j + 1) = (nums (oMany t) (oRest t)).take j ++ [x] := by rw [List.take_add_one, hnj]; rfl
      have HTK := Lib.hid htk
      clear hlen e1 e2 e3 hnj htk
      go_wp2_with fail
      refine hnum.mono ?_
      rintro e w6 ⟨rfl, hr6, ho6⟩
      have hK6 := Lib.hid (hK.out.only ho6 hr6)
      clear hnum hr6 ho6
      obtain ⟨c0, -, -, -⟩ := (HS.out _ hK6.out.bel).cells
      by_cases hxN : x < N.length
      rotate_left 1
      · have HR : Hid (refT N L (2 :: t) = Option.none) := Lib.hid (by rw [HR0.out, if_neg (fun hf => hxN ((fits_parts hf).2.2.2.2 x (List.mem_of_getElem? HX.out)))])
        have hxn : N.length ≤ x := by omega
        clear hxN
        go_wp2_with fail
        go_ret
        exact rt_none HH.out hK6.out.bel HR.out
      have hxn : ¬ N.length ≤ x := by omega
      have hNx : N[x]? = some (nameAt N x) := by
        unfold nameAt
        rw [List.getD_eq_getElem?_getD, List.getElem?_eq_getElem hxN]
        rfl
      have XS : Hid (∀ W, Below w.heap.size w W → (W.cell? ⟨p, 0, Option.none⟩ = some (.slice (some ⟨bN, 0, Option.none⟩) N.length cn) ∧ W.cell? ⟨bN, x, Option.none⟩ = some (.string (nameAt N x)))) := Lib.hid fun W hb => ⟨(HS.out W hb).cells.1, HNC.out W hb _ _ hNx⟩
      have HD' : Hid (D ++ [nameAt N x] = ((nums (oMany t) (oRest t)).take (j + 1)).map (nameAt N)) := Lib.hid (by rw [HTK.out, List.map_append, ← hD.out]; rfl)
      have HF' : Hid (∀ y ∈ (nums (oMany t) (oRest t)).take (j + 1), y < N.length) := Lib.hid (fun y hy => by
        rw [HTK.out] at hy
        rcases List.mem_append.1 hy with hy | hy
        · exact hF.out y hy
        · rw [List.mem_singleton.1 hy]; exact hxN)
      have hDl : D.length ≤ 100000 := by
        have h9 := hj
        have := H3.out
        have := HRL.out
        rw [hD.out, List.length_map, List.length_take, nums_length]
        omega
      generalize nameAt N x = s at *
      have hKd := hK6.out.drawn 1
      obtain ⟨a9, c9, w9, hr9, ho9, hg9, -⟩ := str_app (w := w6.drewN 1) (s := s) (ty := 27) hKd.own hKd.bel.size hDl
      obtain ⟨hK9, b9, bel9⟩ := hKd.app ho9 hg9
      have e9 : (D ++ [s]).length = D.length + 1 := by simp
      rw [e9] at hr9 hK9
      have hr9 : (Builtin.append_ #[27, 27] 27 #[.slice da D.length dc, .slice (some ⟨w6.heap.size, 0, Option.none⟩) 1 1]).run Try.prog (w6.alloc (.cells #[.string s] 9)).drew = .ok (.slice a9 (D.length + 1) c9) w9 := hr9
      have HR9 := Lib.hid hr9
      have HK9 := Lib.hid hK9
      have K0 : Hid (Below w.heap.size w w6.drew) := Lib.hid hKd.bel
      have hA : Below w.heap.size w (w6.alloc (.cells #[.string s] 9)).drew := (hKd.below (Pk.below_alloc _ (.cells #[.string s] 9))).bel
      have KA := Lib.hid hA
      have K9 := Lib.hid bel9
      have k2 : w6.cell? ⟨qd, 2, Option.none⟩ = some (.slice da D.length dc) := (thr_cells hK6.out.box).1.2.2
      have k2d : w6.drew.cell? ⟨qd, 2, Option.none⟩ = some (.slice da D.length dc) := k2
      have k2a : (w6.alloc (.cells #[.string s] 9)).drew.cell? ⟨qd, 2, Option.none⟩ = some (.slice da D.length dc) := (cell_of_block (Below.heap_alloc w6 _ _ (lt_some hK6.out.box))).trans k2
      have s2 : w9.cell? ⟨qd, 2, Option.none⟩ = some (.slice da D.length dc) := (thr_cells b9).1.2.2
      have f2 : w9.frozen? ⟨qd, 2, Option.none⟩ = false := by simp [World.frozen?, b9]
      have x0 := (XS.out _ hK6.out.bel).2
      have n0 : (0 : Int) ≤ ((x : Nat) : Int) := by omega
      have n1 : ((x : Nat) : Int) < ((N.length : Nat) : Int) := by omega
      clear hKd hr9 ho9 hg9 hK9 b9 bel9 e9 hA hNx
      have SD : Hid (w6.drew.cell? ⟨p, 0, Option.none⟩ = some (.slice (some ⟨bN, 0, Option.none⟩) N.length cn) ∧ w6.drew.cell? ⟨bN, x, Option.none⟩ = some (.string s) ∧ w6.drew.cell? ⟨qd, 2, Option.none⟩ = some (.slice da D.length dc)) := Lib.hid ⟨(XS.out _ K0.out).1, (XS.out _ K0.out).2, k2d⟩
      have SA : Hid ((w6.alloc (.cells #[.string s] 9)).drew.cell? ⟨p, 0, Option.none⟩ = some (.slice (some ⟨bN, 0, Option.none⟩) N.length cn) ∧ (w6.alloc (.cells #[.string s] 9)).drew.cell? ⟨bN, x, Option.none⟩ = some (.string s) ∧ (w6.alloc (.cells #[.string s] 9)).drew.cell? ⟨qd, 2, Option.none⟩ = some (.slice da D.length dc)) := Lib.hid ⟨(XS.out _ KA.out).1, (XS.out _ KA.out).2, k2a⟩
      have S9 : Hid (w9.cell? ⟨p, 0, Option.none⟩ = some (.slice (some ⟨bN, 0, Option.none⟩) N.length cn) ∧ w9.cell? ⟨bN, x, Option.none⟩ = some (.string s) ∧ w9.cell? ⟨qd, 2, Option.none⟩ = some (.slice da D.length dc)) := Lib.hid ⟨(XS.out _ K9.out).1, (XS.out _ K9.out).2, s2⟩
      go_wp2_with fail
      refine wp_region_noPanic ?_
      refine Nt.wp_region_N 12 (fun w' => w'.cell? ⟨p, 0, Option.none⟩ = some (.slice (some ⟨bN, 0, Option.none⟩) N.length cn) ∧ w'.cell? ⟨bN, x, Option.none⟩ = some (.string s) ∧ w'.cell? ⟨qd, 2, Option.none⟩ = some (.slice da D.length dc)) (by kernel_rfl) ?_
      refine Nt.takeT (i := 0) (oi := { dst := some 119, op := Op.fieldAddr 42 (Operand.tmp 10) 2, type := 0, pos := _, after := #[], guard := Option.none }) (v := ?_) rfl (by kernel_rfl) (by kernel_rfl) (by kernel_rfl) (by kernel_rfl) (fun _ _ _ h => h) (Or.inl ⟨by rfl, ?_⟩) (fun _ => SD.out) ?_
      rotate_left 1
      · intro w hSw
        try dsimp only at hSw
        go_simp
        first | done | with_reducible rfl
      try simp only [Act.put, List.setIfInBounds_toArray, List.set_cons_zero, List.set_cons_succ]
      refine Nt.takeS (i := 1) (oi := { dst := some 120, op := Op.load 27 (Operand.tmp 119), type := 27, pos := _, after := #[{ on := 0, ground := Ground.data }], guard := Option.none }) (v := ?_) rfl (by kernel_rfl) (by kernel_rfl) (by kernel_rfl) (by kernel_rfl) (by kernel_rfl) (by kernel_rfl) (fun _ _ _ h => h) (Or.inl ⟨by rfl, ?_⟩) SD.out ?_
      rotate_left 1
      · intro w hSw
        try dsimp only at hSw
        go_simp
        first | done | with_reducible rfl
      try simp only [Act.put, List.setIfInBounds_toArray, List.set_cons_zero, List.set_cons_succ]
      refine Nt.takeT (i := 2) (oi := { dst := some 121, op := Op.move (Operand.tmp 0), type := 26, pos := _, after := #[], guard := Option.none }) (v := ?_) rfl (by kernel_rfl) (by kernel_rfl) (by kernel_rfl) (by kernel_rfl) (fun _ _ _ h => h) (Or.inl ⟨by rfl, ?_⟩) (fun _ => SD.out) ?_
      rotate_left 1
      · intro w hSw
        try dsimp only at hSw
        go_simp
        first | done | with_reducible rfl
      try simp only [Act.put, List.setIfInBounds_toArray, List.set_cons_zero, List.set_cons_succ]
      refine Nt.takeT (i := 3) (oi := { dst := some 122, op := Op.nilCheck (Operand.tmp 121), type := 0, pos := _, after := #[{ on := 2, ground := Ground.data }], guard := Option.none }) (v := ?_) rfl (by kernel_rfl) (by kernel_rfl) (by kernel_rfl) (by kernel_rfl) (fun _ _ _ h => h) (Or.inl ⟨by rfl, ?_⟩) (fun _ => SD.out) ?_
      rotate_left 1
      · intro w hSw
        try dsimp only at hSw
        go_simp
        first | done | with_reducible rfl
      try simp only [Act.put, List.setIfInBounds_toArray, List.set_cons_zero, List.set_cons_succ]
      refine Nt.takeT (i := 4) (oi := { dst := some 123, op := Op.fieldAddr 30 (Operand.tmp 122) 0, type := 0, pos := _, after := #[{ on := 3, ground := Ground.data }], guard := Option.none }) (v := ?_) rfl (by kernel_rfl) (by kernel_rfl) (by kernel_rfl) (by kernel_rfl) (fun _ _ _ h => h) (Or.inl ⟨by rfl, ?_⟩) (fun _ => SD.out) ?_
      rotate_left 1
      · intro w hSw
        try dsimp only at hSw
        go_simp
        first | done | with_reducible rfl
      try simp only [Act.put, List.setIfInBounds_toArray, List.set_cons_zero, List.set_cons_succ]
      refine Nt.takeS (i := 5) (oi := { dst := some 124, op := Op.load 27 (Operand.tmp 123), type := 27, pos := _, after := #[{ on := 4, ground := Ground.data }], guard := Option.none }) (v := ?_) rfl (by kernel_rfl) (by kernel_rfl) (by kernel_rfl) (by kernel_rfl) (by kernel_rfl) (by kernel_rfl) (fun _ _ _ h => h) (Or.inl ⟨by rfl, ?_⟩) SD.out ?_
      rotate_left 1
      · intro w hSw
        try dsimp only at hSw
        go_simp
        first | done | with_reducible rfl
      try simp only [Act.put, List.setIfInBounds_toArray, List.set_cons_zero, List.set_cons_succ]
      refine Nt.takeT (i := 6) (oi := { dst := some 125, op := Op.move (Operand.tmp 12), type := 76, pos := _, after := #[], guard := Option.none }) (v := ?_) rfl (by kernel_rfl) (by kernel_rfl) (by kernel_rfl) (by kernel_rfl) (fun _ _ _ h => h) (Or.inl ⟨by rfl, ?_⟩) (fun _ => SD.out) ?_
      rotate_left 1
      · intro w hSw
        try dsimp only at hSw
        go_simp
        first | done | with_reducible rfl
      try simp only [Act.put, List.setIfInBounds_toArray, List.set_cons_zero, List.set_cons_succ]
      refine Nt.takeT (i := 7) (oi := { dst := some 126, op := Op.indexAddr 27 (Operand.tmp 124) (Operand.tmp 125), type := 0, pos := _, after := #[{ on := 5, ground := Ground.data }, { on := 6, ground := Ground.data }], guard := Option.none }) (v := ?_) rfl (by kernel_rfl) (by kernel_rfl) (by kernel_rfl) (by kernel_rfl) (fun _ _ _ h => h) (Or.inl ⟨by rfl, ?_⟩) (fun _ => SD.out) ?_
      rotate_left 1
      · intro w hSw
        try dsimp only at hSw
        go_simp
        first | done | with_reducible rfl
      try simp only [Act.put, List.setIfInBounds_toArray, List.set_cons_zero, List.set_cons_succ]
      refine Nt.takeS (i := 8) (oi := { dst := some 127, op := Op.load 9 (Operand.tmp 126), type := 9, pos := _, after := #[{ on := 7, ground := Ground.data }], guard := Option.none }) (v := ?_) rfl (by kernel_rfl) (by kernel_rfl) (by kernel_rfl) (by kernel_rfl) (by kernel_rfl) (by kernel_rfl) (fun _ _ _ h => h) (Or.inl ⟨by rfl, ?_⟩) SD.out ?_
      rotate_left 1
      · intro w hSw
        try dsimp only at hSw
        go_simp
        first | done | with_reducible rfl
      try simp only [Act.put, List.setIfInBounds_toArray, List.set_cons_zero, List.set_cons_succ]
      refine Nt.nextN (i := 9) (by kernel_rfl) rfl (fun K hK => ?_)
      go_simp
      refine hK.out _ _ (fun _ => SA.out) ?_
      clear hK K
      try simp only [Act.put, List.setIfInBounds_toArray, List.set_cons_zero, List.set_cons_succ]
      refine Nt.nextN (i := 10) (by kernel_rfl) rfl (fun K hK => ?_)
      refine step_run2 rfl (.tmp 120) (.tmp 128) rfl (by simp [Act.eval]) (by simp [Act.eval]) HR9.out ?_
      refine hK.out _ _ (fun _ => S9.out) ?_
      clear hK K
      try simp only [Act.put, List.setIfInBounds_toArray, List.set_cons_zero, List.set_cons_succ]
      refine Nt.takeT (i := 11) (oi := { dst := some 130, op := Op.fieldAddr 42 (Operand.tmp 10) 2, type := 0, pos := _, after := #[{ on := 0, ground := Ground.phase }, { on := 1, ground := Ground.phase }, { on := 2, ground := Ground.phase }, { on := 3, ground := Ground.phase }, { on := 4, ground := Ground.phase }, { on := 5, ground := Ground.phase }, { on := 6, ground := Ground.phase }, { on := 7, ground := Ground.phase }, { on := 8, ground := Ground.phase }, { on := 9, ground := Ground.phase }, { on := 10, ground := Ground.phase }], guard := Option.none }) (v := ?_) rfl (by kernel_rfl) (by kernel_rfl) (by kernel_rfl) (by kernel_rfl) (fun _ _ _ h => h) (Or.inl ⟨by rfl, ?_⟩) (fun _ => S9.out) ?_
      rotate_left 1
      · intro w hSw
        try dsimp only at hSw
        go_simp
        first | done | with_reducible rfl
      try simp only [Act.put, List.setIfInBounds_toArray, List.set_cons_zero, List.set_cons_succ]
      refine Nt.nextN (i := 12) (by kernel_rfl) rfl (fun K hK => ?_)
      go_simp
      refine hK.out _ _ (fun h => by simp at h) ?_
      clear hK K
      try simp only [Act.put, List.setIfInBounds_toArray, List.set_cons_zero, List.set_cons_succ]
      refine Nt.doneN (by kernel_rfl) ?_ _
      refine NoPanic.normal ?_
      go_wp2_with fail
      go_roundw
      case rel => exact ⟨j + 1, D ++ [s], a9, c9, by omega, by go_num, HK9, HD', HF'⟩
      case measure => simp [intOf]; omega
    · have hjm : j = oMany t := by omega
      subst hjm
      have etk : (nums (oMany t) (oRest t)).take (oMany t) = nums (oMany t) (oRest t) := List.take_of_length_le (by rw [nums_length]; exact Nat.le_refl _)
      rw [etk] at hD hF
      have HR : Hid (refT N L (2 :: t) = some (N, putL L ⟨nm, ((oTime t : Nat) : Int), D⟩)) := Lib.hid (by rw [HR0.out, if_pos (fits_of HBAD.out H2.out H3.out H1.out hF.out), ← hD.out])
      have hstr : StrAt (ElP (more S w wr) p (.slice (some ⟨bN, 0, Option.none⟩) N.length cn) vL) wr (.slice da D.length dc) D := by
        have hpw := lt_some HH.out.box
        rcases own_at hK.out.own with ⟨e, h0⟩ | ⟨g, cap, e, hg1, hg2, hle, hc⟩
        · obtain ⟨rfl, -, rfl⟩ := Value.slice.inj e
          exact ⟨_, _, rfl, by omega, .inl (List.eq_nil_of_length_eq_zero h0)⟩
        · obtain ⟨rfl, -, rfl⟩ := Value.slice.inj e
          refine ⟨_, _, rfl, hle, .inr ⟨g, 0, rfl, ⟨.inr ⟨hg1, hg2⟩, by omega, fun e => ?_, fun e => ?_⟩, hg2, fun i x hi => by rw [Nat.zero_add]; exact hc _ _ (by simp [strV, hi])⟩⟩
          · have := (HH.out.names.lt g e).2
            omega
          · have := (HH.out.found.lt g e).2
            omega
      have hput := put_c (S := more S w wr) (d := ⟨nm, ((oTime t : Nat) : Int), D⟩) (da := da) (dc := dc) ((HS.out _ hK.out.bel).wide (fun k hk => .inl hk)) (fun k hk => by
        rcases hk with hk | hk
        · exact Nat.lt_of_lt_of_le (HSW.out k hk) hK.out.bel.size
        · exact hk.2) hstr hL
      obtain ⟨⟨k0, k1, k2⟩, -⟩ := thr_cells hK.out.box
      clear hstr etk
      go_wp2_with fail
      refine hput.mono ?_
      rintro e w7 hq
      have he := hq.1
      subst he
      have HQ := Lib.hid hq
      clear hq hput k0 k1 k2
      go_wp2_with fail
      go_ret
      exact rt_put hK.out.bel HQ.out HR.out rfl
end Go.Proofs.Ytofdnbddpageoaa.Nm
