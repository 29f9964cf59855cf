/-
  Cook, whatever it is given.
-/
import Derived.Test.YtgledabcfonbeaaGreatDoorCkDone
import Derived.Defers
import Derived.Recover
namespace Go.Proofs.YtgledabcfonbeaaGreatDoor.Df
open Go.RowKit Go.Maps Go.Proofs.YtgledabcfonbeaaGreatDoor

/-- the bytes of the first file of a name -/
def fileL (L : List Fl) (s : Bs) : Option Bs := (L.find? (fun x => decide (x.1 = s))).map Prod.snd
def cookL (H : Bs → Bs) (ws decl : List Bs) (L : List Fl) : Option (Cmd × (Bs × List Bs)) := (readL ws).bind fun o => (doneO H decl (fileL L) o.verb o.args).map fun p => (o, p)
/-- nothing that stood has turned, but for block p -/
def Md (p : Nat) (W W' : World) : Prop := W'.os = W.os ∧ W'.tape = W.tape ∧ W'.output = W.output ∧ W.heap.size ≤ W'.heap.size ∧ ∀ q, q < W.heap.size → q ≠ p → W'.heap[q]? = W.heap[q]?
theorem Below.md {w w' : World} (h : Below w.heap.size w w') (p : Nat) : Md p w w' := ⟨h.os, h.tape, h.output, h.size, fun q hq _ => h.block q hq⟩

theorem find_zip {Q : Value → Fl → Prop} (s : Bs) : ∀ (L : List Fl) (U : List Value), (∀ (j : Nat) x, L[j]? = some x → ∃ u, U[j]? = some u ∧ Q u x) →
    match L.find? (fun x => decide (x.1 = s)) with
    | some x => ∃ u, u ∈ U ∧ (L.zip U).find? (fun p => decide (p.1.1 = s)) = some (x, u) ∧ Q u x ∧ x ∈ L
    | none => (L.zip U).find? (fun p => decide (p.1.1 = s)) = none
  | [], U, _ => by simp
  | x :: L, U, h => by
    obtain ⟨u, hu, hq⟩ := h 0 x rfl
    cases U with
    | nil => cases hu
    | cons u2 U =>
      cases hu
      have ih := find_zip s L U (fun j y hy => h (j + 1) y hy)
      rw [List.find?_cons, List.zip_cons_cons, List.find?_cons]
      by_cases hx : x.1 = s
      · rw [decide_eq_true hx]
        exact ⟨u, List.mem_cons_self, rfl, hq, List.mem_cons_self⟩
      · rw [decide_eq_false hx]
        dsimp only
        split at ih
        · obtain ⟨u3, i1, i2, i3, i4⟩ := ih
          rename_i y hy
          rw [hy]
          exact ⟨u3, List.mem_cons_of_mem _ i1, i2, i3, List.mem_cons_of_mem _ i4⟩
        · rename_i hy
          rw [hy]
          exact ih
theorem fls_ft {w : World} {fv : Value} {L : List Fl} {U : List Value} (h : Fls w fv L U) (hl : ∀ x ∈ L, x.2.length ≤ 1000000) (hc : ∀ u ∈ U, ∀ a n c, u = .slice a n c → c ≤ 9223372036854775807) : FT w (fmap (L.zip U)) (fileL L) := fun s => by
  obtain ⟨hU, a, c, -, -, hrow⟩ := h
  have hq : ∀ (j : Nat) x, L[j]? = some x → ∃ u, U[j]? = some u ∧ Byt w u x.2 := by
    rcases hrow with rfl | ⟨g, off, -, -, hcell⟩
    · intro j x hx; cases hx
    · intro j x hx
      obtain ⟨u, h1, -, -, h4⟩ := hcell j x hx
      exact ⟨u, h1, h4⟩
  have hz := find_zip s L U hq
  unfold fileL
  rw [fmap_find _ _ rfl s]
  split at hz
  · rename_i x hx
    obtain ⟨u, hu, hf, hb, hxL⟩ := hz
    rw [hx, hf]
    dsimp only [Option.map_some]
    obtain ⟨ua, uc, e, h1, h2, h3⟩ := id hb
    subst e
    exact ⟨mk x.1, ua, uc, rfl, hb, hl x hxL, hc _ hu _ _ _ rfl⟩
  · rename_i hx
    rw [hx, hz]
    rfl

def SumC (w : World) (H : Bs → Bs) (decl : List Bs) (F : Bs → Option Bs) (o : Cmd) : Prop := o.verb = wSum → (∀ r, (H r).length ≤ 65536) ∧ ∀ (W : World) (k m0 m1 m2 n0 n1 : Nat) (T : List Value) (F' : Bs → Option Value), Below w.heap.size w W → Kf W k m0 m1 m2 decl n0 T F' n1 F → o.args.length ≤ 901 → (∀ a ∈ o.args, a.length ≤ 900) → ∀ av, Strs W av o.args → Calls Tryz.prog 48 #[.pointer (some ⟨k, 0, none⟩), av] W (VeO W (sumO H decl F o.args))
theorem SumC.up {w w' : World} {H : Bs → Bs} {decl : List Bs} {F : Bs → Option Bs} {o : Cmd} (h : SumC w H decl F o) (hb : Below w.heap.size w w') : SumC w' H decl F o := fun e => ⟨(h e).1, fun W k m0 m1 m2 n0 n1 T F' hW => (h e).2 W k m0 m1 m2 n0 n1 T F' (hb.trans (hW.mono hb.size))⟩
/-- a dish in block p -/
def Dsv (W : World) (B p : Nat) (o : Cmd) (q : Bs × List Bs) : Prop := ∃ C base, B ≤ base ∧ W.heap[p]? = some (.cells C 36 (0, 0)) ∧ DiV W base o q (.agg C)

set_option maxRecDepth 100000 in
set_option maxHeartbeats 16000000 in
theorem cook1_a {H : Bs → Bs} {w : World} {b0 b1 b2 b3 : Nat} {s : Bs} {dv fv : Value} {decl : List Bs} {L : List Fl} {U : List Value}
    (h0 : w.heap[b0]? = some (.cells #[.string (mk s)] 9 (0, 0))) (h1 : w.heap[b1]? = some (.cells #[dv] 32 (0, 0))) (h2 : w.heap[b2]? = some (.cells #[fv] 27 (0, 0))) (h3 : w.heap[b3]? = some (.cells zDish 36 (0, 0)))
    (hs : s.length ≤ 900) (hd : Strs w dv decl) (hf : Fls w fv L U) (hdl : decl.length ≤ 1000000) (hdx : ∀ x ∈ decl, x.length ≤ 9223372036854775807) (hfl : L.length ≤ 1000000) (hfx : ∀ x ∈ L, x.1.length ≤ 1000000) (hfb : ∀ x ∈ L, x.2.length ≤ 1000000) (hcap : ∀ u ∈ U, ∀ a n c, u = .slice a n c → c ≤ 9223372036854775807)
    (hsum : ∀ o, readL (words [] s) = some o → SumC w H decl (fileL L) o) :
    Calls Tryz.prog 21 #[.pointer (some ⟨b0, 0, none⟩), .pointer (some ⟨b1, 0, none⟩), .pointer (some ⟨b2, 0, none⟩), .pointer (some ⟨b3, 0, none⟩)] w fun e w' => Fa (cookL H (words [] s) decl L) (fun q e => e = .returned (.tuple #[]) ∧ Dsv w' w.heap.size b3 q.1 q.2) e ∧ Md b3 w w' ∧ (cookL H (words [] s) decl L = none → w'.heap[b3]? = w.heap[b3]?) := by
  have c0 : w.cell? ⟨b0, 0, none⟩ = some (.string (mk s)) := cell_of_heap h0
  have cr := read_a s (by omega) w
  have hok := fun o h => readL_ok (ws := words [] s) (o := o) h
  have hwl := words_len s []
  have hwx := words_lens s []
  simp only [if_true] at hwl
  have HWX : Hid (∀ x ∈ words [] s, x.length ≤ 900) := Lib.hid fun x hx => by have := hwx x hx; simp at this; omega
  unfold cookL
  generalize words [] s = ws at *
  generalize readL ws = ro at *
  have H1 := Lib.hid h1
  have H2 := Lib.hid h2
  have H3 := Lib.hid h3
  have HD := Lib.hid hd
  have HF := Lib.hid hf
  have HDX := Lib.hid hdx
  have HFX := Lib.hid hfx
  have HFB := Lib.hid hfb
  have HCAP := Lib.hid hcap
  have HSUM := Lib.hid hsum
  have HOK := Lib.hid hok
  clear h0 h1 h2 h3 hdx hfx hfb hcap hsum hok hwx
  go_enter Tryz.func21, Tryz.ntmps21
  go_wp2_with fail
  refine cr.mono ?_
  rintro e w1 ⟨hq, hb1⟩
  have HB1 := Lib.hid hb1
  clear cr hb1
  cases ro with
  | none =>
    obtain rfl : e = .panicked pch := hq
    exact ⟨rfl, rfl, Below.md HB1.out b3, fun _ => HB1.out.block _ (lt_some H3.out)⟩
  | some o =>
  obtain ⟨hne, hright, ⟨kf, hkf⟩, haw, how, hal, hol⟩ := HOK.out o rfl
  obtain ⟨av, ov, rfl, hav, hov⟩ := hq
  obtain ⟨aa, ac, rfl, hac, harow⟩ := id hav
  obtain ⟨oa, oc, rfl, -, -⟩ := id hov
  obtain ⟨pp, hpp⟩ : ∃ p, doneO H decl (fileL L) o.verb o.args = p := ⟨_, rfl⟩
  have HNO : Hid (pp = none → ((some o).bind fun o => (doneO H decl (fileL L) o.verb o.args).map fun p => (o, p)) = none) := Lib.hid (fun e => by
    show ((doneO H decl (fileL L) o.verb o.args).map fun p => (o, p)) = _
    rw [hpp, e]
    rfl)
  have HPP := Lib.hid hpp
  obtain ⟨w2, hw2⟩ : ∃ W, w1.alloc (.cells #[.bool o.once, .string (mk o.verb), .slice aa o.args.length ac, .slice oa o.outs.length oc, .string (mk o.dep)] 59) = W := ⟨_, rfl⟩
  have hb2 : Below w1.heap.size w1 w2 := by rw [← hw2]; exact below_alloc _ _
  have hp4 : w2.heap[w1.heap.size]? = some (.cells #[.bool o.once, .string (mk o.verb), .slice aa o.args.length ac, .slice oa o.outs.length oc, .string (mk o.dep)] 59 (0, 0)) := by rw [← hw2]; exact heap_alloc_new _ _
  have HSZ1 : Hid (w.heap.size ≤ w1.heap.size) := Lib.hid HB1.out.size
  have HB2 := Lib.hid (HB1.out.trans (hb2.mono HB1.out.size))
  have HAV := Lib.hid (hav.below hb2)
  have HOV := Lib.hid (hov.below hb2)
  have HP4 := Lib.hid hp4
  have HVL : Hid (o.verb.length ≤ 1000000) := Lib.hid (by
    rcases verb_cases hkf with ⟨e, -⟩ | ⟨e, -⟩ | ⟨e, -⟩ | ⟨e, -⟩ | ⟨e, -⟩ | ⟨e, -⟩ <;> rw [e] <;> decide)
  have HAX : Hid (∀ x ∈ o.args, x.length ≤ 900) := Lib.hid fun x hx => HWX.out x (haw x hx)
  have HAL : Hid (o.args.length ≤ 901) := Lib.hid (by omega)
  have HOL : Hid (o.outs.length ≤ 901) := Lib.hid (by omega)
  have HKV := Lib.hid hkf
  have HNEO := Lib.hid hne
  have HRT := Lib.hid hright
  clear hav hov hac harow hb2 hp4 c0 hne hright hkf haw how hal hol hpp
  go_wp2_with fail
  have hb2 := HB2.out
  have hd2 := HD.out.below hb2
  have hf2 := HF.out.below hb2
  obtain ⟨da, dc, rfl, -, -⟩ := id hd
  obtain ⟨-, fa, fc, rfl, -, -⟩ := id hf
  have g1 := (hb2.block _ (lt_some H1.out)).trans H1.out
  have g2 := (hb2.block _ (lt_some H2.out)).trans H2.out
  have HCL : Hid (∀ w' : World, (∀ q, q < w2.heap.size → w'.heap[q]? = w2.heap[q]?) → w'.cell? ⟨b1, 0, none⟩ = some (.slice da decl.length dc) ∧ w'.cell? ⟨b2, 0, none⟩ = some (.slice fa L.length fc) ∧ w'.cell? ⟨w1.heap.size, 0, none⟩ = some (.bool o.once) ∧ w'.cell? ⟨w1.heap.size, 1, none⟩ = some (.string (mk o.verb)) ∧ w'.cell? ⟨w1.heap.size, 2, none⟩ = some (.slice aa o.args.length ac) ∧ w'.cell? ⟨w1.heap.size, 3, none⟩ = some (.slice oa o.outs.length oc) ∧ w'.cell? ⟨w1.heap.size, 4, none⟩ = some (.string (mk o.dep))) := Lib.hid fun W hW =>
    ⟨cell_of_heap ((hW _ (lt_some g1)).trans g1), cell_of_heap ((hW _ (lt_some g2)).trans g2), cell_of_heap ((hW _ (lt_some HP4.out)).trans HP4.out), cell_of_heap ((hW _ (lt_some HP4.out)).trans HP4.out), cell_of_heap ((hW _ (lt_some HP4.out)).trans HP4.out), cell_of_heap ((hW _ (lt_some HP4.out)).trans HP4.out), cell_of_heap ((hW _ (lt_some HP4.out)).trans HP4.out)⟩
  have HC : Hid (∀ w' : World, Below w2.drew.heap.size w2.drew w' → w'.cell? ⟨b1, 0, none⟩ = some (.slice da decl.length dc) ∧ w'.cell? ⟨b2, 0, none⟩ = some (.slice fa L.length fc) ∧ w'.cell? ⟨w1.heap.size, 0, none⟩ = some (.bool o.once) ∧ w'.cell? ⟨w1.heap.size, 1, none⟩ = some (.string (mk o.verb)) ∧ w'.cell? ⟨w1.heap.size, 2, none⟩ = some (.slice aa o.args.length ac) ∧ w'.cell? ⟨w1.heap.size, 3, none⟩ = some (.slice oa o.outs.length oc) ∧ w'.cell? ⟨w1.heap.size, 4, none⟩ = some (.string (mk o.dep))) := Lib.hid fun W hW => HCL.out W hW.block
  have C0 := HC.out w2.drew (Below.refl _ _)
  have hd2d : Strs w2.drew (.slice da decl.length dc) decl := hd2
  have hf2d : Fls w2.drew (.slice fa L.length fc) L U := hf2
  have ck := newKitchen_c hd2d hf2d hdl HDX.out hfl HFX.out
  have HSV : Hid (∀ W k m0 m1 m2 n1, Below w2.heap.size w2 W → W.heap[k]? = some (KtO m0 m1 0 (.slice none 0 0) m2) → Si W decl.length m0 (fun l => decl.contains l) → Vi W n1 m1 (valsF L U) (fmap (L.zip U)) → Si W 0 m2 (fun _ => false) → m0 ≠ m2 → m1 ≠ m2 →
      Calls Tryz.prog 24 #[.pointer (some ⟨k, 0, none⟩), .agg #[.bool o.once, .string (mk o.verb), .slice aa o.args.length ac, .slice oa o.outs.length oc, .string (mk o.dep)]] W (SeQ W k m2 o pp)) := Lib.hid fun W k m0 m1 m2 n1 hW q1 q2 q3 q4 ne0 ne1 => by
    obtain ⟨es, c, hmap⟩ := q4.map
    have hkf : Kf W k m0 m1 m2 decl decl.length (valsF L U) (fmap (L.zip U)) n1 (fileL L) := ⟨⟨⟨_, _, _, _, q1⟩, q2, q3, List.mem_cons_self, ⟨es, c, hmap⟩, ne0, ne1, (fls_ft (HF.out.below (HB2.out.trans (hW.mono HB2.out.size))) HFB.out HCAP.out)⟩, q1, q4, fun s b hb => by
      unfold fileL at hb
      cases hx : L.find? (fun x => decide (x.1 = s)) with
      | none => rw [hx] at hb; cases hb
      | some x => rw [hx] at hb; cases hb; exact HFB.out x (List.mem_of_find?_eq_some hx)⟩
    have hjl : (joinS o.args).length ≤ 900000 := by
      have h1 := joinS_len 900 o.args HAX.out
      have h2 : (900 + 1) * o.args.length ≤ (900 + 1) * 901 := Nat.mul_le_mul_left _ HAL.out
      omega
    refine serve_a hkf o HKV.out (verb_enters HKV.out) (fun W2 hW2 av2 hav2 => ?_) (HAV.out.below hW) (HOV.out.below hW) (by have := HOL.out; omega) HNEO.out HVL.out (fun x hx => by have := right_len (HRT.out x hx); omega) (fun b f hbf => ?_)
    · rw [← HPP.out]
      exact verb_a (hkf.below hW2) HKV.out hav2 (by have := HAL.out; omega) (fun a ha => by have := HAX.out a ha; omega) hjl (fun e => (HSUM.out o rfl e).2 _ _ _ _ _ _ _ _ _ ((HB2.out.trans (hW.mono HB2.out.size)).trans (hW2.mono (Nat.le_trans HB2.out.size hW.size))) (hkf.below hW2) HAL.out HAX.out av2 hav2)
    · obtain ⟨i1, i2, i3⟩ := doneO_ok (fun e => (HSUM.out o rfl e).1) (HPP.out.trans hbf)
      exact ⟨by omega, i2, fun x hx => right_len (i3 x hx)⟩
  clear hd2 hf2 hd2d hf2d g1 g2 hb2 hd hf hw2
  refine Nt.wp_region_N 5 (fun w' => w'.cell? ⟨b1, 0, none⟩ = some (.slice da decl.length dc) ∧ w'.cell? ⟨b2, 0, none⟩ = some (.slice fa L.length fc) ∧ w'.cell? ⟨w1.heap.size, 0, none⟩ = some (.bool o.once) ∧ w'.cell? ⟨w1.heap.size, 1, none⟩ = some (.string (mk o.verb)) ∧ w'.cell? ⟨w1.heap.size, 2, none⟩ = some (.slice aa o.args.length ac) ∧ w'.cell? ⟨w1.heap.size, 3, none⟩ = some (.slice oa o.outs.length oc) ∧ w'.cell? ⟨w1.heap.size, 4, none⟩ = some (.string (mk o.dep))) (by kernel_rfl) ?_
  refine Nt.takeS (i := 0) (oi := { dst := some 7, op := Op.load 32 (Operand.tmp 1), type := 32, pos := _, after := #[], guard := Option.none }) (v := ?_) rfl (by kernel_rfl) (by kernel_rfl) (by kernel_rfl) (by kernel_rfl) (by kernel_rfl) (by kernel_rfl) (fun _ _ _ h => h) (Or.inl ⟨by rfl, ?_⟩) C0 ?_
  rotate_left 1
  · intro w hSw
    try dsimp only at hSw
    go_simp
    first | done | with_reducible rfl
  try simp only [Act.put, List.setIfInBounds_toArray, List.set_cons_zero, List.set_cons_succ]
  refine Nt.takeS (i := 1) (oi := { dst := some 8, op := Op.load 27 (Operand.tmp 2), type := 27, pos := _, after := #[], guard := Option.none }) (v := ?_) rfl (by kernel_rfl) (by kernel_rfl) (by kernel_rfl) (by kernel_rfl) (by kernel_rfl) (by kernel_rfl) (fun _ _ _ h => h) (Or.inl ⟨by rfl, ?_⟩) C0 ?_
  rotate_left 1
  · intro w hSw
    try dsimp only at hSw
    go_simp
    first | done | with_reducible rfl
  try simp only [Act.put, List.setIfInBounds_toArray, List.set_cons_zero, List.set_cons_succ]
  refine Nt.takeS (i := 3) (oi := { dst := some 10, op := Op.load 59 (Operand.tmp 4), type := 59, pos := _, after := #[], guard := Option.none }) (v := ?_) rfl (by kernel_rfl) (by kernel_rfl) (by kernel_rfl) (by kernel_rfl) (by kernel_rfl) (by kernel_rfl) (fun _ _ _ h => h) (Or.inl ⟨by rfl, ?_⟩) C0 ?_
  rotate_left 1
  · intro w hSw
    try dsimp only at hSw
    go_simp
    first | done | with_reducible rfl
  try simp only [Act.put, List.setIfInBounds_toArray, List.set_cons_zero, List.set_cons_succ]
  refine Nt.nextN (i := 2) (by kernel_rfl) rfl (fun K hK => ?_)
  go_simp
  go_at_call 23
  (with_reducible refine ck.mono ?_)
  rintro e w5 ⟨k, m0, m1, m2, n1, rfl, q1, q2, -, q3, q4, klo, m0lo, m1lo, m2lo, -, -, -, -, ne02, ne12, hb5⟩
  have CX := HC.out _ hb5
  have hb25 : Below w2.heap.size w2 w5 := ⟨hb5.os, hb5.tape, hb5.output, hb5.size, hb5.block⟩
  have HB5 := Lib.hid hb25
  have cs := HSV.out w5 k m0 m1 m2 n1 hb25 q1 q2 q3 q4 ne02 ne12
  have HKLO : Hid (w2.heap.size ≤ k ∧ w2.heap.size ≤ m2) := Lib.hid ⟨klo, m2lo⟩
  clear q1 q2 q3 q4 hb5 hb25 klo m0lo m1lo m2lo ne02 ne12
  refine hK.out _ _ (fun _ => CX) ?_
  clear hK K
  try simp only [Act.put, List.setIfInBounds_toArray, List.set_cons_zero, List.set_cons_succ]
  refine Nt.nextN (i := 4) (by kernel_rfl) rfl (fun K hK => ?_)
  go_simp
  go_at_call 24
  (with_reducible refine cs.mono ?_)
  rintro e w6 ⟨hq6, hl6⟩
  have HLO : Hid (∀ q, q < w2.heap.size → w6.heap[q]? = w2.heap[q]?) := Lib.hid fun q hq => (hl6.low q (Nat.lt_of_lt_of_le hq HB5.out.size) (by have := HKLO.out.1; omega) (by have := HKLO.out.2; omega)).trans (HB5.out.block q hq)
  have HM6 : Hid (Md b3 w w6) := Lib.hid ⟨hl6.os.trans (HB5.out.os.trans HB2.out.os), hl6.tape.trans (HB5.out.tape.trans HB2.out.tape), hl6.output.trans (HB5.out.output.trans HB2.out.output), Nat.le_trans HB2.out.size (Nat.le_trans HB5.out.size hl6.size), fun q hq _ => (HLO.out q (Nat.lt_of_lt_of_le hq HB2.out.size)).trans (HB2.out.block q hq)⟩
  clear cs hl6
  cases pp with
  | none =>
    obtain rfl : e = .panicked pch := hq6
    refine ⟨rfl, ?_, HM6.out, fun _ => (HLO.out _ (Nat.lt_of_lt_of_le (lt_some H3.out) HB2.out.size)).trans (HB2.out.block _ (lt_some H3.out))⟩
    rw [HNO.out rfl]
    rfl
  | some p =>
  obtain ⟨v6, rfl, sa, sc, LL, rfl, hfst, hob, hown⟩ := hq6
  have CY := HCL.out w6 HLO.out
  have hz := (HLO.out _ (lt_some ((HB2.out.block _ (lt_some H3.out)).trans H3.out))).trans ((HB2.out.block _ (lt_some H3.out)).trans H3.out)
  have u0 : w6.cell? ⟨b3, 0, none⟩ = some (.slice none 0 0) := cell_of_heap hz
  have u1 : w6.cell? ⟨b3, 1, none⟩ = some (.bool false) := cell_of_heap hz
  have u2 : w6.cell? ⟨b3, 2, none⟩ = some (.string ⟨#[]⟩) := cell_of_heap hz
  have u3 : w6.cell? ⟨b3, 3, none⟩ = some (.string ⟨#[]⟩) := cell_of_heap hz
  have f0 : w6.frozen? ⟨b3, 0, none⟩ = false := by simp [World.frozen?, hz, zDish]
  have f1 : w6.frozen? ⟨b3, 1, none⟩ = false := by simp [World.frozen?, hz, zDish]
  have f2 : w6.frozen? ⟨b3, 2, none⟩ = false := by simp [World.frozen?, hz, zDish]
  have f3 : w6.frozen? ⟨b3, 3, none⟩ = false := by simp [World.frozen?, hz, zDish]
  have HZZ := Lib.hid hz
  have HFST := Lib.hid hfst
  have HOB := Lib.hid hob
  have HOWN := Lib.hid hown
  clear hz hfst hob hown
  refine hK.out _ _ (fun _ => CY) ?_
  clear hK K
  try simp only [Act.put, List.setIfInBounds_toArray, List.set_cons_zero, List.set_cons_succ]
  refine Nt.nextN (i := 5) (by kernel_rfl) rfl (fun K hK => ?_)
  go_simp
  refine hK.out _ _ (fun h => by simp at h) ?_
  clear hK K
  try simp only [Act.put, List.setIfInBounds_toArray, List.set_cons_zero, List.set_cons_succ]
  refine Nt.doneN (by kernel_rfl) ?_ _
  go_end0
  refine ⟨?_, ?_, fun h => ?_⟩
  · show Fa ((doneO H decl (fileL L) o.verb o.args).map fun p => (o, p)) _ _
    rw [HPP.out]
    have hz := HZZ.out
    have hP := set_block (j := 3) (u := .string (mk (depsT o p.2))) (set_block (j := 2) (u := .string (mk o.dep)) (set_block (j := 1) (u := .bool o.once) (set_block (j := 0) (u := .slice sa LL.length sc) hz)))
    have hoth : ∀ q, q ≠ b3 → ((((w6.setCell ⟨b3, 0, none⟩ (.slice sa LL.length sc)).setCell ⟨b3, 1, none⟩ (.bool o.once)).setCell ⟨b3, 2, none⟩ (.string (mk o.dep))).setCell ⟨b3, 3, none⟩ (.string (mk (depsT o p.2)))).heap[q]? = w6.heap[q]? := fun q h => (set_other h).trans ((set_other h).trans ((set_other h).trans (set_other h)))
    have hty : ∀ (g : Nat) (cur : Array Value) (t : TypeId), t ≠ 36 → w6.heap[g]? = some (Obj.cells cur t (0, 0)) → g ≠ b3 := fun g cur t ht hg e => by
      rw [e, hz] at hg
      injection hg with h
      injection h with _ h2
      exact ht h2.symm
    exact ⟨rfl, _, w5.heap.size, Nat.le_trans HB2.out.size HB5.out.size, hP, sa, sc, LL, rfl, HFST.out, fun q hq => (HOB.out q hq).kept fun g cur hc => hoth g (hty g cur _ (by decide) hc), owns_kept HOWN.out fun g hg => by
      obtain ⟨_, cur, hc⟩ := owns_block HOWN.out hg
      exact hoth g (hty g cur _ (by decide) hc)⟩
  · have h6 := HM6.out
    have hoth : ∀ q, q ≠ b3 → ((((w6.setCell ⟨b3, 0, none⟩ (.slice sa LL.length sc)).setCell ⟨b3, 1, none⟩ (.bool o.once)).setCell ⟨b3, 2, none⟩ (.string (mk o.dep))).setCell ⟨b3, 3, none⟩ (.string (mk (depsT o p.2)))).heap[q]? = w6.heap[q]? := fun q h => (set_other h).trans ((set_other h).trans ((set_other h).trans (set_other h)))
    exact ⟨h6.1, h6.2.1, h6.2.2.1, by rw [World.size_setCell, World.size_setCell, World.size_setCell, World.size_setCell]; exact h6.2.2.2.1, fun q hq hne => (hoth q hne).trans (h6.2.2.2.2 q hq hne)⟩
  · have h2 : ((doneO H decl (fileL L) o.verb o.args).map fun p => (o, p)) = none := h
    rw [HPP.out] at h2
    cases h2
end Go.Proofs.YtgledabcfonbeaaGreatDoor.Df
