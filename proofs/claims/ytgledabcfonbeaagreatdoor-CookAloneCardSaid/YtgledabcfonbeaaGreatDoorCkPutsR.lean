/-
  What a line includes; the document's Puts, where it does not fail.
-/
import Derived.Test.YtgledabcfonbeaaGreatDoorCkJ18
import Derived.Test.YtgledabcfonbeaaGreatDoorCkJ16
namespace Go.Proofs.YtgledabcfonbeaaGreatDoor.Df
open Go.RowKit Go.Maps Go.Proofs.YtgledabcfonbeaaGreatDoor

theorem inc_split {s : Bs} (h : incP.isPrefixOf s = true) : s = incP ++ s.drop 9 := by
  obtain ⟨t, rfl⟩ := List.isPrefixOf_iff_prefix.1 h
  rw [show (9 : Nat) = incP.length from rfl, List.drop_left]
theorem inc_not {s : Bs} (h : incP.isPrefixOf s = false) (_ : 9 ≤ s.length) : decide (s.take 9 = incP) = false := by
  rw [decide_eq_false_iff_not]
  intro e
  have : incP.isPrefixOf s = true := by
    rw [List.isPrefixOf_iff_prefix]
    exact ⟨s.drop 9, by rw [← e, List.take_append_drop]⟩
  rw [h] at this
  cases this

set_option maxRecDepth 100000 in
theorem include_c (s : Bs) (hs : s.length ≤ 9223372036854775807) (w : World) :
    Calls Tryz.prog 59 #[.string (mk s)] w fun e w' => e = .returned (.tuple #[.string (mk ((cutP s).getD [])), .bool (cutP s).isSome]) ∧ w = w' := by
  have hz := mk_size s
  by_cases h9 : s.length < 9
  · have hp : cutP s = none := by
      unfold cutP
      rw [if_neg]
      intro h
      have := congrArg List.length (inc_split h)
      rw [List.length_append] at this
      have h2 : incP.length = 9 := rfl
      omega
    rw [hp]
    have d1 : ((mk s).size : Int) < 9 := by rw [hz]; omega
    clear hp
    go_enter Tryz.func59, Tryz.ntmps59
    go_wp2_with fail
    go_ret2
    exact ⟨rfl, rfl⟩
  · have d1 : ¬ ((mk s).size : Int) < 9 := by rw [hz]; omega
    have d2 : (9 : Int) ≤ ((mk s).size : Int) := by rw [hz]; omega
    have x1 : (mk s).extract 0 9 = mk (s.take 9) := mk_extract s 0 9
    have x2 : (mk s).extract 9 s.length = mk (s.drop 9) := by
      rw [mk_extract]
      congr 1
      rw [List.take_of_length_le]
      rw [List.length_drop]
      exact Nat.le_refl _
    have hcmp : ((mk (s.take 9)).toList == ([35, 105, 110, 99, 108, 117, 100, 101, 32] : List UInt8)) = decide (s.take 9 = incP) := by
      rw [mk_toList]
      exact Bool.eq_iff_iff.2 (by rw [beq_iff_eq, decide_eq_true_iff]; rfl)
    cases hq : incP.isPrefixOf s with
    | true =>
      have hcp : cutP s = some (s.drop 9) := by
        unfold cutP
        rw [if_pos hq]
      have ht : s.take 9 = incP := by
        have h1 : s.take 9 = (incP ++ s.drop 9).take 9 := congrArg (List.take 9) (inc_split hq)
        rw [show (9 : Nat) = incP.length from rfl, List.take_left] at h1
        exact h1
      rw [decide_eq_true ht] at hcmp
      rw [hcp]
      generalize s.take 9 = p at *
      generalize s.drop 9 = q at *
      clear hcp ht hq
      go_enter Tryz.func59, Tryz.ntmps59
      go_wp2_with fail
      go_ret2
      exact ⟨rfl, rfl⟩
    | false =>
      have hcp : cutP s = none := by
        unfold cutP
        rw [if_neg]
        rw [hq]
        exact Bool.false_ne_true
      rw [inc_not hq (by omega)] at hcmp
      rw [hcp]
      generalize s.take 9 = p at *
      clear hcp hq
      go_enter Tryz.func59, Tryz.ntmps59
      go_wp2_with fail
      go_ret2
      exact ⟨rfl, rfl⟩

/-- a piece of bytes -/
theorem Byt.cut {w : World} {g off c : Nat} {r : Bs} (h : Byt w (.slice (some ⟨g, off, none⟩) r.length c) r) {i j : Nat} (hij : i ≤ j) (hj : j ≤ r.length) : Byt w (.slice (some ⟨g, off + i, none⟩) (j - i) (c - i)) ((r.take j).drop i) := by
  obtain ⟨a, c', e, hc, hn, hrow⟩ := h
  cases e
  have hl : ((r.take j).drop i).length = j - i := by rw [List.length_drop, List.length_take]; omega
  refine ⟨_, c - i, by rw [hl], by omega, (fun e => by cases e), ?_⟩
  rcases hrow with h | ⟨g2, off2, e, hg, hcell⟩
  · left
    rw [h]
    simp
  · cases e
    refine .inr ⟨g, off + i, rfl, hg, fun k x hk => ?_⟩
    have h1 : r[i + k]? = some x := by
      rw [List.getElem?_drop] at hk
      have hlt := (List.getElem?_eq_some_iff.1 hk).1
      rw [List.length_take] at hlt
      rw [List.getElem?_take, if_pos (by omega)] at hk
      exact hk
    have := hcell (i + k) x h1
    rw [show off + i + k = off + (i + k) by omega]
    exact this

def PtQ (w : World) (B p : Nat) (t : Kst) (e : Ending) (w' : World) : Prop :=
  ∃ (oa : Option Addr) (oc : Nat) (fa : Option Addr) (fc : Nat), e = .returned (.tuple #[.slice oa t.whole.length oc, .slice fa t.found.length fc, .bool true]) ∧ w'.ownsRow B 5 1 (.slice oa t.whole.length oc) t.whole.length (bytesV t.whole) ∧ w'.ownsRow B 9 1 (.slice fa t.found.length fc) t.found.length (strV t.found) ∧ w'.heap[p]? = some (.cells #[.int .i64 (t.n : Int)] 3 (0, 0)) ∧ Lw B p p w w'
/-- the boxes while lines are gone through -/
structure PtI (w : World) (B p : Nat) (s : Kst) (oa : Option Addr) (oc : Nat) (fa : Option Addr) (fc : Nat) (wr : World) : Prop where
  out : wr.ownsRow B 5 1 (.slice oa s.whole.length oc) s.whole.length (bytesV s.whole)
  fnd : wr.ownsRow B 9 1 (.slice fa s.found.length fc) s.found.length (strV s.found)
  many : wr.heap[p]? = some (.cells #[.int .i64 (s.n : Int)] 3 (0, 0))
  low : Lw B p p w wr

section
variable {w wr w1 : World} {B p : Nat} {s : Kst} {oa fa : Option Addr} {oc fc : Nat}
theorem pti_below (h : PtI w B p s oa oc fa fc wr) (hB : B ≤ wr.heap.size) (hb : Below wr.heap.size wr w1) : PtI w B p s oa oc fa fc w1 :=
  ⟨owns_below h.out hb, owns_below h.fnd hb, (hb.block _ (lt_some h.many)).trans h.many, h.low.trans (Lw.of_below hb hB)⟩
theorem pti_more (h : PtI w B p s oa oc fa fc wr) (hp : p < B) : PtI w B p ⟨s.whole, s.n + 1, s.found⟩ oa oc fa fc (wr.setCell ⟨p, 0, none⟩ (.int .i64 ((s.n : Int) + 1))) := by
  have hne : ∀ {e : TypeId} {v : Value} {n : Nat} {xs : List Value}, wr.ownsRow B e 1 v n xs → ∀ g, v.ownBlock = some g → (wr.setCell ⟨p, 0, none⟩ (.int .i64 ((s.n : Int) + 1))).heap[g]? = wr.heap[g]? := fun ho g hg => set_other (by have := (owns_block ho hg).1; omega)
  refine ⟨owns_kept h.out (hne h.out), owns_kept h.fnd (hne h.fnd), ?_, ⟨h.low.os, h.low.tape, h.low.output, by rw [World.size_setCell]; exact h.low.size, fun q hq h1 h2 => (set_other h1).trans (h.low.low q hq h1 h2)⟩⟩
  have := set_block (j := 0) (u := .int .i64 ((s.n : Int) + 1)) h.many
  exact this
theorem pti_grow (h : PtI w B p s oa oc fa fc wr) (hB : B ≤ wr.heap.size) {u : Option Addr} {k : Nat} {l : Bs} (hl : Byt wr (.slice u l.length k) l) (hlen : s.whole.length + l.length ≤ 1000000) :
    ∃ a' c' W', (Builtin.append_ #[24, 24] 24 #[.slice oa s.whole.length oc, .slice u l.length k]).run Tryz.prog wr = .ok (.slice a' (s.whole ++ l).length c') W' ∧ PtI w B p ⟨s.whole ++ l, s.n, s.found⟩ a' c' fa fc W' ∧ wr.heap.size ≤ W'.heap.size := by
  obtain ⟨a', c', W', hrun, hown, hg⟩ := run_appB h.out hB hl hlen
  have hK : Kp [5] wr W' := Kp.of_grown hg (fun g e => by obtain ⟨_, cur, hc⟩ := owns_block h.out e; exact ⟨cur, _, hc⟩) (by decide)
  refine ⟨a', c', W', hrun, ⟨hown, owns_kept h.fnd fun g e => ?_, hK.keep _ _ h.many (fun C t f e => by cases e; decide), h.low.trans (Lw.of_grown hg hB fun g e => (owns_block h.out e).1)⟩, hg.size⟩
  obtain ⟨_, cur, hc⟩ := owns_block h.fnd e
  exact (hK.keep g _ hc (fun C t f e => by cases e; decide)).trans hc.symm
theorem pti_push (h : PtI w B p s oa oc fa fc wr) (hB : B ≤ wr.heap.size) (x : Bs) (hlen : s.found.length ≤ 1000000) :
    ∃ a' c' W', (Builtin.append_ #[32, 32] 32 #[.slice fa s.found.length fc, .slice (some ⟨wr.heap.size, 0, none⟩) 1 1]).run Tryz.prog (wr.alloc (.cells #[.string (mk x)] 9)) = .ok (.slice a' (s.found ++ [x]).length c') W' ∧ PtI w B p ⟨s.whole, s.n, s.found ++ [x]⟩ oa oc a' c' W' ∧ wr.heap.size ≤ W'.heap.size := by
  obtain ⟨a', c', W', hrun, hown, hg⟩ := str_run (p := x) h.fnd hB hlen
  have hA := below_alloc wr (.cells #[.string (mk x)] 9)
  have h1 := pti_below h hB hA
  have hK : Kp [9] (wr.alloc (.cells #[.string (mk x)] 9)) W' := Kp.of_grown hg (fun g e => by obtain ⟨_, cur, hc⟩ := owns_block h1.fnd e; exact ⟨cur, _, hc⟩) (by decide)
  refine ⟨a', c', W', hrun, ⟨owns_kept h1.out fun g e => ?_, hown, hK.keep _ _ h1.many (fun C t f e => by cases e; decide), h1.low.trans (Lw.of_grown hg (Nat.le_trans hB hA.size) fun g e => (owns_block h1.fnd e).1)⟩, Nat.le_trans hA.size hg.size⟩
  obtain ⟨_, cur, hc⟩ := owns_block h1.out e
  exact (hK.keep g _ hc (fun C t f e => by cases e; decide)).trans hc.symm
end

theorem refFindS_c {w : World} {v : Value} {L : List Fl} {U : List Value} (h : Fls w v L U) (hln : L.length ≤ 1000000) {s o : Bs} (ho : fileL L s = some o) :
    Calls Tryz.prog 11 #[v, .string (mk s)] w fun e w' => (∃ (k : Nat) (u : Value), e = .returned (.tuple #[u, .bool true]) ∧ L[k]? = some (s, o) ∧ U[k]? = some u) ∧ w = w' := by
  have H := Lib.hid h
  have HOO := Lib.hid ho
  obtain ⟨-, a, c, rfl, -, -⟩ := h
  clear ho
  go_enter Tryz.func11, Tryz.ntmps11
  go_wp2_with fail
  go_loop [6] (fun i => ∃ j : Nat, j ≤ L.length ∧ i = .int .i64 j ∧ Hid ((L.take j).find? (isN s) = none)) (fun i => L.length - (intOf i).toNat)
  case atStart => exact ⟨0, Nat.zero_le _, rfl, Lib.hid (by simp)⟩
  case round =>
    obtain ⟨j, hj, rfl, hA⟩ := hrel
    by_cases hlt : j < L.length
    · obtain ⟨x, hx⟩ : ∃ x, L[j]? = some x := ⟨_, List.getElem?_eq_getElem hlt⟩
      obtain ⟨g, off, c2, ua, uc, e, hg, hU, c0, c1, -⟩ := H.out.at hx
      cases e
      have hi0 : (0 : Int) ≤ (j : Int) := by omega
      have hi1 : (j : Int) < (L.length : Int) := by omega
      have HX := Lib.hid hx
      have HU := Lib.hid hU
      clear hx hU
      by_cases hs : x.1 = s
      · have e1 : ((mk x.1).toList == (mk s).toList) = true := by rw [eq_mk]; exact decide_eq_true hs
        have HR : Hid (x = (s, o)) := Lib.hid (by
          have h1 := HOO.out.symm.trans (find_at HX.out hA.out hs)
          rw [← hs, Option.some.inj h1])
        clear hs
        go_wp2_with fail
        go_ret2
        exact ⟨⟨j, _, rfl, by rw [HX.out, HR.out], HU.out⟩, rfl⟩
      · have e1 : ((mk x.1).toList == (mk s).toList) = false := by rw [eq_mk]; exact decide_eq_false hs
        have HN : Hid ((L.take (j + 1)).find? (isN s) = none) := Lib.hid (find_next HX.out hA.out hs)
        clear hs
        go_wp2_with fail
        go_round
        case rel => exact ⟨j + 1, by omega, by go_num, HN⟩
        case measure => simp [intOf] <;> omega
    · obtain rfl : j = L.length := by omega
      have := HOO.out.symm.trans (find_end hA.out)
      cases this

/-- what Puts does at a depth -/
def PutC (L : List Fl) (U : List Value) (fv : Value) (B p : Nat) (deep : Nat) (f : Bs → Kst → Option Kst) : Prop :=
  ∀ (w : World) (bv : Value) (b : Bs) (oa : Option Addr) (oc : Nat) (fa : Option Addr) (fc : Nat) (s t : Kst),
    p < B → B ≤ w.heap.size → (∀ W, Lw B p p w W → Fls W fv L U) → (∀ W, Lw B p p w W → Byt W bv b) → b.length ≤ 1000000 → PtI w B p s oa oc fa fc w → Ok3 s → f b s = some t →
    Calls Tryz.prog 41 #[fv, .slice oa s.whole.length oc, bv, .int .i64 (deep : Int), .slice fa s.found.length fc, .pointer (some ⟨p, 0, none⟩)] w (PtQ w B p t)

set_option maxRecDepth 100000 in
set_option maxHeartbeats 16000000 in
theorem puts_core {L : List Fl} {U : List Value} {fv : Value} {B p : Nat} (hln : L.length ≤ 1000000) (hFb : ∀ x ∈ L, x.2.length ≤ 1000000) {deep : Nat} (hdp : deep ≤ 10) (f : Option (Bs → Kst → Option Kst)) (hsub : ∀ f0, f = some f0 → PutC L U fv B p (deep + 1) f0 ∧ ∀ b s t, f0 b s = some t → Ok3 s → Ok3 t) :
    PutC L U fv B p deep fun b s => foldO (lineO (fileL L) f) (linesA b) s := by
    intro w bv b oa oc fa fc s t hpB hBw hF hb hbl hI hok hput
    have HF := Lib.hid hF
    have HBY := Lib.hid hb
    have IH := Lib.hid hsub
    have hps := PS.start (b := b) (cur := s) (t := t) hput
    obtain ⟨fa0, fc0, rfl⟩ : ∃ a c, fv = .slice a L.length c := by obtain ⟨-, a, c, e, -⟩ := hF w ⟨rfl, rfl, rfl, Nat.le_refl _, fun _ _ _ _ => rfl⟩; exact ⟨a, c, e⟩
    obtain ⟨ba, bc, rfl⟩ : ∃ a c, bv = .slice a b.length c := by obtain ⟨a, c, e, -⟩ := hb w ⟨rfl, rfl, rfl, Nat.le_refl _, fun _ _ _ _ => rfl⟩; exact ⟨a, c, e⟩
    have hd1 : ¬ (10 : Int) < (deep : Int) := by omega
    have HPS := Lib.hid hps
    have HI := Lib.hid hI
    have HOK := Lib.hid hok
    have HB := Lib.hid (And.intro hpB hBw)
    clear hF hb hsub hput hps hI hok hpB hBw
    go_enter Tryz.func41, Tryz.ntmps41
    go_wp2_with fail
    go_loopw [1, 4, 15] (fun o f1 i wr => ∃ (j : Nat) (cur : Kst) (oa : Option Addr) (oc : Nat) (fa : Option Addr) (fc : Nat), j ≤ b.length ∧ i = .int .i64 j ∧ o = .slice oa cur.whole.length oc ∧ f1 = .slice fa cur.found.length fc ∧ Hid (PS (fileL L) f b j cur t) ∧ Hid (Ok3 cur) ∧ Hid (PtI w B p cur oa oc fa fc wr)) (fun _ _ i _ => b.length - (intOf i).toNat)
    case atStart => exact ⟨0, s, oa, oc, fa, fc, Nat.zero_le _, rfl, rfl, rfl, HPS, HOK, HI⟩
    case round =>
      obtain ⟨j, cur, oa, oc, fa, fc, hj, rfl, rfl, rfl, hPS, hOk, hPI⟩ := hrel
      clear HPS HOK HI
      by_cases hlt : j < b.length
      · obtain ⟨m, q, cur', him, hml, hcut, hno, hnl, hline, hnext⟩ := hPS.out.next hlt
        have hby := HBY.out wr hPI.out.low
        obtain ⟨g, off, rfl, hg, hcell⟩ : ∃ g off, ba = some ⟨g, off, none⟩ ∧ g < wr.heap.size ∧ ∀ (j : Nat) x, b[j]? = some x → wr.cell? ⟨g, off + j, none⟩ = some (.int .u8 (x.toNat : Int)) := by
          obtain ⟨a, c, e, -, -, hrow⟩ := hby
          cases e
          rcases hrow with h | h
          · rw [h] at hlt; exact absurd hlt (Nat.not_lt_zero _)
          · exact h
        have HCELL := Lib.hid hcell
        have HNO := Lib.hid hno
        have HNL := Lib.hid hnl
        have HLINE := Lib.hid hline
        have HNEXT := Lib.hid hnext
        have HCUT := Lib.hid hcut
        have HBYW := Lib.hid hby
        have hl1 : (j : Int) < (b.length : Int) := by omega
        clear hcell hno hnl hline hnext hcut hby hPS
        go_wp2_with fail
        go_loop [16] (fun e => ∃ k : Nat, j ≤ k ∧ k ≤ m ∧ e = .int .i64 k) (fun e => m - (intOf e).toNat)
        case atStart => exact ⟨j, Nat.le_refl _, him, rfl⟩
        case round =>
          obtain ⟨k, hjk, hkm, rfl⟩ := hrel
          by_cases hk : k < m
          · obtain ⟨x, hx⟩ : ∃ x, b[k]? = some x := ⟨_, List.getElem?_eq_getElem (by omega)⟩
            have hc := HCELL.out k x hx
            have hne := HNO.out k x hjk hk hx
            have e1 : ((x.toNat : Int) == 10) = false := by_n (d := 10) hne
            have hi0 : (0 : Int) ≤ (k : Int) := by omega
            have hi1 : (k : Int) < (b.length : Int) := by omega
            clear hx hne
            go_wp2_with fail
            go_round
            case rel => exact ⟨k + 1, by omega, by omega, by go_num⟩
            case measure => simp [intOf] <;> omega
          · obtain rfl : k = m := by omega
            have hcv := conv_byt (HBYW.out.cut him hml)
            rw [HCUT.out] at hcv
            have hql : q.length ≤ 9223372036854775807 := by rw [← HCUT.out, List.length_drop, List.length_take]; omega
            have ci := include_c q hql wr
            have hb1 : (j : Int) ≤ (k : Int) := by omega
            have hb2 : (k : Int) ≤ (b.length : Int) := by omega
            have hb3 : (0 : Int) ≤ (j : Int) := by omega
            have hcb : b.length ≤ bc := by
              obtain ⟨_, c, e, h1, -, -⟩ := HBYW.out
              cases e
              exact h1
            have hne : ¬ bc = j := by omega
            obtain ⟨nx, hnx⟩ : ∃ nx, min (k + 1) b.length = nx := ⟨_, rfl⟩
            have hmn : min ((k : Int) + 1) (b.length : Int) = (nx : Int) := by omega
            have hjn : j < nx ∧ nx ≤ b.length := by omega
            have HLN := Lib.hid (by have := HLINE.out; rw [hnx] at this; exact this : lineR (fileL L) f q ((b.take nx).drop j) cur = some cur')
            have HNX := Lib.hid (by have := HNEXT.out; rw [hnx] at this; exact this : PS (fileL L) f b nx cur' t)
            clear hnx HLINE HNEXT
            have hBr : B ≤ wr.heap.size := Nat.le_trans HB.out.2 hPI.out.low.size
            by_cases hkl : k < b.length
            · have hc : wr.cell? ⟨g, off + k, none⟩ = some (.int .u8 10) := HCELL.out k 10 (HNL.out hkl)
              have hi0 : (0 : Int) ≤ (k : Int) := by omega
              have hi1 : (k : Int) < (b.length : Int) := by omega
              go_wp2_with fail
              refine ci.mono ?_
              rintro e wx ⟨rfl, rfl⟩
              clear ci hcv hc
              cases hcq : cutP q with
              | none =>
                have hl0 := HLN.out
                unfold lineR growO at hl0
                rw [hcq] at hl0
                dsimp only at hl0
                obtain ⟨l, hl⟩ : ∃ l, (b.take nx).drop j = l := ⟨_, rfl⟩
                have hby2 := HBYW.out.cut (i := j) (j := nx) (by omega) (by omega)
                have hll : l.length = nx - j := by rw [← hl, List.length_drop, List.length_take]; omega
                rw [hl] at hl0 hby2
                rw [← hll] at hby2
                split at hl0
                · rename_i hle
                  obtain rfl : (⟨cur.whole ++ l, cur.n, cur.found⟩ : Kst) = cur' := by cases hl0; rfl
                  obtain ⟨a1, c1, W1, hrun, hI1, -⟩ := pti_grow hPI.out hBr hby2 (by omega)
                  rw [hll] at hrun
                  have HRUN := Lib.hid hrun
                  have HI1 := Lib.hid hI1
                  have HOK1 : Hid (Ok3 ⟨cur.whole ++ l, cur.n, cur.found⟩) := Lib.hid ⟨by rw [List.length_append]; exact hle, hOk.out.2.1, hOk.out.2.2⟩
                  have hd2 : ¬ (65536 : Int) < ((cur.whole ++ l).length : Int) := by rw [List.length_append]; omega
                  have hj1 : (j : Int) ≤ (nx : Int) := by omega
                  have hj2 : (nx : Int) ≤ (b.length : Int) := by omega
                  generalize cur.whole ++ l = wl at *
                  clear hl0 hl hby2 hll hle hrun hI1 HLN
                  go_wp2_with (at_builtin; refine wpList_run rfl (.tmp 58) (.tmp 62) rfl rfl rfl HRUN.out ?_)
                  go_roundw
                  case rel => exact ⟨nx, ⟨wl, cur.n, cur.found⟩, a1, c1, fa, fc, by omega, rfl, rfl, rfl, HNX, HOK1, HI1⟩
                  case measure => simp [intOf] <;> omega
                · cases hl0
              | some nm =>
                have hl0 := HLN.out
                unfold lineR at hl0
                rw [hcq] at hl0
                dsimp only at hl0
                cases hf : f with
                | none => rw [hf] at hl0; cases hl0
                | some f0 =>
                  rw [hf] at hl0
                  dsimp only at hl0
                  unfold inclO at hl0
                  split at hl0
                  · rename_i hc2
                    cases hFo : fileL L nm with
                    | none => rw [hFo] at hl0; cases hl0
                    | some own =>
                      rw [hFo] at hl0
                      have hput : f0 own ⟨cur.whole, cur.n + 1, fndO cur.found nm⟩ = some cur' := hl0
                      have HSUB := Lib.hid (IH.out f0 hf)
                      have HPUT := Lib.hid hput
                      have HC2 := Lib.hid hc2
                      have cf := refFindS_c (HF.out wr hPI.out.low) hln hFo
                      have hnl : nm.length ≤ 9223372036854775807 := by have := (cutP_sub hcq).2; omega
                      have hn1000 : cur.n + 1 ≤ 1000 := hc2.1
                      clear hput hl0 HLN hf hc2
                      go_wp2_with fail
                      refine cf.mono ?_
                      rintro e w1 ⟨⟨kk, u, rfl, hLk, hUk⟩, rfl⟩
                      have HLK := Lib.hid hLk
                      have HOWN : Hid (∀ W, Lw B p p w W → Byt W u own) := Lib.hid fun W hW => by
                        obtain ⟨g2, off2, c2, ua, uc, -, -, hU2, -, -, hbu⟩ := (HF.out W hW).at hLk
                        have he : u = _ := Option.some.inj (hUk.symm.trans hU2)
                        rw [he]
                        exact hbu
                      have cm : wr.cell? ⟨p, 0, none⟩ = some (.int .i64 (cur.n : Int)) := cell_of_heap hPI.out.many
                      have cz : wr.frozen? ⟨p, 0, none⟩ = false := by simp [World.frozen?, hPI.out.many]
                      have hI2 := pti_more hPI.out HB.out.1
                      obtain ⟨W2, hW2⟩ : ∃ W2, wr.setCell ⟨p, 0, none⟩ (.int .i64 ((cur.n : Int) + 1)) = W2 := ⟨_, rfl⟩
                      rw [hW2] at hI2
                      have HI2 := Lib.hid hI2
                      have cr := refRight_c nm hnl W2
                      clear cf hLk hUk hI2 hFo
                      go_wp2_with fail
                      refine cr.mono ?_
                      rintro e w3 ⟨rfl, hb3⟩
                      have HI3 := Lib.hid (pti_below HI2.out (Nat.le_trans HB.out.2 HI2.out.low.size) hb3)
                      have hrt := HC2.out.2
                      have cm3 : w3.cell? ⟨p, 0, none⟩ = some (.int .i64 ((cur.n + 1 : Nat) : Int)) := cell_of_heap HI3.out.many
                      have hd5 : ¬ (1000 : Int) < ((cur.n + 1 : Nat) : Int) := by omega
                      have cin := in_c nm (owns_strs HI3.out.fnd) (by have := hOk.out.2; show cur.found.length ≤ _; omega)
                      obtain ⟨fin, hfin⟩ : ∃ fin, cur.found.contains nm = fin := ⟨_, rfl⟩
                      rw [hfin] at cin
                      rw [hrt]
                      clear cr hb3 hW2 cm cz
                      go_wp2_with fail
                      refine cin.mono ?_
                      rintro e w4 ⟨rfl, hb4⟩
                      have HI4 := Lib.hid (pti_below HI3.out (Nat.le_trans HB.out.2 HI3.out.low.size) hb4)
                      clear cin hb4 cm3
                      cases fin with
                      | true =>
                        have HFN : Hid (fndO cur.found nm = cur.found) := Lib.hid (by unfold fndO; rw [if_pos hfin])
                        clear hfin
                        have hk5 : Ok3 ⟨cur.whole, cur.n + 1, cur.found⟩ := by
                          refine ⟨hOk.out.1, HC2.out.1, ?_⟩
                          have h6 := fndO_len cur.found nm
                          have h7 := hOk.out.2.2
                          rw [HFN.out] at h6
                          show _ ≤ cur.n + 1
                          exact Nat.le_trans h6 (by omega)
                        have hput := HPUT.out
                        rw [HFN.out] at hput
                        have crec := HSUB.out.1 w4 u own oa oc fa fc ⟨cur.whole, cur.n + 1, cur.found⟩ cur' HB.out.1 (Nat.le_trans HB.out.2 HI4.out.low.size) (fun W hW => HF.out W (HI4.out.low.trans hW)) (fun W hW => HOWN.out W (HI4.out.low.trans hW)) (hFb _ (List.mem_of_getElem? HLK.out)) ⟨HI4.out.out, HI4.out.fnd, HI4.out.many, ⟨rfl, rfl, rfl, Nat.le_refl _, fun _ _ _ _ => rfl⟩⟩ hk5 hput
                        have HOK6 := Lib.hid (HSUB.out.2 _ _ _ hput hk5)
                        have hcast : ((deep + 1 : Nat) : Int) = (deep : Int) + 1 := by omega
                        rw [hcast] at crec
                        clear hput hk5 hcast
                        go_wp2_with fail
                        refine crec.mono ?_
                        rintro e w6 ⟨oa2, oc2, fa2, fc2, rfl, ho6, hf6, hm6, hlow6⟩
                        have HI6 : Hid (PtI w B p cur' oa2 oc2 fa2 fc2 w6) := Lib.hid ⟨ho6, hf6, hm6, HI4.out.low.trans hlow6⟩
                        clear crec ho6 hf6 hm6 hlow6
                        go_wp2_with fail
                        go_roundw
                        case rel => exact ⟨nx, cur', oa2, oc2, fa2, fc2, by omega, rfl, rfl, rfl, HNX, HOK6, HI6⟩
                        case measure => simp [intOf] <;> omega
                      | false =>
                        obtain ⟨F2, hF2⟩ : ∃ F2, cur.found ++ [nm] = F2 := ⟨_, rfl⟩
                        have HFN : Hid (fndO cur.found nm = F2) := Lib.hid (by rw [← hF2]; unfold fndO; rw [if_neg]; rw [hfin]; exact Bool.false_ne_true)
                        obtain ⟨a1, c1, W1, hrun, hI5, -⟩ := pti_push HI4.out (Nat.le_trans HB.out.2 HI4.out.low.size) nm (by have := hOk.out.2; show cur.found.length ≤ _; omega)
                        rw [hF2] at hrun hI5
                        have HRUN := Lib.hid hrun
                        have HI5 := Lib.hid hI5
                        clear hfin hrun hI5 hF2
                        go_wp2_with (at_builtin; refine wpList_run rfl (.tmp 97) (.tmp 99) rfl rfl rfl HRUN.out ?_)
                        have hk5 : Ok3 ⟨cur.whole, cur.n + 1, F2⟩ := by
                          refine ⟨hOk.out.1, HC2.out.1, ?_⟩
                          have h6 := fndO_len cur.found nm
                          have h7 := hOk.out.2.2
                          rw [HFN.out] at h6
                          show _ ≤ cur.n + 1
                          exact Nat.le_trans h6 (by omega)
                        have hput := HPUT.out
                        rw [HFN.out] at hput
                        have crec := HSUB.out.1 W1 u own oa oc a1 c1 ⟨cur.whole, cur.n + 1, F2⟩ cur' HB.out.1 (Nat.le_trans HB.out.2 HI5.out.low.size) (fun W hW => HF.out W (HI5.out.low.trans hW)) (fun W hW => HOWN.out W (HI5.out.low.trans hW)) (hFb _ (List.mem_of_getElem? HLK.out)) ⟨HI5.out.out, HI5.out.fnd, HI5.out.many, ⟨rfl, rfl, rfl, Nat.le_refl _, fun _ _ _ _ => rfl⟩⟩ hk5 hput
                        have HOK6 := Lib.hid (HSUB.out.2 _ _ _ hput hk5)
                        have hcast : ((deep + 1 : Nat) : Int) = (deep : Int) + 1 := by omega
                        rw [hcast] at crec
                        clear hput hk5 hcast
                        go_wp2_with fail
                        refine crec.mono ?_
                        rintro e w6 ⟨oa2, oc2, fa2, fc2, rfl, ho6, hf6, hm6, hlow6⟩
                        have HI6 : Hid (PtI w B p cur' oa2 oc2 fa2 fc2 w6) := Lib.hid ⟨ho6, hf6, hm6, HI5.out.low.trans hlow6⟩
                        clear crec ho6 hf6 hm6 hlow6
                        go_wp2_with fail
                        go_roundw
                        case rel => exact ⟨nx, cur', oa2, oc2, fa2, fc2, by omega, rfl, rfl, rfl, HNX, HOK6, HI6⟩
                        case measure => simp [intOf] <;> omega
                  · cases hl0
            · obtain rfl : k = b.length := by omega
              go_wp2_with fail
              refine ci.mono ?_
              rintro e wx ⟨rfl, rfl⟩
              clear ci hcv
              cases hcq : cutP q with
              | none =>
                have hl0 := HLN.out
                unfold lineR growO at hl0
                rw [hcq] at hl0
                dsimp only at hl0
                obtain ⟨l, hl⟩ : ∃ l, (b.take nx).drop j = l := ⟨_, rfl⟩
                have hby2 := HBYW.out.cut (i := j) (j := nx) (by omega) (by omega)
                have hll : l.length = nx - j := by rw [← hl, List.length_drop, List.length_take]; omega
                rw [hl] at hl0 hby2
                rw [← hll] at hby2
                split at hl0
                · rename_i hle
                  obtain rfl : (⟨cur.whole ++ l, cur.n, cur.found⟩ : Kst) = cur' := by cases hl0; rfl
                  obtain ⟨a1, c1, W1, hrun, hI1, -⟩ := pti_grow hPI.out hBr hby2 (by omega)
                  rw [hll] at hrun
                  have HRUN := Lib.hid hrun
                  have HI1 := Lib.hid hI1
                  have HOK1 : Hid (Ok3 ⟨cur.whole ++ l, cur.n, cur.found⟩) := Lib.hid ⟨by rw [List.length_append]; exact hle, hOk.out.2.1, hOk.out.2.2⟩
                  have hd2 : ¬ (65536 : Int) < ((cur.whole ++ l).length : Int) := by rw [List.length_append]; omega
                  have hj1 : (j : Int) ≤ (nx : Int) := by omega
                  have hj2 : (nx : Int) ≤ (b.length : Int) := by omega
                  generalize cur.whole ++ l = wl at *
                  clear hl0 hl hby2 hll hle hrun hI1 HLN
                  go_wp2_with (at_builtin; refine wpList_run rfl (.tmp 58) (.tmp 62) rfl rfl rfl HRUN.out ?_)
                  go_roundw
                  case rel => exact ⟨nx, ⟨wl, cur.n, cur.found⟩, a1, c1, fa, fc, by omega, rfl, rfl, rfl, HNX, HOK1, HI1⟩
                  case measure => simp [intOf] <;> omega
                · cases hl0
              | some nm =>
                have hl0 := HLN.out
                unfold lineR at hl0
                rw [hcq] at hl0
                dsimp only at hl0
                cases hf : f with
                | none => rw [hf] at hl0; cases hl0
                | some f0 =>
                  rw [hf] at hl0
                  dsimp only at hl0
                  unfold inclO at hl0
                  split at hl0
                  · rename_i hc2
                    cases hFo : fileL L nm with
                    | none => rw [hFo] at hl0; cases hl0
                    | some own =>
                      rw [hFo] at hl0
                      have hput : f0 own ⟨cur.whole, cur.n + 1, fndO cur.found nm⟩ = some cur' := hl0
                      have HSUB := Lib.hid (IH.out f0 hf)
                      have HPUT := Lib.hid hput
                      have HC2 := Lib.hid hc2
                      have cf := refFindS_c (HF.out wr hPI.out.low) hln hFo
                      have hnl : nm.length ≤ 9223372036854775807 := by have := (cutP_sub hcq).2; omega
                      have hn1000 : cur.n + 1 ≤ 1000 := hc2.1
                      clear hput hl0 HLN hf hc2
                      go_wp2_with fail
                      refine cf.mono ?_
                      rintro e w1 ⟨⟨kk, u, rfl, hLk, hUk⟩, rfl⟩
                      have HLK := Lib.hid hLk
                      have HOWN : Hid (∀ W, Lw B p p w W → Byt W u own) := Lib.hid fun W hW => by
                        obtain ⟨g2, off2, c2, ua, uc, -, -, hU2, -, -, hbu⟩ := (HF.out W hW).at hLk
                        have he : u = _ := Option.some.inj (hUk.symm.trans hU2)
                        rw [he]
                        exact hbu
                      have cm : wr.cell? ⟨p, 0, none⟩ = some (.int .i64 (cur.n : Int)) := cell_of_heap hPI.out.many
                      have cz : wr.frozen? ⟨p, 0, none⟩ = false := by simp [World.frozen?, hPI.out.many]
                      have hI2 := pti_more hPI.out HB.out.1
                      obtain ⟨W2, hW2⟩ : ∃ W2, wr.setCell ⟨p, 0, none⟩ (.int .i64 ((cur.n : Int) + 1)) = W2 := ⟨_, rfl⟩
                      rw [hW2] at hI2
                      have HI2 := Lib.hid hI2
                      have cr := refRight_c nm hnl W2
                      clear cf hLk hUk hI2 hFo
                      go_wp2_with fail
                      refine cr.mono ?_
                      rintro e w3 ⟨rfl, hb3⟩
                      have HI3 := Lib.hid (pti_below HI2.out (Nat.le_trans HB.out.2 HI2.out.low.size) hb3)
                      have hrt := HC2.out.2
                      have cm3 : w3.cell? ⟨p, 0, none⟩ = some (.int .i64 ((cur.n + 1 : Nat) : Int)) := cell_of_heap HI3.out.many
                      have hd5 : ¬ (1000 : Int) < ((cur.n + 1 : Nat) : Int) := by omega
                      have cin := in_c nm (owns_strs HI3.out.fnd) (by have := hOk.out.2; show cur.found.length ≤ _; omega)
                      obtain ⟨fin, hfin⟩ : ∃ fin, cur.found.contains nm = fin := ⟨_, rfl⟩
                      rw [hfin] at cin
                      rw [hrt]
                      clear cr hb3 hW2 cm cz
                      go_wp2_with fail
                      refine cin.mono ?_
                      rintro e w4 ⟨rfl, hb4⟩
                      have HI4 := Lib.hid (pti_below HI3.out (Nat.le_trans HB.out.2 HI3.out.low.size) hb4)
                      clear cin hb4 cm3
                      cases fin with
                      | true =>
                        have HFN : Hid (fndO cur.found nm = cur.found) := Lib.hid (by unfold fndO; rw [if_pos hfin])
                        clear hfin
                        have hk5 : Ok3 ⟨cur.whole, cur.n + 1, cur.found⟩ := by
                          refine ⟨hOk.out.1, HC2.out.1, ?_⟩
                          have h6 := fndO_len cur.found nm
                          have h7 := hOk.out.2.2
                          rw [HFN.out] at h6
                          show _ ≤ cur.n + 1
                          exact Nat.le_trans h6 (by omega)
                        have hput := HPUT.out
                        rw [HFN.out] at hput
                        have crec := HSUB.out.1 w4 u own oa oc fa fc ⟨cur.whole, cur.n + 1, cur.found⟩ cur' HB.out.1 (Nat.le_trans HB.out.2 HI4.out.low.size) (fun W hW => HF.out W (HI4.out.low.trans hW)) (fun W hW => HOWN.out W (HI4.out.low.trans hW)) (hFb _ (List.mem_of_getElem? HLK.out)) ⟨HI4.out.out, HI4.out.fnd, HI4.out.many, ⟨rfl, rfl, rfl, Nat.le_refl _, fun _ _ _ _ => rfl⟩⟩ hk5 hput
                        have HOK6 := Lib.hid (HSUB.out.2 _ _ _ hput hk5)
                        have hcast : ((deep + 1 : Nat) : Int) = (deep : Int) + 1 := by omega
                        rw [hcast] at crec
                        clear hput hk5 hcast
                        go_wp2_with fail
                        refine crec.mono ?_
                        rintro e w6 ⟨oa2, oc2, fa2, fc2, rfl, ho6, hf6, hm6, hlow6⟩
                        have HI6 : Hid (PtI w B p cur' oa2 oc2 fa2 fc2 w6) := Lib.hid ⟨ho6, hf6, hm6, HI4.out.low.trans hlow6⟩
                        clear crec ho6 hf6 hm6 hlow6
                        go_wp2_with fail
                        go_roundw
                        case rel => exact ⟨nx, cur', oa2, oc2, fa2, fc2, by omega, rfl, rfl, rfl, HNX, HOK6, HI6⟩
                        case measure => simp [intOf] <;> omega
                      | false =>
                        obtain ⟨F2, hF2⟩ : ∃ F2, cur.found ++ [nm] = F2 := ⟨_, rfl⟩
                        have HFN : Hid (fndO cur.found nm = F2) := Lib.hid (by rw [← hF2]; unfold fndO; rw [if_neg]; rw [hfin]; exact Bool.false_ne_true)
                        obtain ⟨a1, c1, W1, hrun, hI5, -⟩ := pti_push HI4.out (Nat.le_trans HB.out.2 HI4.out.low.size) nm (by have := hOk.out.2; show cur.found.length ≤ _; omega)
                        rw [hF2] at hrun hI5
                        have HRUN := Lib.hid hrun
                        have HI5 := Lib.hid hI5
                        clear hfin hrun hI5 hF2
                        go_wp2_with (at_builtin; refine wpList_run rfl (.tmp 97) (.tmp 99) rfl rfl rfl HRUN.out ?_)
                        have hk5 : Ok3 ⟨cur.whole, cur.n + 1, F2⟩ := by
                          refine ⟨hOk.out.1, HC2.out.1, ?_⟩
                          have h6 := fndO_len cur.found nm
                          have h7 := hOk.out.2.2
                          rw [HFN.out] at h6
                          show _ ≤ cur.n + 1
                          exact Nat.le_trans h6 (by omega)
                        have hput := HPUT.out
                        rw [HFN.out] at hput
                        have crec := HSUB.out.1 W1 u own oa oc a1 c1 ⟨cur.whole, cur.n + 1, F2⟩ cur' HB.out.1 (Nat.le_trans HB.out.2 HI5.out.low.size) (fun W hW => HF.out W (HI5.out.low.trans hW)) (fun W hW => HOWN.out W (HI5.out.low.trans hW)) (hFb _ (List.mem_of_getElem? HLK.out)) ⟨HI5.out.out, HI5.out.fnd, HI5.out.many, ⟨rfl, rfl, rfl, Nat.le_refl _, fun _ _ _ _ => rfl⟩⟩ hk5 hput
                        have HOK6 := Lib.hid (HSUB.out.2 _ _ _ hput hk5)
                        have hcast : ((deep + 1 : Nat) : Int) = (deep : Int) + 1 := by omega
                        rw [hcast] at crec
                        clear hput hk5 hcast
                        go_wp2_with fail
                        refine crec.mono ?_
                        rintro e w6 ⟨oa2, oc2, fa2, fc2, rfl, ho6, hf6, hm6, hlow6⟩
                        have HI6 : Hid (PtI w B p cur' oa2 oc2 fa2 fc2 w6) := Lib.hid ⟨ho6, hf6, hm6, HI5.out.low.trans hlow6⟩
                        clear crec ho6 hf6 hm6 hlow6
                        go_wp2_with fail
                        go_roundw
                        case rel => exact ⟨nx, cur', oa2, oc2, fa2, fc2, by omega, rfl, rfl, rfl, HNX, HOK6, HI6⟩
                        case measure => simp [intOf] <;> omega
                  · cases hl0
      · obtain rfl : j = b.length := by omega
        have HE : Hid (cur = t) := Lib.hid (hPS.out.2 (by omega))
        go_wp2_with fail
        go_ret3
        rw [HE.out]
        exact ⟨oa, oc, fa, fc, rfl, by rw [← HE.out]; exact hPI.out.out, by rw [← HE.out]; exact hPI.out.fnd, by rw [← HE.out]; exact hPI.out.many, hPI.out.low⟩

theorem puts_all {L : List Fl} {U : List Value} {fv : Value} {B p : Nat} (hln : L.length ≤ 1000000) (hFb : ∀ x ∈ L, x.2.length ≤ 1000000) : ∀ r, r ≤ 10 → PutC L U fv B p (10 - r) (putO (fileL L) r)
  | 0, _ => puts_core hln hFb (Nat.le_refl 10) none (fun _ e => by cases e)
  | r + 1, h => puts_core hln hFb (Nat.sub_le _ _) (some (putO (fileL L) r)) fun f0 e => by
    cases e
    refine ⟨?_, fun b s t h hs => putO_ok (fileL L) r b s t h hs⟩
    rw [show 10 - (r + 1) + 1 = 10 - r by omega]
    exact puts_all hln hFb r (by omega)
end Go.Proofs.YtgledabcfonbeaaGreatDoor.Df
