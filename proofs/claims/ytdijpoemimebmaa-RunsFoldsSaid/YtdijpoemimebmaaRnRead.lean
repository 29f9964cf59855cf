/-
  runs.Read, WALKED: its closures.
-/
import Derived.Test.YtdijpoemimebmaaRnWrite3
namespace Go.Proofs.Ytdijpoemimebmaa.Rn
open Go.RowKit
open Go.Proofs.Ytdijpoemimebmaa.Cr
open Go.Proofs.Ytdijpoemimebmaa.Pk (ret_eq val_eq)

def timeF (b4 b5 : Nat) : Value := .func (.func 40) #[] #[.pointer (some ⟨b4, 0, Option.none⟩), .pointer (some ⟨b5, 0, Option.none⟩)]

/-- a reading under way -/
structure RdS (W : World) (p g b4 b5 b6 : Nat) (s : St) : Prop where
  rd : Pk.Rd W p g s.l s.bad
  h4 : W.heap[b4]? = some (.cells #[.pointer (some ⟨p, 0, Option.none⟩)] 76 (0, 0))
  h5 : W.heap[b5]? = some (.cells #[.bool s.late] 4 (0, 0))
  h6 : W.heap[b6]? = some (.cells #[timeF b4 b5] 79 (0, 0))
  lt : s.Lt
  len : s.l.length ≤ 1000000
  g5 : g ≠ b5

theorem rdP {W : World} {p g b4 b5 b6 : Nat} {s : St} (h : RdS W p g b4 b5 b6 s) : ∃ v, W.heap[p]? = some (.cells #[v, .bool s.bad] 100 (0, 0)) := by
  obtain ⟨_, _, v, h, _⟩ := h.rd
  exact ⟨v, h⟩

theorem RdS.p4 {W : World} {p g b4 b5 b6 : Nat} {s : St} (h : RdS W p g b4 b5 b6 s) : b4 ≠ p := by
  obtain ⟨v, hp⟩ := rdP h
  exact ne_type h.h4 hp (by decide)
theorem RdS.p5 {W : World} {p g b4 b5 b6 : Nat} {s : St} (h : RdS W p g b4 b5 b6 s) : b5 ≠ p := by
  obtain ⟨v, hp⟩ := rdP h
  exact ne_type h.h5 hp (by decide)
theorem RdS.p6 {W : World} {p g b4 b5 b6 : Nat} {s : St} (h : RdS W p g b4 b5 b6 s) : b6 ≠ p := by
  obtain ⟨v, hp⟩ := rdP h
  exact ne_type h.h6 hp (by decide)

theorem only_off {p : Nat} {w w' : World} {C : Nat → Prop} (h : Pk.Only p w w') (hC : C p) : Off C w w' :=
  ⟨h.os, h.tape, h.output, h.size, fun k hk hc => h.block k hk fun e => hc (e ▸ hC)⟩

/-- behind a call that turned the reader alone -/
theorem RdS.only {W W' : World} {p g b4 b5 b6 : Nat} {s s' : St} (h : RdS W p g b4 b5 b6 s) (hr : Pk.Rd W' p g s'.l s'.bad) (ho : Pk.Only p W W') (hl : s'.late = s.late) (hlt : s'.Lt) (hlen : s'.l.length ≤ 1000000) : RdS W' p g b4 b5 b6 s' :=
  ⟨hr, (ho.block _ (lt_some h.h4) h.p4).trans h.h4, by rw [hl]; exact (ho.block _ (lt_some h.h5) h.p5).trans h.h5, (ho.block _ (lt_some h.h6) h.p6).trans h.h6, hlt, hlen, h.g5⟩

theorem RdS.drew {W : World} {p g b4 b5 b6 : Nat} {s : St} (h : RdS W p g b4 b5 b6 s) : RdS W.drew p g b4 b5 b6 s := ⟨h.rd.drewN 1, h.h4, h.h5, h.h6, h.lt, h.len, h.g5⟩

theorem time_len {s : St} (h : s.l.length ≤ 1000000) : s.time.l.length ≤ 1000000 := Nat.le_trans (Pk.rdL_le 8 s.l) h
theorem text_len {s : St} (h : s.l.length ≤ 1000000) : s.text.l.length ≤ 1000000 := Nat.le_trans (Pk.rdL_le _ _) (Nat.le_trans (Pk.rdL_le 2 s.l) h)
theorem count_len {s : St} (h : s.l.length ≤ 1000000) : s.count.l.length ≤ 1000000 := Nat.le_trans (Pk.rdL_le 4 s.l) h

theorem text_c {W : World} {p g b4 b5 b6 : Nat} {s : St} (h : RdS W p g b4 b5 b6 s) :
    Calls Try.prog 45 #[.pointer (some ⟨p, 0, Option.none⟩)] W fun e W' => e = .returned (.string s.tx) ∧ RdS W' p g b4 b5 b6 s.text ∧ Pk.Only p W W' :=
  (Pk.textr_any p g s.l s.bad W h.rd h.len h.lt).mono fun _ _ ⟨h1, h2, h3⟩ => ⟨h1, h.only h2 h3 rfl h.lt.text (text_len h.len), h3⟩

theorem count_c {W : World} {p g b4 b5 b6 : Nat} {s : St} (h : RdS W p g b4 b5 b6 s) :
    Calls Try.prog 43 #[.pointer (some ⟨p, 0, Option.none⟩)] W fun e W' => e = .returned (.int .u32 (s.ct : Int)) ∧ RdS W' p g b4 b5 b6 s.count ∧ Pk.Only p W W' :=
  (Pk.u32r_any p g s.l s.bad W h.rd h.len h.lt).mono fun _ _ ⟨h1, h2, h3⟩ => ⟨h1, h.only h2 h3 rfl h.lt.count (count_len h.len), h3⟩

/-- a time, as an int holds it -/
def tmI (n : Nat) : Int := wrap64 n

theorem time_end {W W1 : World} {p g b4 b5 b6 : Nat} {s : St} (h : RdS W p g b4 b5 b6 s) (hr : Pk.Rd W1 p g s.time.l s.time.bad) (ho : Pk.Only p W W1) {b : Bool} (hb : b = s.time.late) :
    RdS (W1.setCell ⟨b5, 0, Option.none⟩ (.bool b)) p g b4 b5 b6 s.time ∧ Off (fun k => k = p ∨ k = b5) W (W1.setCell ⟨b5, 0, Option.none⟩ (.bool b)) := by
  subst hb
  have h4 := (ho.block _ (lt_some h.h4) h.p4).trans h.h4
  have h5 := (ho.block _ (lt_some h.h5) h.p5).trans h.h5
  have h6 := (ho.block _ (lt_some h.h6) h.p6).trans h.h6
  have hg := h.g5
  refine ⟨⟨hr.only ((Pk.Only.refl b5 W1).setCell 0 _) h.p5.symm hg, (set_other (ne_type h4 h5 (by decide))).trans h4, set_one h5, (set_other (ne_type h6 h5 (by decide))).trans h6, h.lt.time, time_len h.len, h.g5⟩, (only_off ho (.inl rfl)).trans (off_set (.inr rfl))⟩

set_option maxHeartbeats 1000000 in
theorem time_c {W : World} {p g b4 b5 b6 : Nat} {s : St} (h : RdS W p g b4 b5 b6 s) :
    Calls Try.prog 40 #[.pointer (some ⟨b4, 0, Option.none⟩), .pointer (some ⟨b5, 0, Option.none⟩)] W fun e W' => e = .returned (.int .i64 (tmI s.tm)) ∧ RdS W' p g b4 b5 b6 s.time ∧ Off (fun k => k = p ∨ k = b5) W W' := by
  have hu := Pk.u64r_any p g s.l s.bad W h.rd h.len h.lt
  have hlt := rdN_lt8 h.lt
  obtain ⟨c4, _⟩ := one_cell h.h4
  have HH := Lib.hid h
  have hl4 := lt_some h.h4
  have hl5 := lt_some h.h5
  have hp4 := h.p4
  have hp5 := h.p5
  have h5 := Lib.hid h.h5
  have e1 : s.time.late = (s.late || lateB (Pk.rdN 8 s.l)) := rfl
  have e2 : s.tm = Pk.rdN 8 s.l := rfl
  have E1 := Lib.hid e1
  have E2 := Lib.hid e2
  clear h e1 e2
  go_enter Try.func40, Try.ntmps40
  go_wp2_with fail
  refine hu.mono ?_
  rintro e W1 ⟨rfl, hr, ho⟩
  obtain ⟨d5, f5⟩ := one_cell ((ho.block _ hl5 hp5).trans h5.out)
  have HR := Lib.hid hr
  have HO := Lib.hid ho
  clear hr ho hu c4
  generalize hn : Pk.rdN 8 s.l = n at *
  cases hla : s.late with
  | true =>
    rw [hla] at d5
    have HL := Lib.hid hla
    have HN := Lib.hid hn
    clear hla hn
    go_wp2_with fail
    go_ret
    exact ⟨ret_eq (by unfold tmI; rw [E2.out]), time_end HH.out HR.out HO.out (by rw [E1.out, HL.out]; rfl)⟩
  | false =>
    rw [hla] at d5
    have HL := Lib.hid hla
    have HN := Lib.hid hn
    clear hla hn
    by_cases hb : n < 4611686018427387904
    · have h1 : ¬ (4611686018427387904 : Int) ≤ (n : Int) := by omega
      have hd : decide ((4611686018427387904 : Int) ≤ (n : Int)) = false := decide_eq_false h1
      have hlb : lateB n = false := decide_eq_false (by omega)
      have hti : (n : Int) = tmI n := (IntWalk.wrap64_in (n : Int) (by omega)).symm
      have HLB := Lib.hid hlb
      have HTI := Lib.hid hti
      clear hlb hti
      go_wp2_with fail
      go_ret
      exact ⟨ret_eq (by rw [E2.out]; exact HTI.out), time_end HH.out HR.out HO.out (by rw [E1.out, HL.out, HLB.out]; rfl)⟩
    · have h1 : (4611686018427387904 : Int) ≤ (n : Int) := by omega
      have hd : decide ((4611686018427387904 : Int) ≤ (n : Int)) = true := decide_eq_true h1
      have hlb : lateB n = true := decide_eq_true (by omega)
      have HLB := Lib.hid hlb
      clear hlb
      go_wp2_with fail
      go_ret
      exact ⟨ret_eq (by rw [E2.out]; rfl), time_end HH.out HR.out HO.out (by rw [E1.out, HL.out, HLB.out]; rfl)⟩

set_option maxHeartbeats 2000000 in
/-- what is done so many times, up to where there is not enough -/
theorem list_c {W : World} {F : Nat} {cs : Array Value} {p g b4 b5 b6 : Nat} {s : St} {I : Nat → World → Prop} {S : Nat → St} (h : RdS W p g b4 b5 b6 s)
    (hrun : ∀ W', Sem.run Try.prog (callFunc F cs) W' = .ok (.enter F cs) W')
    (hI : ∀ j W', I j W' → RdS W' p g b4 b5 b6 (S j)) (h0 : ∀ W', RdS W' p g b4 b5 b6 s.count → Pk.Only p W W' → I 0 W')
    (hd : ∀ j W', j < s.ct → (S j).bad = false → I j W' → Calls Try.prog F cs W' fun e W'' => (∃ z, e = .returned z) ∧ I (j + 1) W'') :
    Calls Try.prog 42 #[.func (.func F) #[] cs, .pointer (some ⟨b4, 0, Option.none⟩)] W fun e W' => (∃ z, e = .returned z) ∧ ∃ j, j ≤ s.ct ∧ I j W' ∧ (j = s.ct ∨ (S j).bad = true) := by
  have hu := count_c h
  have hct : s.ct < 4294967296 := by have := Pk.rdN_lt 4 h.lt; exact Nat.lt_of_lt_of_le this (by decide)
  obtain ⟨c4, _⟩ := one_cell h.h4
  have HI := Lib.hid hI
  have H0 := Lib.hid h0
  have HD := Lib.hid hd
  clear h hI h0 hd
  generalize hn : s.ct = n at *
  have HN := Lib.hid hn
  clear hn
  go_enter Try.func42, Try.ntmps42
  go_wp2_with fail
  refine hu.mono ?_
  rintro e W1 ⟨rfl, hr, ho⟩
  have i0 := Lib.hid (H0.out W1 hr ho)
  clear hr ho hu c4 H0
  go_wp2_with fail
  go_loopw [5] (fun i wr => ∃ j : Nat, j ≤ n ∧ i = .int .u32 j ∧ Hid (I j wr)) (fun i _ => n - (intOf i).toNat)
  case atStart => exact ⟨0, Nat.zero_le _, rfl, i0⟩
  case round =>
    clear i0
    obtain ⟨j, hj, rfl, hIj⟩ := hrel
    have hS := HI.out j wr hIj.out
    have hri := Pk.right_any p g _ _ wr hS.rd
    obtain ⟨c4, _⟩ := one_cell hS.h4
    clear hS
    by_cases hlt : j < n
    · have hdj := Lib.hid (HD.out j wr hlt)
      cases hb : (S j).bad with
      | true =>
        rw [hb] at hri
        have HB := Lib.hid hb
        clear hb hdj
        go_wp2_with fail
        refine hri.mono ?_
        rintro e W2 ⟨rfl, rfl⟩
        go_wp2_with fail
        refine bodyPost_ret (results_none rfl _ _ _) rfl ?_
        exact ⟨⟨_, rfl⟩, j, hj, hIj.out, .inr HB.out⟩
      | false =>
        rw [hb] at hri
        have q := hdj.out hb hIj.out
        clear hb hdj
        go_wp2_with fail
        refine hri.mono ?_
        rintro e W2 ⟨rfl, rfl⟩
        go_wp2_with fail
        refine q.mono ?_
        rintro e W3 ⟨⟨z, rfl⟩, i3⟩
        have I3 := Lib.hid i3
        clear q i3 hri c4 hIj
        go_wp2_with fail
        go_roundw
        case rel => exact ⟨j + 1, by omega, by go_num, I3⟩
        case measure => simp [intOf]; omega
    · obtain rfl : j = n := by omega
      clear hri
      go_wp2_with fail
      go_end0
      exact ⟨⟨_, rfl⟩, j, hj, hIj.out, .inl rfl⟩
end Go.Proofs.Ytdijpoemimebmaa.Rn
