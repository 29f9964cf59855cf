/-
  A COMMAND, READ, whatever it is.
-/
import Derived.Test.YtgledabcfonbeaaGreatDoorCkJ10
import Derived.Deep.DeepCutAuto
namespace Go.Proofs.YtgledabcfonbeaaGreatDoor.Df
open Go.RowKit Go.Maps Go.Proofs.YtgledabcfonbeaaGreatDoor

theorem cell_of_heap {w : World} {p j : Nat} {C : Array Value} {t : TypeId} {fz : Nat × Nat} (h : w.heap[p]? = some (.cells C t fz)) : w.cell? ⟨p, j, none⟩ = C[j]? := by simp [World.cell?, h]
def zOrd : Array Value := #[.bool false, .string ⟨#[]⟩, .slice none 0 0, .slice none 0 0, .string ⟨#[]⟩]
def bOrd (on : Bool) : Array Value := #[.bool on, .string ⟨#[]⟩, .slice none 0 0, .slice none 0 0, .string ⟨#[]⟩]
/-- the row behind the first -/
theorem strs_tail {w : World} {a : Option Addr} {c : Nat} {x : Bs} {K : List Bs} (h : Strs w (.slice a (x :: K).length c) (x :: K)) :
    ∃ g off, a = some ⟨g, off, none⟩ ∧ g < w.heap.size ∧ w.cell? ⟨g, off, none⟩ = some (.string (mk x)) ∧ K.length + 1 ≤ c ∧ (c = 1 → K = []) ∧ (¬ c = 1 → Strs w (.slice (some ⟨g, off + 1, none⟩) K.length (c - 1)) K) := by
  obtain ⟨a', c', e, hc, hrow⟩ := h
  injection e with e1 _ e3
  subst e1
  subst e3
  rcases hrow with h | ⟨g, off, rfl, hg, hcell⟩
  · cases h
  · have hc2 : K.length + 1 ≤ c := hc
    refine ⟨g, off, rfl, hg, hcell 0 x rfl, hc2, fun h => List.eq_nil_of_length_eq_zero (by omega), fun _ => ⟨_, _, rfl, by omega, .inr ⟨g, _, rfl, hg, fun j p hp => ?_⟩⟩⟩
    have := hcell (j + 1) p hp
    rw [Nat.add_assoc, Nat.add_comm 1 j]
    exact this
theorem Strs.set {w : World} {v : Value} {K : List Bs} (h : Strs w v K) {p j : Nat} {x : Value} (hne : v.ownBlock ≠ some p) : Strs (w.setCell ⟨p, j, none⟩ x) v K := by
  obtain ⟨a, c, rfl, hc, hrow⟩ := h
  refine ⟨a, c, rfl, hc, ?_⟩
  rcases hrow with h | ⟨g, off, rfl, hg, hcell⟩
  · exact .inl h
  · have hgp : g ≠ p := fun e => hne (by rw [e]; rfl)
    exact .inr ⟨g, off, rfl, by rw [World.size_setCell]; exact hg, fun j p hp => (cell_of_block (set_other hgp)).trans (hcell j p hp)⟩
theorem five {w : World} {p : Nat} {v0 v1 v2 v3 v4 : Value} (hp : w.heap[p]? = some (.cells zOrd 59 (0, 0))) :
    (((((w.setCell ⟨p, 0, none⟩ v0).setCell ⟨p, 1, none⟩ v1).setCell ⟨p, 2, none⟩ v2).setCell ⟨p, 3, none⟩ v3).setCell ⟨p, 4, none⟩ v4).heap[p]? = some (.cells #[v0, v1, v2, v3, v4] 59 (0, 0)) :=
  set_block (set_block (set_block (set_block (set_block hp))))
/-- a slice of block g, or of none -/
def Ow (v : Value) (g : Nat) : Prop := v.ownBlock = some g ∨ v.ownBlock = none
theorem Ow.ne {v : Value} {g p : Nat} (h : Ow v g) (hp : g ≠ p) : v.ownBlock ≠ some p := fun e => by
  rcases h with h | h
  · exact hp (Option.some.inj (h.symm.trans e))
  · rw [h] at e; cases e
theorem Strs.five {w : World} {v : Value} {K : List Bs} {g p : Nat} {v0 v1 v2 v3 v4 : Value} (h : Strs w v K) (ho : Ow v g) (hp : g ≠ p) :
    Strs (((((w.setCell ⟨p, 0, none⟩ v0).setCell ⟨p, 1, none⟩ v1).setCell ⟨p, 2, none⟩ v2).setCell ⟨p, 3, none⟩ v3).setCell ⟨p, 4, none⟩ v4) v K :=
  ((((h.set (ho.ne hp)).set (ho.ne hp)).set (ho.ne hp)).set (ho.ne hp)).set (ho.ne hp)
theorem bel_five {w W : World} {p : Nat} {v0 v1 v2 v3 v4 : Value} (h : Below w.heap.size w W) (hp : w.heap.size ≤ p) :
    Below w.heap.size w (((((W.setCell ⟨p, 0, none⟩ v0).setCell ⟨p, 1, none⟩ v1).setCell ⟨p, 2, none⟩ v2).setCell ⟨p, 3, none⟩ v3).setCell ⟨p, 4, none⟩ v4) :=
  ((((h.setCell (p := ⟨p, 0, none⟩) hp v0).setCell (p := ⟨p, 1, none⟩) hp v1).setCell (p := ⟨p, 2, none⟩) hp v2).setCell (p := ⟨p, 3, none⟩) hp v3).setCell (p := ⟨p, 4, none⟩) hp v4
theorem strs_nil (w : World) (a : Option Addr) (c : Nat) : Strs w (.slice a 0 c) [] := ⟨a, c, rfl, Nat.zero_le _, .inl rfl⟩
theorem bel_drewN (w : World) (n : Nat) : Below w.heap.size w (w.drewN n) := ⟨rfl, rfl, rfl, Nat.le_refl _, fun _ _ => rfl⟩

theorem cutW_sub (s : Bs) : ∀ K : List Bs, (∀ x ∈ (cutW s K).1, x ∈ K) ∧ (∀ x ∈ (cutW s K).2.1, x ∈ K) ∧ (cutW s K).1.length ≤ K.length ∧ (cutW s K).2.1.length ≤ K.length
  | [] => ⟨fun x h => (by cases h), fun x h => (by cases h), Nat.le_refl _, Nat.le_refl _⟩
  | y :: r => by
    obtain ⟨h1, h2, h3, h4⟩ := cutW_sub s r
    rw [cutW]
    split
    · exact ⟨fun x h => (by cases h), fun x h => List.mem_cons_of_mem _ h, Nat.zero_le _, by simp⟩
    · refine ⟨fun x h => ?_, fun x h => List.mem_cons_of_mem _ (h2 x h), (by simp; exact h3), (by simp; omega)⟩
      rcases List.mem_cons.1 h with rfl | h
      · exact List.mem_cons_self
      · exact List.mem_cons_of_mem _ (h1 x h)

/-- what read makes of a command that has the form -/
def ReA (o : Cmd) (e : Ending) (w' : World) : Prop :=
  ∃ av ov, e = .returned (.agg #[.bool o.once, .string (mk o.verb), av, ov, .string (mk o.dep)]) ∧ Strs w' av o.args ∧ Strs w' ov o.outs
def RaQ (w : World) (o : Option Cmd) (e : Ending) (w' : World) : Prop := Fa o (fun o e => ReA o e w') e ∧ Below w.heap.size w w'
theorem RaQ.fail {w w' : World} {o : Option Cmd} (ho : o = none) (hb : Below w.heap.size w w') : RaQ w o (.panicked pch) w' := by
  subst ho
  exact ⟨rfl, hb⟩

set_option maxRecDepth 100000 in
set_option maxHeartbeats 32000000 in
theorem read_a (s : Bs) (hs : s.length ≤ 900000) (w : World) : Calls Tryz.prog 22 #[.string (mk s)] w (RaQ w (readL (words [] s))) := by
  obtain ⟨w0, hw0⟩ : ∃ W, w.alloc (.cells zOrd 59) = W := ⟨_, rfl⟩
  have hb0 : Below w.heap.size w w0 := by rw [← hw0]; exact below_alloc _ _
  have hp2 : w0.heap[w.heap.size]? = some (.cells zOrd 59 (0, 0)) := by rw [← hw0]; exact heap_alloc_new _ _
  have cw := wordsOf_c s (by omega) w0
  have hwl := words_len s []
  have hws := words_lens s []
  simp only [if_true] at hwl
  have HB0 := Lib.hid hb0
  have HP2 := Lib.hid hp2
  have hw0' : w.alloc (.cells #[.bool false, .string ⟨#[]⟩, .slice none 0 0, .slice none 0 0, .string ⟨#[]⟩] 59) = w0 := hw0
  generalize words [] s = WS at *
  have HWX : Hid (∀ x ∈ WS, x.length ≤ 1000000) := Lib.hid fun x hx => by have := hws x hx; simp at this; omega
  have hWL : WS.length ≤ 1000000 := by omega
  clear hb0 hp2 hw0 hws hwl
  cases WS with
  | nil =>
    go_enter Tryz.func22, Tryz.ntmps22
    go_wp2_with fail
    refine cw.mono ?_
    rintro e w1 ⟨v1, rfl, ho1, hb1⟩
    have hs1 := owns_strs ho1
    obtain ⟨a1, c1, rfl, hc1, -⟩ := id hs1
    have hb2 := below_alloc w1 (.cells #[.bool false, .string ⟨#[]⟩, .slice none 0 0, .slice none 0 0, .string ⟨#[]⟩] 59)
    have ct := cut_c [62] (hs1.below hb2) (by simp)
    have ct2 : Calls Tryz.prog 31 #[.slice a1 0 c1, .string ⟨#[62]⟩] (w1.alloc (.cells #[.bool false, .string ⟨#[]⟩, .slice none 0 0, .slice none 0 0, .string ⟨#[]⟩] 59)) (CuQ (w1.alloc (.cells #[.bool false, .string ⟨#[]⟩, .slice none 0 0, .slice none 0 0, .string ⟨#[]⟩] 59)) (.slice a1 0 c1) ([], [], false)) := ct
    have HB := Lib.hid (HB0.out.trans ((hb1.trans (hb2.mono hb1.size)).mono HB0.out.size))
    clear cw ho1 hb1 hs1 hb2 ct hw0'
    go_wp2_with fail
    refine ct2.mono ?_
    rintro e w3 ⟨va, vb, rfl, hsa, hsb, ⟨nd, rfl⟩, hva, hvb⟩
    obtain ⟨aa, ac, rfl, -, -⟩ := hsa
    have hn := need_f ((w1.alloc (.cells #[.bool false, .string ⟨#[]⟩, .slice none 0 0, .slice none 0 0, .string ⟨#[]⟩] 59)).drewN nd)
    clear ct2
    go_wp2_with fail
    refine hn.mono ?_
    rintro e w4 ⟨rfl, rfl⟩
    exact ⟨rfl, rfl, HB.out.trans (⟨rfl, rfl, rfl, Nat.le_refl _, fun _ _ => rfl⟩)⟩
  | cons x0 W0 =>
  by_cases hon : x0 = wOnce
  · have hRL : readL (x0 :: W0) = readA true (cutW [62] W0) := by
      show readA (if x0 = wOnce then (true, W0) else (false, x0 :: W0)).1 (cutW [62] (if x0 = wOnce then (true, W0) else (false, x0 :: W0)).2) = _
      rw [if_pos hon]
    obtain ⟨on, hbo⟩ : ∃ b : Bool, true = b := ⟨_, rfl⟩
    rw [hbo] at hRL
    have HBO := Lib.hid hbo
    obtain ⟨o, ho⟩ : ∃ o, readL (x0 :: W0) = o := ⟨_, rfl⟩
    rw [ho] at hRL ⊢
    have HOO := Lib.hid hRL
    clear ho
    have e0 : ((mk x0).toList == [111, 110, 99, 101]) = true := by rw [mk_toList, beq_iff_eq]; exact hon
    have HWX2 : Hid (∀ x ∈ W0, x.length ≤ 1000000) := Lib.hid fun x hx => HWX.out x (List.mem_cons_of_mem _ hx)
    have hWL2 : W0.length ≤ 1000000 := by rw [List.length_cons] at hWL; omega
    clear hon hRL hbo
    go_enter Tryz.func22, Tryz.ntmps22
    go_wp2_with fail
    refine cw.mono ?_
    rintro e w1 ⟨v1, rfl, ho1, hb1⟩
    have hs1 := owns_strs ho1
    obtain ⟨a1, c1, rfl, hc1, -⟩ := id hs1
    obtain ⟨g1, off1, rfl, hg1, cc0, hcc, htl1, htl2⟩ := strs_tail hs1
    have HGA : Hid (g1 ≠ w.heap.size) := Lib.hid (fun e => by have := (owns_block ho1 (g := g1) rfl).1; have := lt_some HP2.out; omega)
    have HGP : Hid (g1 ≠ w1.heap.size) := Lib.hid (Nat.ne_of_lt hg1)
    obtain ⟨w2, hw2⟩ : ∃ W, w1.alloc (.cells zOrd 59) = W := ⟨_, rfl⟩
    have hb2 : Below w1.heap.size w1 w2 := by rw [← hw2]; exact below_alloc _ _
    have hp4 : w2.heap[w1.heap.size]? = some (.cells zOrd 59 (0, 0)) := by rw [← hw2]; exact heap_alloc_new _ _
    have hw2' : w1.alloc (.cells #[.bool false, .string ⟨#[]⟩, .slice none 0 0, .slice none 0 0, .string ⟨#[]⟩] 59) = w2 := hw2
    have cc2 : w2.cell? ⟨g1, off1, none⟩ = some (.string (mk x0)) := (cell_of_block (hb2.block g1 hg1)).trans cc0
    have q0 : w2.cell? ⟨w1.heap.size, 0, none⟩ = some (.bool false) := cell_of_heap hp4
    have z0 : w2.frozen? ⟨w1.heap.size, 0, none⟩ = false := by simp [World.frozen?, hp4]
    have hz : (0 : Int) < ((x0 :: W0).length : Int) := by simp
    have hln : (x0 :: W0).length = W0.length + 1 := rfl
    have hz1 : (1 : Int) ≤ ((x0 :: W0).length : Int) := by rw [hln]; omega
    have hz2 : (1 : Int) ≤ (c1 : Int) := by omega
    have hz3 : (x0 :: W0).length - 1 = W0.length := rfl
    have HTA : Hid (Strs w2 (.slice (if c1 = 1 then some ⟨g1, off1, none⟩ else some ⟨g1, off1 + 1, none⟩) W0.length (c1 - 1)) W0) := Lib.hid (by
      by_cases h : c1 = 1
      · rw [if_pos h, htl1 h]; exact strs_nil _ _ _
      · rw [if_neg h]; exact (htl2 h).below hb2)
    have HSZ : Hid (w0.heap.size ≤ w1.heap.size) := Lib.hid hb1.size
    have HB2 := Lib.hid (hb1.trans (hb2.mono hb1.size))
    have HP4a := Lib.hid hp4
    have HZ3 := Lib.hid hz3
    generalize (x0 :: W0).length = nw at *
    clear cw ho1 hb1 hs1 hc1 hcc hb2 hp4 hw2 hw0' htl1 htl2 hln hz3
    go_wp2_with fail
    clear hw2' cc0
    go_region
    obtain ⟨wa, hua0⟩ : ∃ u : Option Addr, (if c1 = 1 then some ⟨g1, off1, none⟩ else some ⟨g1, off1 + 1, none⟩) = u := ⟨_, rfl⟩
    have hua02 : wa.map Addr.block = some g1 := by rw [← hua0]; split <;> rfl
    obtain ⟨wc, hwc⟩ : ∃ u, c1 - 1 = u := ⟨_, rfl⟩
    rw [hua0, HZ3.out, hwc]
    rw [hua0, hwc] at HTA
    obtain ⟨wT, hwT⟩ : ∃ W, (w2.setCell ⟨w1.heap.size, 0, none⟩ (.bool true)).drew = W := ⟨_, rfl⟩
    rw [hwT]
    have hpT : wT.heap[w1.heap.size]? = some (.cells (bOrd true) 59 (0, 0)) := by rw [← hwT]; exact set_block (j := 0) HP4a.out
    rw [HBO.out] at hpT
    have hOW : Ow (.slice wa W0.length wc) g1 := by
      cases wa with
      | none => cases hua02
      | some a => exact .inl (show some a.block = some g1 from hua02)
    have hT : Strs wT (.slice wa W0.length wc) W0 := by
      rw [← hwT]
      exact HTA.out.set (hOW.ne HGP.out)
    have HBT : Hid (Below w0.heap.size w0 wT) := Lib.hid (by
      rw [← hwT]
      have h3 := HB2.out.setCell (p := ⟨w1.heap.size, 0, none⟩) HSZ.out (.bool true)
      exact ⟨h3.os, h3.tape, h3.output, h3.size, h3.block⟩)
    have HOW := Lib.hid hOW
    have HPT := Lib.hid hpT
    clear hua0 hua02 hpT q0 z0 cc2 hwT e0 HTA HB2 HP4a HWX hOW hz hz1 hz2 hwc HBO HZ3 hWL
    revert HWX2 hWL2
    generalize W0 = WQ at *
    intro HWX hWL
    have hsub := cutW_sub [62] WQ
    have ct := cut_c [62] hT hWL
    obtain ⟨ah, be, pt, hR⟩ : ∃ ah be pt, cutW [62] WQ = (ah, be, pt) := ⟨_, _, _, rfl⟩
    have hoo := HOO.out
    rw [hR] at ct hsub hoo
    dsimp only at hsub
    have HRO := Lib.hid hoo
    clear HOO hoo
    have ct2 : Calls Tryz.prog 31 #[.slice wa WQ.length wc, .string ⟨#[62]⟩] wT (CuQ wT (.slice wa WQ.length wc) (ah, be, pt)) := ct
    have HAX : Hid (∀ x ∈ ah, x.length ≤ 1000000) := Lib.hid fun x hx => HWX.out x (hsub.1 x hx)
    have HBX : Hid (∀ x ∈ be, x.length ≤ 1000000) := Lib.hid fun x hx => HWX.out x (hsub.2.1 x hx)
    have hbl : be.length ≤ 1000000 := Nat.le_trans hsub.2.2.2 hWL
    have HBW : Hid (∀ W, Below w0.heap.size w0 W → Below w.heap.size w W) := Lib.hid fun W h => HB0.out.trans (h.mono HB0.out.size)
    clear ct hT hR hsub
    go_wp2_with fail
    refine ct2.mono ?_
    rintro e w3 ⟨va, vb, rfl, hsa, hsb, ⟨nd, hw3⟩, hva, hvb⟩
    dsimp only at hsa hsb
    have hb3 : Below wT.heap.size wT w3 := by rw [hw3]; exact bel_drewN _ _
    have HP3 := Lib.hid ((hb3.block _ (lt_some HPT.out)).trans HPT.out)
    have HB3 := Lib.hid (HBT.out.trans (hb3.mono HBT.out.size))
    have HSA := Lib.hid (hsa.below hb3)
    have HSB := Lib.hid (hsb.below hb3)
    have hwA : Ow va g1 := by unfold Ow; rw [hva]; exact HOW.out
    have hwB : Ow vb g1 := by
      rcases hvb with e | e
      · unfold Ow; rw [e]; exact HOW.out
      · exact .inr e
    have HWA := Lib.hid hwA
    have HWB := Lib.hid hwB
    obtain ⟨aa, ca, rfl, hca, -⟩ := id hsa
    obtain ⟨ba, bc, rfl, -, -⟩ := id hsb
    clear ct2 hsa hsb hw3 hva hvb hb3 hwA hwB HPT HBT HOW HWX hca
    cases pt with
    | false =>
      have hn := need_f w3
      go_wp2_with fail
      refine hn.mono ?_
      rintro e w4 ⟨rfl, rfl⟩
      exact ⟨rfl, RaQ.fail (HRO.out.trans (by cases ah <;> rfl)) (HBW.out _ HB3.out)⟩
    | true =>
    cases ah with
    | nil =>
      have hn := need_f w3
      go_wp2_with fail
      refine hn.mono ?_
      rintro e w4 ⟨rfl, rfl⟩
      exact ⟨rfl, RaQ.fail (HRO.out.trans rfl) (HBW.out _ HB3.out)⟩
    | cons verb args =>
    have hro : o = readB on verb args (cutW [58] be) := HRO.out
    obtain ⟨ga, offa, rfl, hga, cca, hcca, htl1, htl2⟩ := strs_tail HSA.out
    obtain rfl : ga = g1 := by
      rcases HWA.out with e | e
      · exact Option.some.inj e
      · cases e
    have hsub := cutW_sub [58] be
    obtain ⟨outs, deps, parted, hR2⟩ : ∃ outs deps parted, cutW [58] be = (outs, deps, parted) := ⟨_, _, _, rfl⟩
    rw [hR2] at hsub hro
    dsimp only at hsub
    have HR2 := Lib.hid hR2
    have HRB0 := Lib.hid hro
    clear hro
    have HOX : Hid (∀ x ∈ outs, x.length ≤ 1000000) := Lib.hid fun x hx => HBX.out x (hsub.1 x hx)
    have HDX : Hid (∀ x ∈ deps, x.length ≤ 1000000) := Lib.hid fun x hx => HBX.out x (hsub.2.1 x hx)
    have hol : outs.length ≤ 1000000 := Nat.le_trans hsub.2.2.1 hbl
    have hdl : deps.length ≤ 1000000 := Nat.le_trans hsub.2.2.2 hbl
    have hvl : verb.length ≤ 1000000 := HAX.out verb List.mem_cons_self
    have hn := need_t w3
    have q1 : w3.cell? ⟨w1.heap.size, 1, none⟩ = some (.string ⟨#[]⟩) := cell_of_heap HP3.out
    have q2 : w3.cell? ⟨w1.heap.size, 2, none⟩ = some (.slice none 0 0) := cell_of_heap HP3.out
    have z1 : w3.frozen? ⟨w1.heap.size, 1, none⟩ = false := by simp [World.frozen?, HP3.out]
    have z2 : w3.frozen? ⟨w1.heap.size, 2, none⟩ = false := by simp [World.frozen?, HP3.out]
    have HTA : Hid (Strs w3 (.slice (if ca = 1 then some ⟨ga, offa, none⟩ else some ⟨ga, offa + 1, none⟩) args.length (ca - 1)) args) := Lib.hid (by
      by_cases h : ca = 1
      · rw [if_pos h, htl1 h]; exact strs_nil _ _ _
      · rw [if_neg h]; exact htl2 h)
    have hz : (0 : Int) < ((verb :: args).length : Int) := by simp
    have hz0 : 0 < (verb :: args).length := by simp
    have hln : (verb :: args).length - 1 = args.length := rfl
    have hz1 : (1 : Int) ≤ ((verb :: args).length : Int) := by simp; omega
    have hz2 : (1 : Int) ≤ (ca : Int) := by omega
    have HLN := Lib.hid hln
    generalize (verb :: args).length = nv at *
    clear htl1 htl2 hR2 hsub hln HSA HBX hcca
    go_wp2_with fail
    refine hn.mono ?_
    rintro e w4 ⟨rfl, rfl⟩
    clear hn
    go_wp2_with fail
    go_region
    obtain ⟨ua, hua⟩ : ∃ u : Option Addr, (if ca = 1 then some ⟨ga, offa, none⟩ else some ⟨ga, offa + 1, none⟩) = u := ⟨_, rfl⟩
    have hua2 : ua.map Addr.block = some ga := by rw [← hua]; split <;> rfl
    obtain ⟨ac, hac⟩ : ∃ u, ca - 1 = u := ⟨_, rfl⟩
    rw [hua, HLN.out, hac]
    rw [hua, hac] at HTA
    obtain ⟨w5, hw5⟩ : ∃ W, ((w3.setCell ⟨w1.heap.size, 1, none⟩ (.string (mk verb))).setCell ⟨w1.heap.size, 2, none⟩ (.slice ua args.length ac)).drew = W := ⟨_, rfl⟩
    rw [hw5]
    have hp5 : w5.heap[w1.heap.size]? = some (.cells #[.bool on, .string (mk verb), .slice ua args.length ac, .slice none 0 0, .string ⟨#[]⟩] 59 (0, 0)) := by
      rw [← hw5]
      exact set_block (j := 2) (set_block (j := 1) HP3.out)
    have hwAa : Ow (.slice ua args.length ac) ga := by
      cases ua with
      | none => cases hua2
      | some a => exact .inl (show some a.block = some ga from hua2)
    have hA5 : Strs w5 (.slice ua args.length ac) args := by
      rw [← hw5]
      exact ((HTA.out.set (hwAa.ne HGP.out)).set (hwAa.ne HGP.out))
    have hB5 : Strs w5 (.slice ba be.length bc) be := by
      rw [← hw5]
      exact ((HSB.out.set (HWB.out.ne HGP.out)).set (HWB.out.ne HGP.out))
    have hb5 : Below w0.heap.size w0 w5 := by
      rw [← hw5]
      have h2 := HB3.out.setCell (p := ⟨w1.heap.size, 1, none⟩) HSZ.out (.string (mk verb))
      have h3 := h2.setCell (p := ⟨w1.heap.size, 2, none⟩) HSZ.out (.slice ua args.length ac)
      exact ⟨h3.os, h3.tape, h3.output, h3.size, h3.block⟩
    have cv := verbs_c w5.drew
    have c5 : w5.drew.cell? ⟨w1.heap.size, 1, none⟩ = some (.string (mk verb)) := cell_of_heap (w := w5.drew) hp5
    have HC5 : Hid (∀ W, Below w5.drew.heap.size w5.drew W → W.cell? ⟨w1.heap.size, 1, none⟩ = some (.string (mk verb))) := Lib.hid fun W hW => (cell_of_block (hW.block _ (lt_some hp5))).trans c5
    have HP5 := Lib.hid hp5
    have HA5 := Lib.hid hA5
    have HSB5 := Lib.hid hB5
    have HB5 := Lib.hid hb5
    have HWAA := Lib.hid hwAa
    obtain ⟨kno, hkno⟩ : ∃ b, (verbF verb).isSome = b := ⟨_, rfl⟩
    have HKN := Lib.hid hkno
    clear hw5 hp5 hA5 hB5 hb5 hwAa q1 q2 z1 z2 hua hua2 hac hkno HP3 HTA HSB HB3 HLN cca hz hz0 hz1 hz2 hga HWA
    go_wp2_with fail
    go_region_held3 (fun w' => w'.cell? ⟨w1.heap.size, 1, none⟩ = some (.string (mk verb)))
      (first | exact c5 | exact CX | fail)
      (first | (go_at_call 33; (with_reducible refine cv.mono ?_); rintro e w6 ⟨m6, rfl, hf6, hlo6, hb6⟩; have HLO6 := Lib.hid hlo6; have HB6 := Lib.hid hb6; have CX := HC5.out _ hb6; have HF6 := Lib.hid hf6; obtain ⟨vk, hlk⟩ := hf6.look_ok (s := verb) (by unfold maxLen; omega); rw [HKN.out] at hlk; clear hb6 hf6 hlo6) | fail)
    have hb6 : Below w5.heap.size w5 w6 := ⟨HB6.out.os, HB6.out.tape, HB6.out.output, HB6.out.size, HB6.out.block⟩
    have hs6 := HSB5.out.below hb6
    have ct := cut_c [58] hs6 hbl
    rw [HR2.out] at ct
    have ct2 : Calls Tryz.prog 31 #[.slice ba be.length bc, .string ⟨#[58]⟩] w6 (CuQ w6 (.slice ba be.length bc) (outs, deps, parted)) := ct
    have HB6w := Lib.hid (HB5.out.trans (hb6.mono HB5.out.size))
    have HP6 := Lib.hid ((hb6.block _ (lt_some HP5.out)).trans HP5.out)
    have HA6 := Lib.hid (HA5.out.below hb6)
    clear cv c5 hb6 hs6 ct hlk CX HC5
    go_wp2_with fail
    refine ct2.mono ?_
    rintro e w7 ⟨va2, vb2, rfl, hsa, hsb, ⟨nd2, hw7⟩, hva, hvb⟩
    dsimp only at hsa hsb
    have hb7 : Below w6.heap.size w6 w7 := by rw [hw7]; exact bel_drewN _ _
    have hwO : Ow va2 ga := by unfold Ow; rw [hva]; exact HWB.out
    have hwD : Ow vb2 ga := by
      rcases hvb with e | e
      · unfold Ow; rw [e]; exact HWB.out
      · exact .inr e
    have HP7 := Lib.hid ((hb7.block _ (lt_some HP6.out)).trans HP6.out)
    have HA7 := Lib.hid (HA6.out.below hb7)
    have HO7 := Lib.hid (hsa.below hb7)
    have HD7 := Lib.hid (hsb.below hb7)
    have HB7 := Lib.hid (HB6w.out.trans (hb7.mono HB6w.out.size))
    have HWO := Lib.hid hwO
    have HWD := Lib.hid hwD
    obtain ⟨oa, oc, rfl, -, -⟩ := id hsa
    obtain ⟨da, dc, rfl, -, -⟩ := id hsb
    clear ct2 hsa hsb hva hvb hw7 hb7 HP6 HA6 hwO hwD
    cases kno with
    | false =>
      have HE : Hid (o = none) := Lib.hid (by rw [HRB0.out]; unfold readB; rw [HKN.out]; rfl)
      have hn := need_f w7
      go_wp2_with fail
      refine hn.mono ?_
      rintro e w8 ⟨rfl, rfl⟩
      exact ⟨rfl, RaQ.fail HE.out (HBW.out _ HB7.out)⟩
    | true =>
    cases ho : outs with
    | nil =>
      rw [ho] at HRB0
      have HE : Hid (o = none) := Lib.hid (by rw [HRB0.out]; unfold readB; rw [HKN.out]; rfl)
      have hn := need_f w7
      subst ho
      go_wp2_with fail
      refine hn.mono ?_
      rintro e w8 ⟨rfl, rfl⟩
      exact ⟨rfl, RaQ.fail HE.out (HBW.out _ HB7.out)⟩
    | cons out0 outr =>
    have HON : Hid (outs.isEmpty = false) := Lib.hid (by rw [ho]; rfl)
    have hol0 : (0 : Int) < (outs.length : Int) := by rw [ho]; simp
    rw [← ho]
    clear ho
    have cp := arePaths_c HO7.out (by omega) HOX.out
    obtain ⟨rall, hrall⟩ : ∃ b, outs.all rightL = b := ⟨_, rfl⟩
    rw [hrall] at cp
    have HRA := Lib.hid hrall
    clear hrall
    cases rall with
    | false =>
      have HE : Hid (o = none) := Lib.hid (by rw [HRB0.out]; unfold readB okOuts; rw [HKN.out, HON.out]; dsimp only; rw [HRA.out]; rfl)
      go_wp2_with fail
      refine cp.mono ?_
      rintro e w8 ⟨rfl, hb8⟩
      have hn := need_f w8
      have HB8 := Lib.hid (HB7.out.trans (hb8.mono HB7.out.size))
      clear cp hb8
      go_wp2_with fail
      refine hn.mono ?_
      rintro e w9 ⟨rfl, rfl⟩
      exact ⟨rfl, RaQ.fail HE.out (HBW.out _ HB8.out)⟩
    | true =>
    obtain ⟨dif, hdif⟩ : ∃ b, decide ((onceL outs).length = outs.length) = b := ⟨_, rfl⟩
    have HDF := Lib.hid hdif
    clear hdif
    cases dif with
    | false =>
      have HE : Hid (o = none) := Lib.hid (by rw [HRB0.out]; unfold readB okOuts; rw [HKN.out, HON.out]; dsimp only; rw [HRA.out, HDF.out]; rfl)
      go_wp2_with fail
      refine cp.mono ?_
      rintro e w8 ⟨rfl, hb8⟩
      have cd := allDiffer_c (HO7.out.below hb8) (by omega) HOX.out
      rw [HDF.out] at cd
      have HB8 := Lib.hid (HB7.out.trans (hb8.mono HB7.out.size))
      clear cp hb8
      go_wp2_with fail
      refine cd.mono ?_
      rintro e w9 ⟨rfl, hb9⟩
      have hn := need_f w9
      have HB9 := Lib.hid (HB8.out.trans (hb9.mono HB8.out.size))
      clear cd hb9
      go_wp2_with fail
      refine hn.mono ?_
      rintro e w10 ⟨rfl, rfl⟩
      exact ⟨rfl, RaQ.fail HE.out (HBW.out _ HB9.out)⟩
    | true =>
    have HRB : Hid (o = if parted == decide (verb = wInc) then (depOf parted deps).map (fun d => (⟨on, verb, args, outs, d⟩ : Cmd)) else none) := Lib.hid (by rw [HRB0.out]; unfold readB okOuts; rw [HKN.out, HON.out]; dsimp only; rw [HRA.out, HDF.out]; simp)
    go_wp2_with fail
    refine cp.mono ?_
    rintro e w8 ⟨rfl, hb8⟩
    have HO8 := Lib.hid (HO7.out.below hb8)
    have HB8' := Lib.hid hb8
    have cd := allDiffer_c HO8.out (by omega) HOX.out
    rw [HDF.out] at cd
    clear cp hb8
    go_wp2_with fail
    refine cd.mono ?_
    rintro e w9 ⟨rfl, hb9⟩
    have hb79 : Below w7.heap.size w7 w9 := HB8'.out.trans (hb9.mono HB8'.out.size)
    have hn := need_t w9
    have hp9 := (hb79.block _ (lt_some HP7.out)).trans HP7.out
    have HA9 := Lib.hid (HA7.out.below hb79)
    have HO9 := Lib.hid (HO7.out.below hb79)
    have HD9 := Lib.hid (HD7.out.below hb79)
    have HB9 := Lib.hid (HB7.out.trans (hb79.mono HB7.out.size))
    have q3 : w9.cell? ⟨w1.heap.size, 3, none⟩ = some (.slice none 0 0) := cell_of_heap hp9
    have z3 : w9.frozen? ⟨w1.heap.size, 3, none⟩ = false := by simp [World.frozen?, hp9]
    obtain ⟨w10, hw10⟩ : ∃ W, w9.setCell ⟨w1.heap.size, 3, none⟩ (.slice oa outs.length oc) = W := ⟨_, rfl⟩
    have hp10 : w10.heap[w1.heap.size]? = some (.cells #[.bool on, .string (mk verb), .slice ua args.length ac, .slice oa outs.length oc, .string ⟨#[]⟩] 59 (0, 0)) := by rw [← hw10]; exact set_block (j := 3) hp9
    have hA10 : Strs w10 (.slice ua args.length ac) args := by rw [← hw10]; exact HA9.out.set (HWAA.out.ne HGP.out)
    have hO10 : Strs w10 (.slice oa outs.length oc) outs := by rw [← hw10]; exact HO9.out.set (HWO.out.ne HGP.out)
    have hD10 : Strs w10 (.slice da deps.length dc) deps := by rw [← hw10]; exact HD9.out.set (HWD.out.ne HGP.out)
    have hB10 : Below w0.heap.size w0 w10 := by rw [← hw10]; exact HB9.out.setCell (p := ⟨w1.heap.size, 3, none⟩) HSZ.out _
    have v10 : w10.cell? ⟨w1.heap.size, 1, none⟩ = some (.string (mk verb)) := cell_of_heap hp10
    have hn2 := need_a (parted == decide (verb = wInc)) w10
    have HP10 := Lib.hid hp10
    have HA10 := Lib.hid hA10
    have HO10 := Lib.hid hO10
    have HD10 := Lib.hid hD10
    have HB10 := Lib.hid hB10
    have e12 : ((mk verb).toList == [105, 110, 99]) = decide (verb = wInc) := by
      rw [mk_toList]
      exact (Bool.eq_iff_iff.2 (by rw [beq_iff_eq, decide_eq_true_iff]; rfl))
    obtain ⟨isI, hisI⟩ : ∃ b, decide (verb = wInc) = b := ⟨_, rfl⟩
    have HISI := Lib.hid hisI
    rw [hisI] at e12 hn2
    clear cd hb9 hb79 hp9 hp10 hA10 hO10 hD10 hB10 HP7 HA7 HO7 HD7 HO8 HB8'
    have HP2a := Lib.hid ((HB10.out.block _ (lt_some HP2.out)).trans HP2.out)
    have HDX2 := HDX
    cases parted with
    | false =>
      cases isI with
      | true =>
        have HE : Hid (o = none) := Lib.hid (by rw [HRB.out, HISI.out]; rfl)
        clear hisI
        go_wp2_with fail
        refine hn.mono ?_
        rintro e w11 ⟨rfl, rfl⟩
        clear hn
        go_wp2_with fail
        refine hn2.mono ?_
        rintro e w11 ⟨rfl, rfl⟩
        exact ⟨rfl, RaQ.fail HE.out (HBW.out _ HB10.out)⟩
      | false =>
        have HOE : Hid (o = some ⟨on, verb, args, outs, []⟩) := Lib.hid (by rw [HRB.out, HISI.out]; rfl)
        clear hisI
        go_wp2_with fail
        refine hn.mono ?_
        rintro e w11 ⟨rfl, rfl⟩
        clear hn
        go_wp2_with fail
        refine hn2.mono ?_
        rintro e w11 ⟨rfl, hw11⟩
        subst hw11
        have HPz := HP10
        have HP2z := HP2a
        have HAz := HA10
        have HOz := HO10
        have HBz := HB10
        clear hn2 v10 q3 z3 e12 hw10
        have hp2 : w10.heap[w.heap.size]? = some (.cells zOrd 59 (0, 0)) := HP2z.out
        have hpp := HPz.out
        have i0 : w10.cell? ⟨w1.heap.size, 0, none⟩ = some (.bool on) := cell_of_heap hpp
        have i1 : w10.cell? ⟨w1.heap.size, 1, none⟩ = some (.string (mk verb)) := cell_of_heap hpp
        have i2 : w10.cell? ⟨w1.heap.size, 2, none⟩ = some (.slice ua args.length ac) := cell_of_heap hpp
        have i3 : w10.cell? ⟨w1.heap.size, 3, none⟩ = some (.slice oa outs.length oc) := cell_of_heap hpp
        have i4 : w10.cell? ⟨w1.heap.size, 4, none⟩ = some (.string ⟨#[]⟩) := cell_of_heap hpp
        have o0 : w10.cell? ⟨w.heap.size, 0, none⟩ = some (.bool false) := cell_of_heap hp2
        have o1 : w10.cell? ⟨w.heap.size, 1, none⟩ = some (.string ⟨#[]⟩) := cell_of_heap hp2
        have o2 : w10.cell? ⟨w.heap.size, 2, none⟩ = some (.slice none 0 0) := cell_of_heap hp2
        have o3 : w10.cell? ⟨w.heap.size, 3, none⟩ = some (.slice none 0 0) := cell_of_heap hp2
        have o4 : w10.cell? ⟨w.heap.size, 4, none⟩ = some (.string ⟨#[]⟩) := cell_of_heap hp2
        have y0 : w10.frozen? ⟨w.heap.size, 0, none⟩ = false := by simp [World.frozen?, hp2]
        have y1 : w10.frozen? ⟨w.heap.size, 1, none⟩ = false := by simp [World.frozen?, hp2]
        have y2 : w10.frozen? ⟨w.heap.size, 2, none⟩ = false := by simp [World.frozen?, hp2]
        have y3 : w10.frozen? ⟨w.heap.size, 3, none⟩ = false := by simp [World.frozen?, hp2]
        have y4 : w10.frozen? ⟨w.heap.size, 4, none⟩ = false := by simp [World.frozen?, hp2]
        clear hpp hp2
        go_wp2_with fail
        have hA := HAz.out.five (v0 := .bool on) (v1 := .string (mk verb)) (v2 := .slice ua args.length ac) (v3 := .slice oa outs.length oc) (v4 := .string ⟨#[]⟩) HWAA.out HGA.out
        have hO := HOz.out.five (v0 := .bool on) (v1 := .string (mk verb)) (v2 := .slice ua args.length ac) (v3 := .slice oa outs.length oc) (v4 := .string ⟨#[]⟩) HWO.out HGA.out
        have hB := bel_five (v0 := .bool on) (v1 := .string (mk verb)) (v2 := .slice ua args.length ac) (v3 := .slice oa outs.length oc) (v4 := .string ⟨#[]⟩) (HBW.out _ HBz.out) (Nat.le_refl _)
        have h5 := five (v0 := .bool on) (v1 := .string (mk verb)) (v2 := .slice ua args.length ac) (v3 := .slice oa outs.length oc) (v4 := .string ⟨#[]⟩) HP2z.out
        generalize (((((w10.setCell ⟨w.heap.size, 0, none⟩ (.bool on)).setCell ⟨w.heap.size, 1, none⟩ (.string (mk verb))).setCell ⟨w.heap.size, 2, none⟩ (.slice ua args.length ac)).setCell ⟨w.heap.size, 3, none⟩ (.slice oa outs.length oc)).setCell ⟨w.heap.size, 4, none⟩ (.string ⟨#[]⟩)) = w12 at *
        have s0 : w12.cell? ⟨w.heap.size, 0, none⟩ = some (.bool on) := cell_of_heap h5
        have s1 : w12.cell? ⟨w.heap.size, 1, none⟩ = some (.string (mk verb)) := cell_of_heap h5
        have s2 : w12.cell? ⟨w.heap.size, 2, none⟩ = some (.slice ua args.length ac) := cell_of_heap h5
        have s3 : w12.cell? ⟨w.heap.size, 3, none⟩ = some (.slice oa outs.length oc) := cell_of_heap h5
        have s4 : w12.cell? ⟨w.heap.size, 4, none⟩ = some (.string ⟨#[]⟩) := cell_of_heap h5
        refine bodyPost_ret (v := .agg #[.bool on, .string (mk verb), .slice ua args.length ac, .slice oa outs.length oc, .string ⟨#[]⟩]) (by simp [results, Tryz.f22, go_sem, s0, s1, s2, s3, s4]) rfl ?_
        refine ⟨?_, hB⟩
        rw [HOE.out]
        exact ⟨_, _, rfl, hA, hO⟩
    | true =>
      cases isI with
      | false =>
        have HE : Hid (o = none) := Lib.hid (by rw [HRB.out, HISI.out]; rfl)
        clear hisI
        go_wp2_with fail
        refine hn.mono ?_
        rintro e w11 ⟨rfl, rfl⟩
        clear hn
        go_wp2_with fail
        refine hn2.mono ?_
        rintro e w11 ⟨rfl, rfl⟩
        exact ⟨rfl, RaQ.fail HE.out (HBW.out _ HB10.out)⟩
      | true =>
        have HOD : Hid (o = (depOf true deps).map (fun d => (⟨on, verb, args, outs, d⟩ : Cmd))) := Lib.hid (by rw [HRB.out, HISI.out]; rfl)
        clear hisI
        go_wp2_with fail
        refine hn.mono ?_
        rintro e w11 ⟨rfl, rfl⟩
        clear hn
        go_wp2_with fail
        refine hn2.mono ?_
        rintro e w11 ⟨rfl, hw11⟩
        subst hw11
        clear hn2 v10 q3 z3 e12 hw10
        match deps, HD10, HOD, HDX, hdl with
        | [], HD10, HOD, HDX, hdl =>
          have hnf := need_f w10
          go_wp2_with fail
          refine hnf.mono ?_
          rintro e w12 ⟨rfl, rfl⟩
          exact ⟨rfl, RaQ.fail (HOD.out.trans rfl) (HBW.out _ HB10.out)⟩
        | d1 :: d2 :: dr, HD10, HOD, HDX, hdl =>
          have hnf := need_f w10
          have hne : (((d1 :: d2 :: dr).length : Int) == 1) = false := by rw [beq_eq_false_iff_ne]; simp; omega
          have HE : Hid (o = none) := Lib.hid (HOD.out.trans rfl)
          clear HD10 HOD HDX
          generalize (d1 :: d2 :: dr).length = nd3 at *
          go_wp2_with fail
          refine hnf.mono ?_
          rintro e w12 ⟨rfl, rfl⟩
          exact ⟨rfl, RaQ.fail HE.out (HBW.out _ HB10.out)⟩
        | [d], HD10, HOD, HDX, hdl =>
          have cp := arePaths_c HD10.out (by simp) HDX.out
          have hall : [d].all rightL = rightL d := by simp
          rw [hall] at cp
          obtain ⟨rd, hrd⟩ : ∃ b, rightL d = b := ⟨_, rfl⟩
          rw [hrd] at cp
          have HRD := Lib.hid hrd
          have cp2 : Calls Tryz.prog 34 #[.slice da 1 dc] w10 fun e w' => e = .returned (.bool rd) ∧ Below w10.heap.size w10 w' := cp
          have HOD2 : Hid (o = (if rightL d then some d else none).map (fun d => (⟨on, verb, args, outs, d⟩ : Cmd))) := Lib.hid HOD.out
          clear cp hall hrd HOD
          cases rd with
          | false =>
            have HE : Hid (o = none) := Lib.hid (by rw [HOD2.out, HRD.out]; rfl)
            go_wp2_with fail
            refine cp2.mono ?_
            rintro e w12 ⟨rfl, hb12⟩
            have hnf := need_f w12
            have HB12 := Lib.hid (HB10.out.trans (hb12.mono HB10.out.size))
            clear cp2 hb12
            go_wp2_with fail
            refine hnf.mono ?_
            rintro e w13 ⟨rfl, rfl⟩
            exact ⟨rfl, RaQ.fail HE.out (HBW.out _ HB12.out)⟩
          | true =>
            have HOE : Hid (o = some ⟨on, verb, args, outs, d⟩) := Lib.hid (by rw [HOD2.out, HRD.out]; rfl)
            go_wp2_with fail
            refine cp2.mono ?_
            rintro e w11 ⟨rfl, hb11⟩
            have hnt := need_t w11
            have hp11 := (hb11.block _ (lt_some HP10.out)).trans HP10.out
            have HP2b := Lib.hid ((hb11.block _ (lt_some HP2a.out)).trans HP2a.out)
            have HA11 := Lib.hid (HA10.out.below hb11)
            have HO11 := Lib.hid (HO10.out.below hb11)
            have HB11 := Lib.hid (HB10.out.trans (hb11.mono HB10.out.size))
            obtain ⟨gd, offd, rfl, hgd, ccd, -, -, -⟩ := strs_tail (HD10.out.below hb11)
            have q4 : w11.cell? ⟨w1.heap.size, 4, none⟩ = some (.string ⟨#[]⟩) := cell_of_heap hp11
            have z4 : w11.frozen? ⟨w1.heap.size, 4, none⟩ = false := by simp [World.frozen?, hp11]
            obtain ⟨w13, hw13⟩ : ∃ W, w11.setCell ⟨w1.heap.size, 4, none⟩ (.string (mk d)) = W := ⟨_, rfl⟩
            have hp13 : w13.heap[w1.heap.size]? = some (.cells #[.bool on, .string (mk verb), .slice ua args.length ac, .slice oa outs.length oc, .string (mk d)] 59 (0, 0)) := by rw [← hw13]; exact set_block (j := 4) hp11
            have hne12 : w.heap.size ≠ w1.heap.size := by have := HSZ.out; have := lt_some HP2.out; omega
            have HP2z : Hid (w13.heap[w.heap.size]? = some (.cells zOrd 59 (0, 0))) := Lib.hid (by rw [← hw13]; exact (set_other hne12).trans HP2b.out)
            have HAz : Hid (Strs w13 (.slice ua args.length ac) args) := Lib.hid (by rw [← hw13]; exact HA11.out.set (HWAA.out.ne HGP.out))
            have HOz : Hid (Strs w13 (.slice oa outs.length oc) outs) := Lib.hid (by rw [← hw13]; exact HO11.out.set (HWO.out.ne HGP.out))
            have HBz : Hid (Below w0.heap.size w0 w13) := Lib.hid (by rw [← hw13]; exact HB11.out.setCell (p := ⟨w1.heap.size, 4, none⟩) HSZ.out _)
            have HPz := Lib.hid hp13
            clear cp2 hb11 hp11 hp13 hne12
            go_wp2_with fail
            refine hnt.mono ?_
            rintro e w14 ⟨rfl, hw14⟩
            subst hw14
            clear hnt
            have hp2 : w13.heap[w.heap.size]? = some (.cells zOrd 59 (0, 0)) := HP2z.out
            have hpp := HPz.out
            have i0 : w13.cell? ⟨w1.heap.size, 0, none⟩ = some (.bool on) := cell_of_heap hpp
            have i1 : w13.cell? ⟨w1.heap.size, 1, none⟩ = some (.string (mk verb)) := cell_of_heap hpp
            have i2 : w13.cell? ⟨w1.heap.size, 2, none⟩ = some (.slice ua args.length ac) := cell_of_heap hpp
            have i3 : w13.cell? ⟨w1.heap.size, 3, none⟩ = some (.slice oa outs.length oc) := cell_of_heap hpp
            have i4 : w13.cell? ⟨w1.heap.size, 4, none⟩ = some (.string (mk d)) := cell_of_heap hpp
            have o0 : w13.cell? ⟨w.heap.size, 0, none⟩ = some (.bool false) := cell_of_heap hp2
            have o1 : w13.cell? ⟨w.heap.size, 1, none⟩ = some (.string ⟨#[]⟩) := cell_of_heap hp2
            have o2 : w13.cell? ⟨w.heap.size, 2, none⟩ = some (.slice none 0 0) := cell_of_heap hp2
            have o3 : w13.cell? ⟨w.heap.size, 3, none⟩ = some (.slice none 0 0) := cell_of_heap hp2
            have o4 : w13.cell? ⟨w.heap.size, 4, none⟩ = some (.string ⟨#[]⟩) := cell_of_heap hp2
            have y0 : w13.frozen? ⟨w.heap.size, 0, none⟩ = false := by simp [World.frozen?, hp2]
            have y1 : w13.frozen? ⟨w.heap.size, 1, none⟩ = false := by simp [World.frozen?, hp2]
            have y2 : w13.frozen? ⟨w.heap.size, 2, none⟩ = false := by simp [World.frozen?, hp2]
            have y3 : w13.frozen? ⟨w.heap.size, 3, none⟩ = false := by simp [World.frozen?, hp2]
            have y4 : w13.frozen? ⟨w.heap.size, 4, none⟩ = false := by simp [World.frozen?, hp2]
            clear hpp hp2
            go_wp2_with fail
            have hA := HAz.out.five (v0 := .bool on) (v1 := .string (mk verb)) (v2 := .slice ua args.length ac) (v3 := .slice oa outs.length oc) (v4 := .string (mk d)) HWAA.out HGA.out
            have hO := HOz.out.five (v0 := .bool on) (v1 := .string (mk verb)) (v2 := .slice ua args.length ac) (v3 := .slice oa outs.length oc) (v4 := .string (mk d)) HWO.out HGA.out
            have hB := bel_five (v0 := .bool on) (v1 := .string (mk verb)) (v2 := .slice ua args.length ac) (v3 := .slice oa outs.length oc) (v4 := .string (mk d)) (HBW.out _ HBz.out) (Nat.le_refl _)
            have h5 := five (v0 := .bool on) (v1 := .string (mk verb)) (v2 := .slice ua args.length ac) (v3 := .slice oa outs.length oc) (v4 := .string (mk d)) HP2z.out
            generalize (((((w13.setCell ⟨w.heap.size, 0, none⟩ (.bool on)).setCell ⟨w.heap.size, 1, none⟩ (.string (mk verb))).setCell ⟨w.heap.size, 2, none⟩ (.slice ua args.length ac)).setCell ⟨w.heap.size, 3, none⟩ (.slice oa outs.length oc)).setCell ⟨w.heap.size, 4, none⟩ (.string (mk d))) = w12 at *
            have s0 : w12.cell? ⟨w.heap.size, 0, none⟩ = some (.bool on) := cell_of_heap h5
            have s1 : w12.cell? ⟨w.heap.size, 1, none⟩ = some (.string (mk verb)) := cell_of_heap h5
            have s2 : w12.cell? ⟨w.heap.size, 2, none⟩ = some (.slice ua args.length ac) := cell_of_heap h5
            have s3 : w12.cell? ⟨w.heap.size, 3, none⟩ = some (.slice oa outs.length oc) := cell_of_heap h5
            have s4 : w12.cell? ⟨w.heap.size, 4, none⟩ = some (.string (mk d)) := cell_of_heap h5
            refine bodyPost_ret (v := .agg #[.bool on, .string (mk verb), .slice ua args.length ac, .slice oa outs.length oc, .string (mk d)]) (by simp [results, Tryz.f22, go_sem, s0, s1, s2, s3, s4]) rfl ?_
            refine ⟨?_, hB⟩
            rw [HOE.out]
            exact ⟨_, _, rfl, hA, hO⟩
  · have hRL : readL (x0 :: W0) = readA false (cutW [62] (x0 :: W0)) := by
      show readA (if x0 = wOnce then (true, W0) else (false, x0 :: W0)).1 (cutW [62] (if x0 = wOnce then (true, W0) else (false, x0 :: W0)).2) = _
      rw [if_neg hon]
    obtain ⟨on, hbo⟩ : ∃ b : Bool, false = b := ⟨_, rfl⟩
    rw [hbo] at hRL
    have HBO := Lib.hid hbo
    obtain ⟨o, ho⟩ : ∃ o, readL (x0 :: W0) = o := ⟨_, rfl⟩
    rw [ho] at hRL ⊢
    have HOO := Lib.hid hRL
    clear ho
    have e0 : ((mk x0).toList == [111, 110, 99, 101]) = false := by rw [mk_toList, beq_eq_false_iff_ne]; exact hon
    clear hon hRL hbo
    go_enter Tryz.func22, Tryz.ntmps22
    go_wp2_with fail
    refine cw.mono ?_
    rintro e w1 ⟨v1, rfl, ho1, hb1⟩
    have hs1 := owns_strs ho1
    obtain ⟨a1, c1, rfl, hc1, -⟩ := id hs1
    obtain ⟨g1, off1, rfl, hg1, cc0, hcc, -, -⟩ := strs_tail hs1
    have HGA : Hid (g1 ≠ w.heap.size) := Lib.hid (fun e => by have := (owns_block ho1 (g := g1) rfl).1; have := lt_some HP2.out; omega)
    have HGP : Hid (g1 ≠ w1.heap.size) := Lib.hid (Nat.ne_of_lt hg1)
    obtain ⟨wT, hw2⟩ : ∃ W, w1.alloc (.cells zOrd 59) = W := ⟨_, rfl⟩
    have hb2 : Below w1.heap.size w1 wT := by rw [← hw2]; exact below_alloc _ _
    have hpT : wT.heap[w1.heap.size]? = some (.cells (bOrd false) 59 (0, 0)) := by rw [← hw2]; exact heap_alloc_new _ _
    rw [HBO.out] at hpT
    have hw2' : w1.alloc (.cells #[.bool false, .string ⟨#[]⟩, .slice none 0 0, .slice none 0 0, .string ⟨#[]⟩] 59) = wT := hw2
    have cc2 : wT.cell? ⟨g1, off1, none⟩ = some (.string (mk x0)) := (cell_of_block (hb2.block g1 hg1)).trans cc0
    have hz : (0 : Int) < ((x0 :: W0).length : Int) := by simp
    have hT := hs1.below hb2
    have HSZ : Hid (w0.heap.size ≤ w1.heap.size) := Lib.hid hb1.size
    have HBT := Lib.hid (hb1.trans (hb2.mono hb1.size))
    have HPT := Lib.hid hpT
    have HOW : Hid (Ow (.slice (some ⟨g1, off1, none⟩) (x0 :: W0).length c1) g1) := Lib.hid (.inl rfl)
    clear cw ho1 hb1 hs1 hc1 hcc hb2 hpT hw2 hw0' HBO
    generalize (x0 :: W0) = WQ at *
    have HWCE : Hid (wT = wT) := Lib.hid rfl
    go_upto_region 5 with fail
    clear hw2' cc0 cc2 e0 hz HWCE
    obtain ⟨wa, hwa⟩ : ∃ u : Option Addr, some ⟨g1, off1, none⟩ = u := ⟨_, rfl⟩
    rw [hwa] at hT HOW ⊢
    obtain ⟨wc, hwc⟩ : ∃ u, c1 = u := ⟨_, rfl⟩
    rw [hwc] at hT HOW ⊢
    clear hwa hwc
    have hsub := cutW_sub [62] WQ
    have ct := cut_c [62] hT hWL
    obtain ⟨ah, be, pt, hR⟩ : ∃ ah be pt, cutW [62] WQ = (ah, be, pt) := ⟨_, _, _, rfl⟩
    have hoo := HOO.out
    rw [hR] at ct hsub hoo
    dsimp only at hsub
    have HRO := Lib.hid hoo
    clear HOO hoo
    have ct2 : Calls Tryz.prog 31 #[.slice wa WQ.length wc, .string ⟨#[62]⟩] wT (CuQ wT (.slice wa WQ.length wc) (ah, be, pt)) := ct
    have HAX : Hid (∀ x ∈ ah, x.length ≤ 1000000) := Lib.hid fun x hx => HWX.out x (hsub.1 x hx)
    have HBX : Hid (∀ x ∈ be, x.length ≤ 1000000) := Lib.hid fun x hx => HWX.out x (hsub.2.1 x hx)
    have hbl : be.length ≤ 1000000 := Nat.le_trans hsub.2.2.2 hWL
    have HBW : Hid (∀ W, Below w0.heap.size w0 W → Below w.heap.size w W) := Lib.hid fun W h => HB0.out.trans (h.mono HB0.out.size)
    clear ct hT hR hsub
    go_wp2_with fail
    refine ct2.mono ?_
    rintro e w3 ⟨va, vb, rfl, hsa, hsb, ⟨nd, hw3⟩, hva, hvb⟩
    dsimp only at hsa hsb
    have hb3 : Below wT.heap.size wT w3 := by rw [hw3]; exact bel_drewN _ _
    have HP3 := Lib.hid ((hb3.block _ (lt_some HPT.out)).trans HPT.out)
    have HB3 := Lib.hid (HBT.out.trans (hb3.mono HBT.out.size))
    have HSA := Lib.hid (hsa.below hb3)
    have HSB := Lib.hid (hsb.below hb3)
    have hwA : Ow va g1 := by unfold Ow; rw [hva]; exact HOW.out
    have hwB : Ow vb g1 := by
      rcases hvb with e | e
      · unfold Ow; rw [e]; exact HOW.out
      · exact .inr e
    have HWA := Lib.hid hwA
    have HWB := Lib.hid hwB
    obtain ⟨aa, ca, rfl, hca, -⟩ := id hsa
    obtain ⟨ba, bc, rfl, -, -⟩ := id hsb
    clear ct2 hsa hsb hw3 hva hvb hb3 hwA hwB HPT HBT HOW HWX hca
    cases pt with
    | false =>
      have hn := need_f w3
      go_wp2_with fail
      refine hn.mono ?_
      rintro e w4 ⟨rfl, rfl⟩
      exact ⟨rfl, RaQ.fail (HRO.out.trans (by cases ah <;> rfl)) (HBW.out _ HB3.out)⟩
    | true =>
    cases ah with
    | nil =>
      have hn := need_f w3
      go_wp2_with fail
      refine hn.mono ?_
      rintro e w4 ⟨rfl, rfl⟩
      exact ⟨rfl, RaQ.fail (HRO.out.trans rfl) (HBW.out _ HB3.out)⟩
    | cons verb args =>
    have hro : o = readB on verb args (cutW [58] be) := HRO.out
    obtain ⟨ga, offa, rfl, hga, cca, hcca, htl1, htl2⟩ := strs_tail HSA.out
    obtain rfl : ga = g1 := by
      rcases HWA.out with e | e
      · exact Option.some.inj e
      · cases e
    have hsub := cutW_sub [58] be
    obtain ⟨outs, deps, parted, hR2⟩ : ∃ outs deps parted, cutW [58] be = (outs, deps, parted) := ⟨_, _, _, rfl⟩
    rw [hR2] at hsub hro
    dsimp only at hsub
    have HR2 := Lib.hid hR2
    have HRB0 := Lib.hid hro
    clear hro
    have HOX : Hid (∀ x ∈ outs, x.length ≤ 1000000) := Lib.hid fun x hx => HBX.out x (hsub.1 x hx)
    have HDX : Hid (∀ x ∈ deps, x.length ≤ 1000000) := Lib.hid fun x hx => HBX.out x (hsub.2.1 x hx)
    have hol : outs.length ≤ 1000000 := Nat.le_trans hsub.2.2.1 hbl
    have hdl : deps.length ≤ 1000000 := Nat.le_trans hsub.2.2.2 hbl
    have hvl : verb.length ≤ 1000000 := HAX.out verb List.mem_cons_self
    have hn := need_t w3
    have q1 : w3.cell? ⟨w1.heap.size, 1, none⟩ = some (.string ⟨#[]⟩) := cell_of_heap HP3.out
    have q2 : w3.cell? ⟨w1.heap.size, 2, none⟩ = some (.slice none 0 0) := cell_of_heap HP3.out
    have z1 : w3.frozen? ⟨w1.heap.size, 1, none⟩ = false := by simp [World.frozen?, HP3.out]
    have z2 : w3.frozen? ⟨w1.heap.size, 2, none⟩ = false := by simp [World.frozen?, HP3.out]
    have HTA : Hid (Strs w3 (.slice (if ca = 1 then some ⟨ga, offa, none⟩ else some ⟨ga, offa + 1, none⟩) args.length (ca - 1)) args) := Lib.hid (by
      by_cases h : ca = 1
      · rw [if_pos h, htl1 h]; exact strs_nil _ _ _
      · rw [if_neg h]; exact htl2 h)
    have hz : (0 : Int) < ((verb :: args).length : Int) := by simp
    have hz0 : 0 < (verb :: args).length := by simp
    have hln : (verb :: args).length - 1 = args.length := rfl
    have hz1 : (1 : Int) ≤ ((verb :: args).length : Int) := by simp; omega
    have hz2 : (1 : Int) ≤ (ca : Int) := by omega
    have HLN := Lib.hid hln
    generalize (verb :: args).length = nv at *
    clear htl1 htl2 hR2 hsub hln HSA HBX hcca
    go_wp2_with fail
    refine hn.mono ?_
    rintro e w4 ⟨rfl, rfl⟩
    clear hn
    go_wp2_with fail
    go_region
    obtain ⟨ua, hua⟩ : ∃ u : Option Addr, (if ca = 1 then some ⟨ga, offa, none⟩ else some ⟨ga, offa + 1, none⟩) = u := ⟨_, rfl⟩
    have hua2 : ua.map Addr.block = some ga := by rw [← hua]; split <;> rfl
    obtain ⟨ac, hac⟩ : ∃ u, ca - 1 = u := ⟨_, rfl⟩
    rw [hua, HLN.out, hac]
    rw [hua, hac] at HTA
    obtain ⟨w5, hw5⟩ : ∃ W, ((w3.setCell ⟨w1.heap.size, 1, none⟩ (.string (mk verb))).setCell ⟨w1.heap.size, 2, none⟩ (.slice ua args.length ac)).drew = W := ⟨_, rfl⟩
    rw [hw5]
    have hp5 : w5.heap[w1.heap.size]? = some (.cells #[.bool on, .string (mk verb), .slice ua args.length ac, .slice none 0 0, .string ⟨#[]⟩] 59 (0, 0)) := by
      rw [← hw5]
      exact set_block (j := 2) (set_block (j := 1) HP3.out)
    have hwAa : Ow (.slice ua args.length ac) ga := by
      cases ua with
      | none => cases hua2
      | some a => exact .inl (show some a.block = some ga from hua2)
    have hA5 : Strs w5 (.slice ua args.length ac) args := by
      rw [← hw5]
      exact ((HTA.out.set (hwAa.ne HGP.out)).set (hwAa.ne HGP.out))
    have hB5 : Strs w5 (.slice ba be.length bc) be := by
      rw [← hw5]
      exact ((HSB.out.set (HWB.out.ne HGP.out)).set (HWB.out.ne HGP.out))
    have hb5 : Below w0.heap.size w0 w5 := by
      rw [← hw5]
      have h2 := HB3.out.setCell (p := ⟨w1.heap.size, 1, none⟩) HSZ.out (.string (mk verb))
      have h3 := h2.setCell (p := ⟨w1.heap.size, 2, none⟩) HSZ.out (.slice ua args.length ac)
      exact ⟨h3.os, h3.tape, h3.output, h3.size, h3.block⟩
    have cv := verbs_c w5.drew
    have c5 : w5.drew.cell? ⟨w1.heap.size, 1, none⟩ = some (.string (mk verb)) := cell_of_heap (w := w5.drew) hp5
    have HC5 : Hid (∀ W, Below w5.drew.heap.size w5.drew W → W.cell? ⟨w1.heap.size, 1, none⟩ = some (.string (mk verb))) := Lib.hid fun W hW => (cell_of_block (hW.block _ (lt_some hp5))).trans c5
    have HP5 := Lib.hid hp5
    have HA5 := Lib.hid hA5
    have HSB5 := Lib.hid hB5
    have HB5 := Lib.hid hb5
    have HWAA := Lib.hid hwAa
    obtain ⟨kno, hkno⟩ : ∃ b, (verbF verb).isSome = b := ⟨_, rfl⟩
    have HKN := Lib.hid hkno
    clear hw5 hp5 hA5 hB5 hb5 hwAa q1 q2 z1 z2 hua hua2 hac hkno HP3 HTA HSB HB3 HLN cca hz hz0 hz1 hz2 hga HWA
    go_wp2_with fail
    go_region_held3 (fun w' => w'.cell? ⟨w1.heap.size, 1, none⟩ = some (.string (mk verb)))
      (first | exact c5 | exact CX | fail)
      (first | (go_at_call 33; (with_reducible refine cv.mono ?_); rintro e w6 ⟨m6, rfl, hf6, hlo6, hb6⟩; have HLO6 := Lib.hid hlo6; have HB6 := Lib.hid hb6; have CX := HC5.out _ hb6; have HF6 := Lib.hid hf6; obtain ⟨vk, hlk⟩ := hf6.look_ok (s := verb) (by unfold maxLen; omega); rw [HKN.out] at hlk; clear hb6 hf6 hlo6) | fail)
    have hb6 : Below w5.heap.size w5 w6 := ⟨HB6.out.os, HB6.out.tape, HB6.out.output, HB6.out.size, HB6.out.block⟩
    have hs6 := HSB5.out.below hb6
    have ct := cut_c [58] hs6 hbl
    rw [HR2.out] at ct
    have ct2 : Calls Tryz.prog 31 #[.slice ba be.length bc, .string ⟨#[58]⟩] w6 (CuQ w6 (.slice ba be.length bc) (outs, deps, parted)) := ct
    have HB6w := Lib.hid (HB5.out.trans (hb6.mono HB5.out.size))
    have HP6 := Lib.hid ((hb6.block _ (lt_some HP5.out)).trans HP5.out)
    have HA6 := Lib.hid (HA5.out.below hb6)
    clear cv c5 hb6 hs6 ct hlk CX HC5
    go_wp2_with fail
    refine ct2.mono ?_
    rintro e w7 ⟨va2, vb2, rfl, hsa, hsb, ⟨nd2, hw7⟩, hva, hvb⟩
    dsimp only at hsa hsb
    have hb7 : Below w6.heap.size w6 w7 := by rw [hw7]; exact bel_drewN _ _
    have hwO : Ow va2 ga := by unfold Ow; rw [hva]; exact HWB.out
    have hwD : Ow vb2 ga := by
      rcases hvb with e | e
      · unfold Ow; rw [e]; exact HWB.out
      · exact .inr e
    have HP7 := Lib.hid ((hb7.block _ (lt_some HP6.out)).trans HP6.out)
    have HA7 := Lib.hid (HA6.out.below hb7)
    have HO7 := Lib.hid (hsa.below hb7)
    have HD7 := Lib.hid (hsb.below hb7)
    have HB7 := Lib.hid (HB6w.out.trans (hb7.mono HB6w.out.size))
    have HWO := Lib.hid hwO
    have HWD := Lib.hid hwD
    obtain ⟨oa, oc, rfl, -, -⟩ := id hsa
    obtain ⟨da, dc, rfl, -, -⟩ := id hsb
    clear ct2 hsa hsb hva hvb hw7 hb7 HP6 HA6 hwO hwD
    cases kno with
    | false =>
      have HE : Hid (o = none) := Lib.hid (by rw [HRB0.out]; unfold readB; rw [HKN.out]; rfl)
      have hn := need_f w7
      go_wp2_with fail
      refine hn.mono ?_
      rintro e w8 ⟨rfl, rfl⟩
      exact ⟨rfl, RaQ.fail HE.out (HBW.out _ HB7.out)⟩
    | true =>
    cases ho : outs with
    | nil =>
      rw [ho] at HRB0
      have HE : Hid (o = none) := Lib.hid (by rw [HRB0.out]; unfold readB; rw [HKN.out]; rfl)
      have hn := need_f w7
      subst ho
      go_wp2_with fail
      refine hn.mono ?_
      rintro e w8 ⟨rfl, rfl⟩
      exact ⟨rfl, RaQ.fail HE.out (HBW.out _ HB7.out)⟩
    | cons out0 outr =>
    have HON : Hid (outs.isEmpty = false) := Lib.hid (by rw [ho]; rfl)
    have hol0 : (0 : Int) < (outs.length : Int) := by rw [ho]; simp
    rw [← ho]
    clear ho
    have cp := arePaths_c HO7.out (by omega) HOX.out
    obtain ⟨rall, hrall⟩ : ∃ b, outs.all rightL = b := ⟨_, rfl⟩
    rw [hrall] at cp
    have HRA := Lib.hid hrall
    clear hrall
    cases rall with
    | false =>
      have HE : Hid (o = none) := Lib.hid (by rw [HRB0.out]; unfold readB okOuts; rw [HKN.out, HON.out]; dsimp only; rw [HRA.out]; rfl)
      go_wp2_with fail
      refine cp.mono ?_
      rintro e w8 ⟨rfl, hb8⟩
      have hn := need_f w8
      have HB8 := Lib.hid (HB7.out.trans (hb8.mono HB7.out.size))
      clear cp hb8
      go_wp2_with fail
      refine hn.mono ?_
      rintro e w9 ⟨rfl, rfl⟩
      exact ⟨rfl, RaQ.fail HE.out (HBW.out _ HB8.out)⟩
    | true =>
    obtain ⟨dif, hdif⟩ : ∃ b, decide ((onceL outs).length = outs.length) = b := ⟨_, rfl⟩
    have HDF := Lib.hid hdif
    clear hdif
    cases dif with
    | false =>
      have HE : Hid (o = none) := Lib.hid (by rw [HRB0.out]; unfold readB okOuts; rw [HKN.out, HON.out]; dsimp only; rw [HRA.out, HDF.out]; rfl)
      go_wp2_with fail
      refine cp.mono ?_
      rintro e w8 ⟨rfl, hb8⟩
      have cd := allDiffer_c (HO7.out.below hb8) (by omega) HOX.out
      rw [HDF.out] at cd
      have HB8 := Lib.hid (HB7.out.trans (hb8.mono HB7.out.size))
      clear cp hb8
      go_wp2_with fail
      refine cd.mono ?_
      rintro e w9 ⟨rfl, hb9⟩
      have hn := need_f w9
      have HB9 := Lib.hid (HB8.out.trans (hb9.mono HB8.out.size))
      clear cd hb9
      go_wp2_with fail
      refine hn.mono ?_
      rintro e w10 ⟨rfl, rfl⟩
      exact ⟨rfl, RaQ.fail HE.out (HBW.out _ HB9.out)⟩
    | true =>
    have HRB : Hid (o = if parted == decide (verb = wInc) then (depOf parted deps).map (fun d => (⟨on, verb, args, outs, d⟩ : Cmd)) else none) := Lib.hid (by rw [HRB0.out]; unfold readB okOuts; rw [HKN.out, HON.out]; dsimp only; rw [HRA.out, HDF.out]; simp)
    go_wp2_with fail
    refine cp.mono ?_
    rintro e w8 ⟨rfl, hb8⟩
    have HO8 := Lib.hid (HO7.out.below hb8)
    have HB8' := Lib.hid hb8
    have cd := allDiffer_c HO8.out (by omega) HOX.out
    rw [HDF.out] at cd
    clear cp hb8
    go_wp2_with fail
    refine cd.mono ?_
    rintro e w9 ⟨rfl, hb9⟩
    have hb79 : Below w7.heap.size w7 w9 := HB8'.out.trans (hb9.mono HB8'.out.size)
    have hn := need_t w9
    have hp9 := (hb79.block _ (lt_some HP7.out)).trans HP7.out
    have HA9 := Lib.hid (HA7.out.below hb79)
    have HO9 := Lib.hid (HO7.out.below hb79)
    have HD9 := Lib.hid (HD7.out.below hb79)
    have HB9 := Lib.hid (HB7.out.trans (hb79.mono HB7.out.size))
    have q3 : w9.cell? ⟨w1.heap.size, 3, none⟩ = some (.slice none 0 0) := cell_of_heap hp9
    have z3 : w9.frozen? ⟨w1.heap.size, 3, none⟩ = false := by simp [World.frozen?, hp9]
    obtain ⟨w10, hw10⟩ : ∃ W, w9.setCell ⟨w1.heap.size, 3, none⟩ (.slice oa outs.length oc) = W := ⟨_, rfl⟩
    have hp10 : w10.heap[w1.heap.size]? = some (.cells #[.bool on, .string (mk verb), .slice ua args.length ac, .slice oa outs.length oc, .string ⟨#[]⟩] 59 (0, 0)) := by rw [← hw10]; exact set_block (j := 3) hp9
    have hA10 : Strs w10 (.slice ua args.length ac) args := by rw [← hw10]; exact HA9.out.set (HWAA.out.ne HGP.out)
    have hO10 : Strs w10 (.slice oa outs.length oc) outs := by rw [← hw10]; exact HO9.out.set (HWO.out.ne HGP.out)
    have hD10 : Strs w10 (.slice da deps.length dc) deps := by rw [← hw10]; exact HD9.out.set (HWD.out.ne HGP.out)
    have hB10 : Below w0.heap.size w0 w10 := by rw [← hw10]; exact HB9.out.setCell (p := ⟨w1.heap.size, 3, none⟩) HSZ.out _
    have v10 : w10.cell? ⟨w1.heap.size, 1, none⟩ = some (.string (mk verb)) := cell_of_heap hp10
    have hn2 := need_a (parted == decide (verb = wInc)) w10
    have HP10 := Lib.hid hp10
    have HA10 := Lib.hid hA10
    have HO10 := Lib.hid hO10
    have HD10 := Lib.hid hD10
    have HB10 := Lib.hid hB10
    have e12 : ((mk verb).toList == [105, 110, 99]) = decide (verb = wInc) := by
      rw [mk_toList]
      exact (Bool.eq_iff_iff.2 (by rw [beq_iff_eq, decide_eq_true_iff]; rfl))
    obtain ⟨isI, hisI⟩ : ∃ b, decide (verb = wInc) = b := ⟨_, rfl⟩
    have HISI := Lib.hid hisI
    rw [hisI] at e12 hn2
    clear cd hb9 hb79 hp9 hp10 hA10 hO10 hD10 hB10 HP7 HA7 HO7 HD7 HO8 HB8'
    have HP2a := Lib.hid ((HB10.out.block _ (lt_some HP2.out)).trans HP2.out)
    have HDX2 := HDX
    cases parted with
    | false =>
      cases isI with
      | true =>
        have HE : Hid (o = none) := Lib.hid (by rw [HRB.out, HISI.out]; rfl)
        clear hisI
        go_wp2_with fail
        refine hn.mono ?_
        rintro e w11 ⟨rfl, rfl⟩
        clear hn
        go_wp2_with fail
        refine hn2.mono ?_
        rintro e w11 ⟨rfl, rfl⟩
        exact ⟨rfl, RaQ.fail HE.out (HBW.out _ HB10.out)⟩
      | false =>
        have HOE : Hid (o = some ⟨on, verb, args, outs, []⟩) := Lib.hid (by rw [HRB.out, HISI.out]; rfl)
        clear hisI
        go_wp2_with fail
        refine hn.mono ?_
        rintro e w11 ⟨rfl, rfl⟩
        clear hn
        go_wp2_with fail
        refine hn2.mono ?_
        rintro e w11 ⟨rfl, hw11⟩
        subst hw11
        have HPz := HP10
        have HP2z := HP2a
        have HAz := HA10
        have HOz := HO10
        have HBz := HB10
        clear hn2 v10 q3 z3 e12 hw10
        have hp2 : w10.heap[w.heap.size]? = some (.cells zOrd 59 (0, 0)) := HP2z.out
        have hpp := HPz.out
        have i0 : w10.cell? ⟨w1.heap.size, 0, none⟩ = some (.bool on) := cell_of_heap hpp
        have i1 : w10.cell? ⟨w1.heap.size, 1, none⟩ = some (.string (mk verb)) := cell_of_heap hpp
        have i2 : w10.cell? ⟨w1.heap.size, 2, none⟩ = some (.slice ua args.length ac) := cell_of_heap hpp
        have i3 : w10.cell? ⟨w1.heap.size, 3, none⟩ = some (.slice oa outs.length oc) := cell_of_heap hpp
        have i4 : w10.cell? ⟨w1.heap.size, 4, none⟩ = some (.string ⟨#[]⟩) := cell_of_heap hpp
        have o0 : w10.cell? ⟨w.heap.size, 0, none⟩ = some (.bool false) := cell_of_heap hp2
        have o1 : w10.cell? ⟨w.heap.size, 1, none⟩ = some (.string ⟨#[]⟩) := cell_of_heap hp2
        have o2 : w10.cell? ⟨w.heap.size, 2, none⟩ = some (.slice none 0 0) := cell_of_heap hp2
        have o3 : w10.cell? ⟨w.heap.size, 3, none⟩ = some (.slice none 0 0) := cell_of_heap hp2
        have o4 : w10.cell? ⟨w.heap.size, 4, none⟩ = some (.string ⟨#[]⟩) := cell_of_heap hp2
        have y0 : w10.frozen? ⟨w.heap.size, 0, none⟩ = false := by simp [World.frozen?, hp2]
        have y1 : w10.frozen? ⟨w.heap.size, 1, none⟩ = false := by simp [World.frozen?, hp2]
        have y2 : w10.frozen? ⟨w.heap.size, 2, none⟩ = false := by simp [World.frozen?, hp2]
        have y3 : w10.frozen? ⟨w.heap.size, 3, none⟩ = false := by simp [World.frozen?, hp2]
        have y4 : w10.frozen? ⟨w.heap.size, 4, none⟩ = false := by simp [World.frozen?, hp2]
        clear hpp hp2
        go_wp2_with fail
        have hA := HAz.out.five (v0 := .bool on) (v1 := .string (mk verb)) (v2 := .slice ua args.length ac) (v3 := .slice oa outs.length oc) (v4 := .string ⟨#[]⟩) HWAA.out HGA.out
        have hO := HOz.out.five (v0 := .bool on) (v1 := .string (mk verb)) (v2 := .slice ua args.length ac) (v3 := .slice oa outs.length oc) (v4 := .string ⟨#[]⟩) HWO.out HGA.out
        have hB := bel_five (v0 := .bool on) (v1 := .string (mk verb)) (v2 := .slice ua args.length ac) (v3 := .slice oa outs.length oc) (v4 := .string ⟨#[]⟩) (HBW.out _ HBz.out) (Nat.le_refl _)
        have h5 := five (v0 := .bool on) (v1 := .string (mk verb)) (v2 := .slice ua args.length ac) (v3 := .slice oa outs.length oc) (v4 := .string ⟨#[]⟩) HP2z.out
        generalize (((((w10.setCell ⟨w.heap.size, 0, none⟩ (.bool on)).setCell ⟨w.heap.size, 1, none⟩ (.string (mk verb))).setCell ⟨w.heap.size, 2, none⟩ (.slice ua args.length ac)).setCell ⟨w.heap.size, 3, none⟩ (.slice oa outs.length oc)).setCell ⟨w.heap.size, 4, none⟩ (.string ⟨#[]⟩)) = w12 at *
        have s0 : w12.cell? ⟨w.heap.size, 0, none⟩ = some (.bool on) := cell_of_heap h5
        have s1 : w12.cell? ⟨w.heap.size, 1, none⟩ = some (.string (mk verb)) := cell_of_heap h5
        have s2 : w12.cell? ⟨w.heap.size, 2, none⟩ = some (.slice ua args.length ac) := cell_of_heap h5
        have s3 : w12.cell? ⟨w.heap.size, 3, none⟩ = some (.slice oa outs.length oc) := cell_of_heap h5
        have s4 : w12.cell? ⟨w.heap.size, 4, none⟩ = some (.string ⟨#[]⟩) := cell_of_heap h5
        refine bodyPost_ret (v := .agg #[.bool on, .string (mk verb), .slice ua args.length ac, .slice oa outs.length oc, .string ⟨#[]⟩]) (by simp [results, Tryz.f22, go_sem, s0, s1, s2, s3, s4]) rfl ?_
        refine ⟨?_, hB⟩
        rw [HOE.out]
        exact ⟨_, _, rfl, hA, hO⟩
    | true =>
      cases isI with
      | false =>
        have HE : Hid (o = none) := Lib.hid (by rw [HRB.out, HISI.out]; rfl)
        clear hisI
        go_wp2_with fail
        refine hn.mono ?_
        rintro e w11 ⟨rfl, rfl⟩
        clear hn
        go_wp2_with fail
        refine hn2.mono ?_
        rintro e w11 ⟨rfl, rfl⟩
        exact ⟨rfl, RaQ.fail HE.out (HBW.out _ HB10.out)⟩
      | true =>
        have HOD : Hid (o = (depOf true deps).map (fun d => (⟨on, verb, args, outs, d⟩ : Cmd))) := Lib.hid (by rw [HRB.out, HISI.out]; rfl)
        clear hisI
        go_wp2_with fail
        refine hn.mono ?_
        rintro e w11 ⟨rfl, rfl⟩
        clear hn
        go_wp2_with fail
        refine hn2.mono ?_
        rintro e w11 ⟨rfl, hw11⟩
        subst hw11
        clear hn2 v10 q3 z3 e12 hw10
        match deps, HD10, HOD, HDX, hdl with
        | [], HD10, HOD, HDX, hdl =>
          have hnf := need_f w10
          go_wp2_with fail
          refine hnf.mono ?_
          rintro e w12 ⟨rfl, rfl⟩
          exact ⟨rfl, RaQ.fail (HOD.out.trans rfl) (HBW.out _ HB10.out)⟩
        | d1 :: d2 :: dr, HD10, HOD, HDX, hdl =>
          have hnf := need_f w10
          have hne : (((d1 :: d2 :: dr).length : Int) == 1) = false := by rw [beq_eq_false_iff_ne]; simp; omega
          have HE : Hid (o = none) := Lib.hid (HOD.out.trans rfl)
          clear HD10 HOD HDX
          generalize (d1 :: d2 :: dr).length = nd3 at *
          go_wp2_with fail
          refine hnf.mono ?_
          rintro e w12 ⟨rfl, rfl⟩
          exact ⟨rfl, RaQ.fail HE.out (HBW.out _ HB10.out)⟩
        | [d], HD10, HOD, HDX, hdl =>
          have cp := arePaths_c HD10.out (by simp) HDX.out
          have hall : [d].all rightL = rightL d := by simp
          rw [hall] at cp
          obtain ⟨rd, hrd⟩ : ∃ b, rightL d = b := ⟨_, rfl⟩
          rw [hrd] at cp
          have HRD := Lib.hid hrd
          have cp2 : Calls Tryz.prog 34 #[.slice da 1 dc] w10 fun e w' => e = .returned (.bool rd) ∧ Below w10.heap.size w10 w' := cp
          have HOD2 : Hid (o = (if rightL d then some d else none).map (fun d => (⟨on, verb, args, outs, d⟩ : Cmd))) := Lib.hid HOD.out
          clear cp hall hrd HOD
          cases rd with
          | false =>
            have HE : Hid (o = none) := Lib.hid (by rw [HOD2.out, HRD.out]; rfl)
            go_wp2_with fail
            refine cp2.mono ?_
            rintro e w12 ⟨rfl, hb12⟩
            have hnf := need_f w12
            have HB12 := Lib.hid (HB10.out.trans (hb12.mono HB10.out.size))
            clear cp2 hb12
            go_wp2_with fail
            refine hnf.mono ?_
            rintro e w13 ⟨rfl, rfl⟩
            exact ⟨rfl, RaQ.fail HE.out (HBW.out _ HB12.out)⟩
          | true =>
            have HOE : Hid (o = some ⟨on, verb, args, outs, d⟩) := Lib.hid (by rw [HOD2.out, HRD.out]; rfl)
            go_wp2_with fail
            refine cp2.mono ?_
            rintro e w11 ⟨rfl, hb11⟩
            have hnt := need_t w11
            have hp11 := (hb11.block _ (lt_some HP10.out)).trans HP10.out
            have HP2b := Lib.hid ((hb11.block _ (lt_some HP2a.out)).trans HP2a.out)
            have HA11 := Lib.hid (HA10.out.below hb11)
            have HO11 := Lib.hid (HO10.out.below hb11)
            have HB11 := Lib.hid (HB10.out.trans (hb11.mono HB10.out.size))
            obtain ⟨gd, offd, rfl, hgd, ccd, -, -, -⟩ := strs_tail (HD10.out.below hb11)
            have q4 : w11.cell? ⟨w1.heap.size, 4, none⟩ = some (.string ⟨#[]⟩) := cell_of_heap hp11
            have z4 : w11.frozen? ⟨w1.heap.size, 4, none⟩ = false := by simp [World.frozen?, hp11]
            obtain ⟨w13, hw13⟩ : ∃ W, w11.setCell ⟨w1.heap.size, 4, none⟩ (.string (mk d)) = W := ⟨_, rfl⟩
            have hp13 : w13.heap[w1.heap.size]? = some (.cells #[.bool on, .string (mk verb), .slice ua args.length ac, .slice oa outs.length oc, .string (mk d)] 59 (0, 0)) := by rw [← hw13]; exact set_block (j := 4) hp11
            have hne12 : w.heap.size ≠ w1.heap.size := by have := HSZ.out; have := lt_some HP2.out; omega
            have HP2z : Hid (w13.heap[w.heap.size]? = some (.cells zOrd 59 (0, 0))) := Lib.hid (by rw [← hw13]; exact (set_other hne12).trans HP2b.out)
            have HAz : Hid (Strs w13 (.slice ua args.length ac) args) := Lib.hid (by rw [← hw13]; exact HA11.out.set (HWAA.out.ne HGP.out))
            have HOz : Hid (Strs w13 (.slice oa outs.length oc) outs) := Lib.hid (by rw [← hw13]; exact HO11.out.set (HWO.out.ne HGP.out))
            have HBz : Hid (Below w0.heap.size w0 w13) := Lib.hid (by rw [← hw13]; exact HB11.out.setCell (p := ⟨w1.heap.size, 4, none⟩) HSZ.out _)
            have HPz := Lib.hid hp13
            clear cp2 hb11 hp11 hp13 hne12
            go_wp2_with fail
            refine hnt.mono ?_
            rintro e w14 ⟨rfl, hw14⟩
            subst hw14
            clear hnt
            have hp2 : w13.heap[w.heap.size]? = some (.cells zOrd 59 (0, 0)) := HP2z.out
            have hpp := HPz.out
            have i0 : w13.cell? ⟨w1.heap.size, 0, none⟩ = some (.bool on) := cell_of_heap hpp
            have i1 : w13.cell? ⟨w1.heap.size, 1, none⟩ = some (.string (mk verb)) := cell_of_heap hpp
            have i2 : w13.cell? ⟨w1.heap.size, 2, none⟩ = some (.slice ua args.length ac) := cell_of_heap hpp
            have i3 : w13.cell? ⟨w1.heap.size, 3, none⟩ = some (.slice oa outs.length oc) := cell_of_heap hpp
            have i4 : w13.cell? ⟨w1.heap.size, 4, none⟩ = some (.string (mk d)) := cell_of_heap hpp
            have o0 : w13.cell? ⟨w.heap.size, 0, none⟩ = some (.bool false) := cell_of_heap hp2
            have o1 : w13.cell? ⟨w.heap.size, 1, none⟩ = some (.string ⟨#[]⟩) := cell_of_heap hp2
            have o2 : w13.cell? ⟨w.heap.size, 2, none⟩ = some (.slice none 0 0) := cell_of_heap hp2
            have o3 : w13.cell? ⟨w.heap.size, 3, none⟩ = some (.slice none 0 0) := cell_of_heap hp2
            have o4 : w13.cell? ⟨w.heap.size, 4, none⟩ = some (.string ⟨#[]⟩) := cell_of_heap hp2
            have y0 : w13.frozen? ⟨w.heap.size, 0, none⟩ = false := by simp [World.frozen?, hp2]
            have y1 : w13.frozen? ⟨w.heap.size, 1, none⟩ = false := by simp [World.frozen?, hp2]
            have y2 : w13.frozen? ⟨w.heap.size, 2, none⟩ = false := by simp [World.frozen?, hp2]
            have y3 : w13.frozen? ⟨w.heap.size, 3, none⟩ = false := by simp [World.frozen?, hp2]
            have y4 : w13.frozen? ⟨w.heap.size, 4, none⟩ = false := by simp [World.frozen?, hp2]
            clear hpp hp2
            go_wp2_with fail
            have hA := HAz.out.five (v0 := .bool on) (v1 := .string (mk verb)) (v2 := .slice ua args.length ac) (v3 := .slice oa outs.length oc) (v4 := .string (mk d)) HWAA.out HGA.out
            have hO := HOz.out.five (v0 := .bool on) (v1 := .string (mk verb)) (v2 := .slice ua args.length ac) (v3 := .slice oa outs.length oc) (v4 := .string (mk d)) HWO.out HGA.out
            have hB := bel_five (v0 := .bool on) (v1 := .string (mk verb)) (v2 := .slice ua args.length ac) (v3 := .slice oa outs.length oc) (v4 := .string (mk d)) (HBW.out _ HBz.out) (Nat.le_refl _)
            have h5 := five (v0 := .bool on) (v1 := .string (mk verb)) (v2 := .slice ua args.length ac) (v3 := .slice oa outs.length oc) (v4 := .string (mk d)) HP2z.out
            generalize (((((w13.setCell ⟨w.heap.size, 0, none⟩ (.bool on)).setCell ⟨w.heap.size, 1, none⟩ (.string (mk verb))).setCell ⟨w.heap.size, 2, none⟩ (.slice ua args.length ac)).setCell ⟨w.heap.size, 3, none⟩ (.slice oa outs.length oc)).setCell ⟨w.heap.size, 4, none⟩ (.string (mk d))) = w12 at *
            have s0 : w12.cell? ⟨w.heap.size, 0, none⟩ = some (.bool on) := cell_of_heap h5
            have s1 : w12.cell? ⟨w.heap.size, 1, none⟩ = some (.string (mk verb)) := cell_of_heap h5
            have s2 : w12.cell? ⟨w.heap.size, 2, none⟩ = some (.slice ua args.length ac) := cell_of_heap h5
            have s3 : w12.cell? ⟨w.heap.size, 3, none⟩ = some (.slice oa outs.length oc) := cell_of_heap h5
            have s4 : w12.cell? ⟨w.heap.size, 4, none⟩ = some (.string (mk d)) := cell_of_heap h5
            refine bodyPost_ret (v := .agg #[.bool on, .string (mk verb), .slice ua args.length ac, .slice oa outs.length oc, .string (mk d)]) (by simp [results, Tryz.f22, go_sem, s0, s1, s2, s3, s4]) rfl ?_
            refine ⟨?_, hB⟩
            rw [HOE.out]
            exact ⟨_, _, rfl, hA, hO⟩
end Go.Proofs.YtgledabcfonbeaaGreatDoor.Df
