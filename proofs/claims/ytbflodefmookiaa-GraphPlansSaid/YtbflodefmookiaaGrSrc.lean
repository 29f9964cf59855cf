/-
  Sources: all needs that no edge makes, rising.
-/
import Derived.Test.YtbflodefmookiaaGrSortS
import Derived.Test.YtbflodefmookiaaGrWrong
import Derived.Maps.RangeWalk
namespace Go.Proofs.Ytbflodefmookiaa.Gr
open Go.RowKit Go.Maps Go.Proofs.Ytbflodefmookiaa Go.Proofs.Ytbflodefmookiaa.Pr

theorem needs_len {L : List Ed} (h : ∀ e ∈ L, Sm e) : (L.flatMap needsL).length ≤ 30 * L.length := by
  induction L with
  | nil => simp
  | cons a L ih =>
    have h1 := ih fun e he => h e (by simp [he])
    have h2 := h a (by simp)
    have := h2.i; have := h2.m; have := h2.r
    rw [List.flatMap_cons, List.length_append, List.length_cons]
    have h3 : (needsL a).length = a.ins.length + a.imp.length + a.ord.length := by simp [needsL]; omega
    omega
theorem keyS_inv {x : ByteArray} {kl : Lit} (h : keyOf Try.prog 9 (.string x) = some kl) : kl = .string x.data.toList ∧ x.data.toList.length ≤ maxLen := by
  obtain ⟨s, hs, h2, h3⟩ := WideMaps.string_of_keyOf Try.underlying9 h
  injection hs with hs
  subst hs
  refine ⟨h2, ?_⟩
  rw [Array.length_toList]
  exact h3

set_option maxRecDepth 100000 in
set_option maxHeartbeats 16000000 in
theorem sources_c {w : World} {gp : Nat} {ve vd : Value} {m n : Nat} {L : List Ed} {D : List Bs} {mkr : Bs → Option Nat} (hG : Gph w gp ve vd m n L D mkr) :
    Calls Try.prog 21 #[.pointer (some ⟨gp, 0, none⟩)] w fun e w' => ∃ v K, e = .returned v ∧ Rising K (fun s => s ∈ L.flatMap needsL ∧ mkr s = none) ∧ StrsT w' v K ∧ K.length ≤ 30 * L.length ∧ Below w.heap.size w w' := by
  have hor := orNone_c (w := w) (ad := ⟨gp, 0, none⟩)
  have hne := needed_c hG
  have HG := Lib.hid hG
  clear hG
  go_enter Try.func21, Try.ntmps21
  go_wp2_with fail
  refine hor.mono ?_
  rintro e w1 ⟨rfl, rfl⟩
  clear hor
  go_wp2_with fail
  refine hne.mono ?_
  rintro e w1 ⟨mm, k, rfl, hN, hb⟩
  obtain ⟨f, ⟨D0, hown, hhas, hat0⟩, hf⟩ := id hN
  have HB1 := Lib.hid hb
  have HHAS : Hid (∀ s : Bs, Maps.has D0 (.string s) = decide (s ∈ L.flatMap needsL)) := Lib.hid fun s => by
    rw [hhas, hf]
    by_cases h : s ∈ L.flatMap needsL <;> simp [h]
  clear hne hN hb hhas hat0 hf
  go_wp2_with (at_range; refine wpList_range_own _ rfl _ 76 rfl 9 78 lawS Try.underlying76 heldR mm k D0 rfl hown ?_; intro w2 hrg2 hg2 hs2)
  go_frame
  have hb2 : Below w1.heap.size w1 w2 := (Below.refl _ w1).grown hg2 (Nat.le_refl _) (by simp)
  obtain ⟨r1, hr1⟩ : ∃ r1, w1.heap.size = r1 := ⟨_, rfl⟩
  rw [hr1] at hrg2 hs2 hb2
  rw [hr1]
  have HR1 := Lib.hid hr1
  have HNL := Lib.hid (needs_len HG.out.small)
  have hmml : mm < r1 := hr1 ▸ hown.lt
  have HMM := Lib.hid hmml
  have HS2 := Lib.hid hs2
  clear hg2 hown hr1 hmml hs2
  go_loopw [3, 4, 5, 6] (fun v _ _ _ wr => ∃ (left : Lit → Bool) (cnt : Nat) (A : List Bs) (aA : Option Addr) (cA : Nat), wr.ranges Try.prog 9 heldR mm r1 k D0 left cnt ∧ v = .slice aA A.length cA ∧ Hid (wr.ownsRow w2.heap.size 9 1 (.slice aA A.length cA) A.length (strV A)) ∧ Hid A.Nodup ∧ Hid (∀ s, s ∈ A ↔ Maps.has D0 (.string s) = true ∧ left (.string s) = false ∧ mkr s = none) ∧ Hid (Below r1 w1 wr) ∧ Hid (w2.heap.size ≤ wr.heap.size)) (fun _ _ _ _ wr => wr.rangeLeft mm r1)
  case atStart => exact ⟨_, _, [], none, 0, hrg2, rfl, Lib.hid (World.ownsRow_nil _ _ _ _), Lib.hid List.nodup_nil, Lib.hid (fun s => by
    constructor
    · intro h; cases h
    · rintro ⟨h1, h2, _⟩
      rw [h1] at h2
      cases h2), Lib.hid hb2, Lib.hid (Nat.le_refl _)⟩
  case round =>
    clear hrg2 hb2
    obtain ⟨left, cnt, A, aA, cA, hrg, rfl, HO, HND, HMEM, HB, HSZ⟩ := hrel
    have HBW : Hid (Below w.heap.size w wr) := Lib.hid (HB1.out.trans (HB.out.mono (by have := HB1.out.size; have := HR1.out; omega)))
    have HAL : Hid (A.length ≤ 30 * L.length) := Lib.hid (Nat.le_trans (sub_lenB HND.out fun s hs => by
      have := ((HMEM.out s).1 hs).1
      rw [HHAS.out] at this
      exact of_decide_eq_true this) HNL.out)
    have hfw := HG.out.few
    go_wp2_with (at_next; refine wpList_next_ranges _ rfl _ rfl 9 lawS heldR (fun s : ByteArray => Value.string s) (fun v : Value => v) (fun key kl hk => by obtain ⟨s, rfl, _⟩ := WideMaps.string_of_keyOf Try.underlying9 hk; exact ⟨s, rfl⟩) (fun v y _ => ⟨v, rfl⟩) mm r1 k D0 left cnt rfl hrg ?_ ?_)
    · intro hc0 hl0
      have hso := sortS_c HO.out (by have := HAL.out; omega)
      have HRI : Hid (Rising (srt A) (fun s => s ∈ L.flatMap needsL ∧ mkr s = none)) := Lib.hid (sorted_rising HND.out fun s => by
        rw [HMEM.out, HHAS.out]
        constructor
        · rintro ⟨h1, _, h3⟩
          exact ⟨of_decide_eq_true h1, h3⟩
        · rintro ⟨h1, h3⟩
          exact ⟨decide_eq_true h1, hl0 _, h3⟩)
      clear hrg hc0 hl0
      go_wp2_with fail
      refine hso.mono ?_
      rintro e w5 ⟨rfl, hown5, hg5⟩
      have HST := Lib.hid (owns_strsT (by rw [srt_len]; exact hown5 : w5.ownsRow w2.heap.size 9 1 (.slice aA A.length cA) (srt A).length (strV (srt A))))
      have HBF : Hid (Below w.heap.size w w5) := Lib.hid (HBW.out.trans ⟨hg5.os, hg5.tape, hg5.output, hg5.size, fun q hq => hg5.block q (by have := HBW.out.size; omega) fun e => by
        have h1 := (owns_block HO.out e.symm).1
        have h2 := HB1.out.size
        have h3 := HR1.out
        have h4 := HS2.out
        omega⟩)
      clear hso hown5 hg5
      go_wp2_with fail
      go_ret
      exact ⟨_, srt A, rfl, HRI.out, HST.out, by rw [srt_len]; exact HAL.out, HBF.out⟩
    · intro x c kl ya yb w6 cnt1 hkey hlk hv hat hrg1 hlt hg6 hs6 hen
      obtain ⟨rfl, hxl⟩ := keyS_inv hkey
      obtain ⟨sb, hsb⟩ : ∃ sb : Bs, x = mk sb := ⟨x.data.toList, (mk_of x).symm⟩
      subst hsb
      have hd : (mk sb).data.toList = sb := rfl
      rw [hd] at hkey hlk hat hrg1 hxl
      have hhas := has_true_of_atKey hat
      have hO6 : w6.ownsRow w2.heap.size 9 1 (.slice aA A.length cA) A.length (strV A) := owns_kept HO.out fun q hq => hg6.block q (by obtain ⟨_, C, hC⟩ := owns_block HO.out hq; exact lt_some hC) fun e => by
        have h1 := (owns_block HO.out hq).1
        have h4 := HS2.out
        have := Option.some.inj e
        omega
      have hB6 : Below r1 w1 w6 := HB.out.grown hg6 (by have := HB.out.size; have := HR1.out; omega) (by intro q hq; cases hq; exact Nat.le_refl _)
      have HBW6 : Hid (Below w.heap.size w w6) := Lib.hid (HB1.out.trans (hB6.mono (by have := HB1.out.size; have := HR1.out; omega)))
      have hGr := HG.out.below HBW6.out
      have cm : w6.cell? ⟨gp, 2, none⟩ = some (.map (some m)) := by simp [World.cell?, hGr.box]
      have hlk2 := hGr.mks.look (s := sb) hxl
      have HE := Lib.hid hrg.left_eq
      have HE6 := Lib.hid hrg1.left_eq
      have hsame : ∀ s : Bs, (left (.string s) && !(Lit.string s).sameKey (.string sb)) = if s = sb then false else left (.string s) := fun s => by
        by_cases e : s = sb
        · subst e; simp [Lit.sameKey]
        · have : (Lit.string s).sameKey (.string sb) = false := by simp [Lit.sameKey, e]
          rw [this, if_neg e]; simp
      have HSAME := Lib.hid hsame
      have HHS := Lib.hid hhas
      have HLK := Lib.hid hlk
      have HO6 := Lib.hid hO6
      have HB6 := Lib.hid hB6
      have HSZ6 : Hid (w2.heap.size ≤ w6.heap.size) := Lib.hid (by rw [hs6]; exact HSZ.out)
      have HLT := Lib.hid hlt
      cases hms : mkr sb with
      | some q =>
        rw [hms] at hlk2
        have hlk2 : (Instr.lookup 68 (.map (some m)) (.string (mk sb)) true).run Try.prog w6 = .ok (.tuple #[.int .i64 (q : Int), .bool true]) w6 := hlk2
        have HM2 : Hid (∀ s, s ∈ A ↔ Maps.has D0 (.string s) = true ∧ (left (.string s) && !(Lit.string s).sameKey (.string sb)) = false ∧ mkr s = none) := Lib.hid fun s => by
          rw [HMEM.out, HSAME.out]
          by_cases e : s = sb
          · subst e
            rw [hms]
            simp
          · rw [if_neg e]
        have HRG := Lib.hid hrg1
        clear hkey hlk hv hat hrg hrg1 hlt hg6 hs6 hO6 hB6 hGr hsame hhas hms hd
        go_wp2_with fail
        go_roundw
        case rel => exact ⟨_, cnt1, A, aA, cA, HRG.out, rfl, HO6, HND, HM2, HB6, HSZ6⟩
        case measure => rw [HE.out, HE6.out]; exact HLT.out
      | none =>
        rw [hms] at hlk2
        have hlk2 : (Instr.lookup 68 (.map (some m)) (.string (mk sb)) true).run Try.prog w6 = .ok (.tuple #[.int .i64 0, .bool false]) w6 := hlk2
        have hnA : sb ∉ A := fun h => by
          have := ((HMEM.out sb).1 h).2.1
          rw [HLK.out] at this
          cases this
        have HM2 : Hid (∀ s, s ∈ A ++ [sb] ↔ Maps.has D0 (.string s) = true ∧ (left (.string s) && !(Lit.string s).sameKey (.string sb)) = false ∧ mkr s = none) := Lib.hid fun s => by
          rw [List.mem_append, HMEM.out, HSAME.out]
          by_cases e : s = sb
          · subst e
            rw [hms, HHS.out]
            simp
          · rw [if_neg e]
            simp [e]
        have HND2 : Hid (A ++ [sb]).Nodup := Lib.hid (List.nodup_append.2 ⟨HND.out, by simp, fun a ha b hb => by
          rw [List.mem_singleton.1 hb]
          exact fun e => hnA (e ▸ ha)⟩)
        have hA7 := below_alloc w6 (.cells #[.string (mk sb)] 9)
        obtain ⟨a', c', W7, hrun, hO7, hg7⟩ := run_appK (M := [sb]) (owns_below hO6 hA7) (Nat.le_trans HSZ6.out hA7.size) (strs_blk (K := [sb]) (heap_alloc_new w6 (.cells #[.string (mk sb)] 9)) rfl) (by have := HAL.out; simp; omega)
        have hne7 : ∀ q, some q = (Value.slice aA A.length cA).ownBlock → q ≠ mm ∧ q ≠ r1 ∧ r1 ≤ q := fun q hq => by
          have h1 := (owns_block HO6.out hq.symm).1
          have h4 := HS2.out
          have h5 := HMM.out
          omega
        have HRG := Lib.hid ((hrg1.alloc (.cells #[.string (mk sb)] 9)).kept hg7 (fun e => (hne7 mm e).1 rfl) (fun e => (hne7 r1 e).2.1 rfl))
        have HE7 := Lib.hid HRG.out.left_eq
        have HO7 := Lib.hid hO7
        have HB7 : Hid (Below r1 w1 W7) := Lib.hid ((hB6.trans (hA7.mono (by have := hB6.size; have := HR1.out; omega))).trans ⟨hg7.os, hg7.tape, hg7.output, hg7.size, fun q hq => hg7.block q (by have := hB6.size; have := HR1.out; rw [World.size_alloc]; omega) fun e => by
          have := (hne7 q e).2.2
          omega⟩)
        have HSZ7 : Hid (w2.heap.size ≤ W7.heap.size) := Lib.hid (Nat.le_trans HSZ6.out (Nat.le_trans hA7.size hg7.size))
        have HLN : Hid ((A ++ [sb]).length = A.length + 1) := Lib.hid (by simp)
        clear hkey hlk hv hat hrg hrg1 hlt hg6 hs6 hO6 hB6 hGr hsame hhas hms hd hnA hA7 hO7 hg7 hne7
        go_wp2_with (at_builtin; refine wpList_run rfl (.tmp 27) (.tmp 29) rfl rfl rfl hrun ?_)
        clear hrun
        go_roundw
        case rel => exact ⟨_, cnt1, A ++ [sb], a', c', HRG.out, by rw [HLN.out], HO7, HND2, HM2, HB7, HSZ7⟩
        case measure => rw [HE.out, HE7.out]; exact HLT.out
end Go.Proofs.Ytbflodefmookiaa.Gr
