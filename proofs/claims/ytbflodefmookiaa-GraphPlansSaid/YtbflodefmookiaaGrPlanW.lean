/-
  Plan: the order in which what makes some files is done, or that one of them is neither made nor needed.
-/
import Derived.Test.YtbflodefmookiaaGrMaking
namespace Go.Proofs.Ytbflodefmookiaa.Gr
open Go.RowKit Go.Maps Go.Conc Go.Proofs.Ytbflodefmookiaa Go.Proofs.Ytbflodefmookiaa.Pr

/-- a file that is needed, or made -/
def Kno (mkr : Bs → Option Nat) (L : List Ed) (s : Bs) : Prop := s ∈ L.flatMap needsL ∨ (mkr s).isSome = true
theorem plan_nil {w : World} {vt : Value} : Calls Try.prog 15 #[.pointer none, vt] w fun e w' => e = .returned (.tuple #[.slice none 0 0, .int .i64 15]) ∧ w = w' := by
  go_enter Try.func15, Try.ntmps15
  go_wp2_with fail
  refine bodyPost_ret (v := .tuple #[.slice none 0 0, .int .i64 15]) (by simp [results, Try.f15, go_sem]) rfl ?_
  exact ⟨rfl, rfl⟩

set_option maxRecDepth 100000 in
set_option maxHeartbeats 16000000 in
theorem plan_c {w : World} {gp : Nat} {ve vd : Value} {m n : Nat} {L : List Ed} {D : List Bs} {mkr : Bs → Option Nat} {vf : Value} {K : List Bs} (hG : Gph w gp ve vd m n L D mkr)
    (hK : Strs w vf K) (hKl : ∀ x ∈ K, x.length ≤ maxLen) (hlen : K.length ≤ 1000000) :
    Calls Try.prog 15 #[.pointer (some ⟨gp, 0, none⟩), vf] w fun e w' => Below w.heap.size w w' ∧
      ((∃ s ∈ K, ¬ Kno mkr L s) ∧ e = .returned (.tuple #[.slice none 0 0, .int .i64 6]) ∨
       (∀ s ∈ K, Kno mkr L s) ∧ ∃ v M, e = .returned (.tuple #[v, .int .i64 0]) ∧ M.Pairwise (· < ·) ∧ (∀ x, x ∈ M ↔ Reach mkr L K x) ∧ RowI w' w.heap.size v (order (depsL mkr L) M)) := by
  have hne := needed_c hG
  have HG := Lib.hid hG
  have HK := Lib.hid hK
  have HKL := Lib.hid hKl
  obtain ⟨aK, cK, rfl, hcK, hrK⟩ := id hK
  clear hG hK hKl hcK hrK
  go_enter Try.func15, Try.ntmps15
  go_wp2_with fail
  refine hne.mono ?_
  rintro e w1 ⟨mm, k, rfl, hN, hb⟩
  have HN := Lib.hid hN
  have HB := Lib.hid hb
  clear hne hN hb
  go_wp2_with fail
  go_loopw [8, 9, 10, 11, 12, 19] (fun _ _ _ _ _ i W => ∃ (j : Nat), j ≤ K.length ∧ i = .int .i64 j ∧ Hid (Below w1.heap.size w1 W) ∧ Hid (∀ s ∈ K.take j, Kno mkr L s)) (fun _ _ _ _ _ i _ => K.length - (intOf i).toNat)
  case atStart => exact ⟨0, Nat.zero_le _, rfl, Lib.hid (Below.refl _ _), Lib.hid (by simp)⟩
  case round =>
    obtain ⟨j, hj, rfl, HB2, HKN⟩ := hrel
    by_cases hlj : j < K.length
    · have hx := List.getElem?_eq_getElem hlj
      have hsl := HKL.out _ (List.getElem_mem hlj)
      have hmem := List.getElem_mem hlj
      have htk : K.take (j + 1) = K.take j ++ [K[j]] := by rw [List.take_add_one, hx]; rfl
      generalize K[j] = s at *
      have hbW : Below w.heap.size w wr := HB.out.trans (HB2.out.mono HB.out.size)
      have hGr := HG.out.below hbW
      have cm : wr.cell? ⟨gp, 2, none⟩ = some (.map (some m)) := by simp [World.cell?, hGr.box]
      have hlk := hGr.mks.look (s := s) hsl
      have hlk2 := (HN.out.kept (HB2.out.block _ HN.out.lt)).look (s := s) hsl
      have hKr := HK.out.below hbW
      obtain ⟨_, _, eK, _, hKr⟩ := hKr
      cases eK
      rcases hKr with h | ⟨gK, oK, rfl, hgK, hcK⟩
      · rw [h] at hlj; simp at hlj
      have s0 := hcK j s hx
      have hj0 : (0 : Int) ≤ (j : Int) := by omega
      have hj1 : (j : Int) < (K.length : Int) := by omega
      have hA := below_alloc wr (.cells #[] 78)
      have HB3 := Lib.hid (HB2.out.trans (hA.mono HB2.out.size))
      have HBW := Lib.hid (hbW.trans (hA.mono hbW.size))
      have HMS := Lib.hid hmem
      have HTK := Lib.hid htk
      obtain ⟨b1, hb1⟩ : ∃ b1, decide (s ∈ L.flatMap needsL) = b1 := ⟨_, rfl⟩
      obtain ⟨b2, hb2⟩ : ∃ b2, (mkr s).isSome = b2 := ⟨_, rfl⟩
      rw [Option.isSome_map] at hlk
      rw [hb2] at hlk
      rw [hb1] at hlk2
      obtain ⟨v2, hv2⟩ : ∃ v2, ((mkr s).map fun (k : Nat) => Value.int .i64 (k : Int)).getD (.int .i64 0) = v2 := ⟨_, rfl⟩
      rw [hv2] at hlk
      have HKS : Hid (Kno mkr L s ↔ (b1 || b2) = true) := Lib.hid (by
        rw [← hb1, ← hb2]
        simp [Kno])
      clear hx hGr hcK hA hmem htk hbW hb1 hb2 hv2 HB2
      have fin : Hid (b1 = true ∨ b2 = true → ∀ x ∈ K.take (j + 1), Kno mkr L x) := Lib.hid fun h x hx => by
        rw [HTK.out, List.mem_append] at hx
        rcases hx with hx | hx
        · exact HKN.out x hx
        · rw [List.mem_singleton.1 hx, HKS.out]
          simpa using h
      cases b1
      · cases b2
        · go_wp2_with fail
          refine bodyPost_ret (v := .tuple #[.slice none 0 0, .int .i64 6]) (by simp [results, Try.f15, go_sem]) rfl ?_
          exact ⟨HBW.out, .inl ⟨⟨s, HMS.out, fun h => by have := HKS.out.1 h; cases this⟩, rfl⟩⟩
        · go_wp2_with fail
          go_roundw
          case rel => exact ⟨j + 1, by omega, by go_num, HB3, Lib.hid (fin.out (.inr rfl))⟩
          case measure => simp [intOf]; omega
      · go_wp2_with fail
        go_roundw
        case rel => exact ⟨j + 1, by omega, by go_num, HB3, Lib.hid (fin.out (.inl rfl))⟩
        case measure => simp [intOf]; omega
    · have hje : j = K.length := by omega
      subst hje
      have hbW : Below w.heap.size w wr := HB.out.trans (HB2.out.mono HB.out.size)
      have hGr := HG.out.below hbW
      have hKr := HK.out.below hbW
      have hmk := making_c hGr hKr HKL.out hlen
      have HBW := Lib.hid hbW
      have HGr := Lib.hid hGr
      clear hbW hGr hKr
      go_wp2_with fail
      refine hmk.mono ?_
      rintro e w2 ⟨v, M, rfl, hR, hP, hMe, hb2⟩
      have hGr := HGr.out.below (hb2.mono (Nat.le_refl _))
      have hin := inOrder_c hGr hP (fun k hk => ((hMe k).1 hk).lt HG.out.to) hR.read
      have HBW2 := Lib.hid (HBW.out.trans (hb2.mono HBW.out.size))
      have HP := Lib.hid (show M.Pairwise (· < ·) ∧ ∀ x, x ∈ M ↔ Reach mkr L K x from ⟨hP, hMe⟩)
      clear hmk hR hP hMe hb2 hGr
      go_wp2_with fail
      refine hin.mono ?_
      rintro e w3 ⟨vp, rfl, hR, hb3⟩
      have HR := Lib.hid hR
      have HB3 := Lib.hid hb3
      clear hin hR hb3
      go_wp2_with fail
      refine bodyPost_ret (v := .tuple #[vp, .int .i64 0]) (by simp [results, Try.f15, go_sem]) rfl ?_
      have hk := HKN.out
      rw [List.take_length] at hk
      exact ⟨HBW2.out.trans (HB3.out.mono HBW2.out.size), .inr ⟨hk, vp, M, rfl, HP.out.1, HP.out.2, HR.out.1, ownsRow_base_a HR.out.2 HBW2.out.size⟩⟩
end Go.Proofs.Ytbflodefmookiaa.Gr
