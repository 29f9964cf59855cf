/-
  THE DOCUMENT's Outs and Sources.
  THE DOCUMENT's Targets.
-/
import Derived.Test.YtbflodefmookiaaGrPutR
import Derived.Test.YtbflodefmookiaaGrBelow
import Derived.Test.YtbflodefmookiaaGrWrong
namespace Go.Proofs.Ytbflodefmookiaa.Gr
open Go.RowKit Go.Maps Go.Proofs.Ytbflodefmookiaa Go.Proofs.Ytbflodefmookiaa.Pr

theorem Rising.cg {K : List Bs} {p q : Bs → Prop} (h : Rising K p) (e : ∀ s, p s ↔ q s) : Rising K q := ⟨h.nd, h.le, fun s => (h.mem s).trans (e s)⟩
/-- the manifest's box, and nothing old is touched -/
structure Bx (w W : World) (bb : Nat) (C : Array Value) (t : TypeId) : Prop where
  bx : W.heap[bb]? = some (.cells C t (0, 0))
  bel : Below w.heap.size w W
theorem Bx.below {w W W' : World} {bb : Nat} {C : Array Value} {t : TypeId} (h : Bx w W bb C t) (hb : Below W.heap.size W W') : Bx w W' bb C t :=
  ⟨(hb.block _ (lt_some h.bx)).trans h.bx, h.bel.trans (hb.mono h.bel.size)⟩
theorem Bx.c0 {w W : World} {bb : Nat} {a b : Value} {t : TypeId} (h : Bx w W bb #[a, b] t) : W.cell? ⟨bb, 0, none⟩ = some a := by rw [Lib.cell_of_heap h.bx]; rfl
theorem Bx.c1 {w W : World} {bb : Nat} {a b : Value} {t : TypeId} (h : Bx w W bb #[a, b] t) : W.cell? ⟨bb, 1, none⟩ = some b := by rw [Lib.cell_of_heap h.bx]; rfl
theorem take1 {K : List Bs} {m : Nat} {s : Bs} (h : K[m]? = some s) : K.take (m + 1) = K.take m ++ [s] := by rw [List.take_add_one, h]; rfl
theorem needs_take {L : List Ed} {j : Nat} {x : Ed} (h : L[j]? = some x) : (L.take (j + 1)).flatMap needsL = (L.take j).flatMap needsL ++ needsL x := by
  rw [List.take_add_one, h]
  simp

set_option maxRecDepth 100000 in
set_option maxHeartbeats 32000000 in
theorem outsR_c {w : World} {u0 u1 : Value} {L : List Ed} (hL : Eds w u0 L) (hs : ∀ e ∈ L, Sm e) (hl : L.length ≤ 1000) :
    Calls Try.prog 24 #[.agg #[u0, u1]] w fun e w' => ∃ v K, e = .returned v ∧ StrsT w' v K ∧ Rising K (fun s => s ∈ allOuts L) ∧ K.length ≤ 10 * L.length ∧ Below w.heap.size w w' := by
  have hA := below_alloc w (.cells #[u0, u1] 25)
  have hb := heap_alloc_new w (.cells #[u0, u1] 25)
  obtain ⟨wB, hwB⟩ : ∃ wB, w.alloc (.cells #[u0, u1] 25) = wB := ⟨_, rfl⟩
  rw [hwB] at hA hb
  obtain ⟨a0, k0, rfl, -, -⟩ := id hL
  have HN0 : Hid (Bx w wB w.heap.size #[.slice a0 L.length k0, u1] 25) := Lib.hid ⟨hb, hA⟩
  have HL := Lib.hid hL
  have HS := Lib.hid hs
  have HWB := Lib.hid hwB
  obtain ⟨n, hn⟩ : ∃ n, L.length = n := ⟨_, rfl⟩
  have HN := Lib.hid hn
  rw [hn] at HN0 hl HWB
  obtain ⟨bb, hbb⟩ : ∃ bb, w.heap.size = bb := ⟨_, rfl⟩
  rw [hbb] at HN0
  clear hA hb hwB hL hs
  go_enter Try.func24, Try.ntmps24
  go_upto_region 1 with fail
  rw [hn, HWB.out]
  clear HWB hn
  go_wp2_with fail
  go_loopw [3, 4, 5] (fun v i _ W => ∃ (t : Nat) (K : List Bs), t ≤ n ∧ i = .int .i64 t ∧ K.length ≤ 10 * t ∧ Hid (K = [] → v = .slice none 0 0) ∧ Hid (StrsT W v K) ∧ Hid (Rising K fun s => s ∈ allOuts (L.take t)) ∧ Hid (Bx w W bb #[.slice a0 n k0, u1] 25)) (fun _ i _ _ => n - (intOf i).toNat)
  case atStart => exact ⟨0, [], Nat.zero_le _, rfl, by simp, Lib.hid fun _ => rfl, Lib.hid ⟨⟨none, 0, rfl, Nat.le_refl _, .inl rfl⟩, .inl rfl⟩, Lib.hid ⟨List.nodup_nil, List.Pairwise.nil, fun s => by simp [allOuts]⟩, HN0⟩
  case round =>
    clear HN0
    obtain ⟨t, K, ht, rfl, hKl, HNI, HST, HRI, HQ⟩ := hrel
    have c0 := HQ.out.c0
    by_cases hlt : t < n
    · have hlt2 : t < L.length := by rw [HN.out]; exact hlt
      have hx := List.getElem?_eq_getElem hlt2
      have hsE := HS.out _ (List.getElem_mem hlt2)
      generalize L[t] = x at *
      have hol := hsE.o
      have HX := Lib.hid hx
      clear hlt2 hsE hx
      go_wp2_with fail
      clear c0
      go_loopw [3, 5] (fun v i W => ∃ (m : Nat) (K : List Bs), m ≤ x.outs.length ∧ i = .int .i64 m ∧ K.length ≤ 10 * t + m ∧ Hid (K = [] → v = .slice none 0 0) ∧ Hid (StrsT W v K) ∧ Hid (Rising K fun s => s ∈ allOuts (L.take t) ∨ s ∈ x.outs.take m) ∧ Hid (Bx w W bb #[.slice a0 n k0, u1] 25)) (fun _ i _ => x.outs.length - (intOf i).toNat)
      case atStart => exact ⟨0, K, Nat.zero_le _, rfl, hKl, HNI, HST, Lib.hid (HRI.out.cg fun s => by simp), HQ⟩
      case round =>
        clear HQ HNI HST HRI hKl K
        obtain ⟨m, K, hm, rfl, hKl, HNI, HST, HRI, HQ⟩ := hrel
        have c0 := HQ.out.c0
        obtain ⟨ge, off, ce, v0, v1, v2, v3, e1, hge, hE, r0, r1, r2, r3, r4, r5⟩ := (HL.out.below HQ.out.bel).at HX.out
        rw [HN.out] at e1
        cases e1
        have hi0 : (0 : Int) ≤ (t : Int) := by omega
        have hi1 : (t : Int) < (n : Int) := by omega
        obtain ⟨y0, z0, y1, z1, y2, z2, y3, z3, rfl, rfl, rfl, rfl⟩ := hE.sl
        clear r1 r2 r3 r4 r5
        by_cases hlm : m < x.outs.length
        · have hx2 := List.getElem?_eq_getElem hlm
          generalize x.outs[m] = s at *
          obtain ⟨_, _, eS, _, hSr⟩ := hE.o
          cases eS
          rcases hSr with h | ⟨gS, oS, rfl, hgS, hcS⟩
          · rw [h] at hlm; simp at hlm
          have s0 := hcS m s hx2
          have hj0 : (0 : Int) ≤ (m : Int) := by omega
          have hj1 : (m : Int) < (x.outs.length : Int) := by omega
          have hput := putR_c (s := s) HST.out HRI.out (by omega) HNI.out
          have HT := Lib.hid (take1 hx2)
          clear hx2 hcS hE hge hgS
          go_wp2_with fail
          refine hput.mono ?_
          rintro e w2 ⟨v2, K2, rfl, hS2, hR2, hl2, hb2⟩
          have HS2 := Lib.hid hS2
          have HR2 : Hid (Rising K2 fun s => s ∈ allOuts (L.take t) ∨ s ∈ x.outs.take (m + 1)) := Lib.hid (hR2.cg fun y => by rw [HT.out, List.mem_append, List.mem_singleton, or_assoc])
          have HQ2 := Lib.hid (HQ.out.below hb2)
          have HN2 : Hid (K2 = [] → v2 = .slice none 0 0) := Lib.hid fun h => by
            have := (hR2.mem s).2 (.inr rfl)
            rw [h] at this
            cases this
          clear hput hS2 hR2 hb2 c0 r0 s0 HQ HNI HST HRI
          go_wp2_with fail
          go_roundw
          case rel => exact ⟨m + 1, K2, by omega, by go_num, by omega, HN2, HS2, HR2, HQ2⟩
          case measure => simp [intOf]; omega
        · obtain rfl : m = x.outs.length := by omega
          have HR2 : Hid (Rising K fun s => s ∈ allOuts (L.take (t + 1))) := Lib.hid (HRI.out.cg fun s => by
            unfold allOuts
            rw [List.take_add_one, HX.out, List.take_length]
            simp)
          clear hge hE HRI
          go_wp2_with fail
          go_roundw
          case rel => exact ⟨t + 1, K, by omega, by go_num, by omega, HNI, HST, HR2, HQ⟩
          case measure => simp [intOf]; omega
    · obtain rfl : t = n := by omega
      have HR2 : Hid (Rising K fun s => s ∈ allOuts L) := Lib.hid (by
        have := HRI.out
        rwa [← HN.out, List.take_length] at this)
      go_wp2_with fail
      go_ret
      exact ⟨_, K, rfl, HST.out, HR2.out, by rw [HN.out]; exact hKl, HQ.out.bel⟩

set_option maxRecDepth 100000 in
set_option maxHeartbeats 32000000 in
theorem sourcesR_c {w : World} {u0 u1 : Value} {L : List Ed} {mkr : Bs → Option Nat} (hL : Eds w u0 L) (hm : makers L = some mkr) (hs : ∀ e ∈ L, Sm e) (hl : L.length ≤ 1000) :
    Calls Try.prog 22 #[.agg #[u0, u1]] w fun e w' => ∃ v K, e = .returned v ∧ StrsT w' v K ∧ Rising K (fun s => s ∈ L.flatMap needsL ∧ mkr s = none) ∧ K.length ≤ 30 * L.length ∧ Below w.heap.size w w' := by
  have hA := below_alloc w (.cells #[u0, u1] 25)
  have hb := heap_alloc_new w (.cells #[u0, u1] 25)
  obtain ⟨wB, hwB⟩ : ∃ wB, w.alloc (.cells #[u0, u1] 25) = wB := ⟨_, rfl⟩
  rw [hwB] at hA hb
  obtain ⟨a0, k0, rfl, -, -⟩ := id hL
  have HN0 : Hid (Bx w wB w.heap.size #[.slice a0 L.length k0, u1] 25) := Lib.hid ⟨hb, hA⟩
  have HL := Lib.hid hL
  have HS := Lib.hid hs
  have HMK := Lib.hid hm
  have HWB := Lib.hid hwB
  obtain ⟨n, hn⟩ : ∃ n, L.length = n := ⟨_, rfl⟩
  have HN := Lib.hid hn
  rw [hn] at HN0 hl HWB
  obtain ⟨bb, hbb⟩ : ∃ bb, w.heap.size = bb := ⟨_, rfl⟩
  rw [hbb] at HN0
  clear hA hb hwB hL hs hm
  go_enter Try.func22, Try.ntmps22
  go_upto_region 1 with fail
  rw [hn, HWB.out]
  clear HWB hn
  go_wp2_with fail
  go_loopw [3, 4, 5, 6] (fun v i _ _ W => ∃ (t : Nat) (K : List Bs), t ≤ n ∧ i = .int .i64 t ∧ K.length ≤ 30 * t ∧ Hid (K = [] → v = .slice none 0 0) ∧ Hid (StrsT W v K) ∧ Hid (Rising K fun s => s ∈ (L.take t).flatMap needsL ∧ mkr s = none) ∧ Hid (Bx w W bb #[.slice a0 n k0, u1] 25)) (fun _ i _ _ _ => n - (intOf i).toNat)
  case atStart => exact ⟨0, [], Nat.zero_le _, rfl, by simp, Lib.hid fun _ => rfl, Lib.hid ⟨⟨none, 0, rfl, Nat.le_refl _, .inl rfl⟩, .inl rfl⟩, Lib.hid ⟨List.nodup_nil, List.Pairwise.nil, fun s => by simp⟩, HN0⟩
  case round =>
    clear HN0
    obtain ⟨t, K, ht, rfl, hKl, HNI, HST, HRI, HQ⟩ := hrel
    have c0 := HQ.out.c0
    by_cases hlt : t < n
    · have hlt2 : t < L.length := by rw [HN.out]; exact hlt
      have hx := List.getElem?_eq_getElem hlt2
      have hsE := HS.out _ (List.getElem_mem hlt2)
      generalize L[t] = x at *
      obtain ⟨ge, off, ce, v0, v1, v2, v3, e1, hge, hE, r0, r1, r2, r3, r4, r5⟩ := (HL.out.below HQ.out.bel).at hx
      rw [HN.out] at e1
      cases e1
      have hnd := needsR_c hE (by have := hsE.i; omega) (by have := hsE.m; omega) (by have := hsE.r; omega)
      obtain ⟨y0, z0, y1, z1, y2, z2, y3, z3, rfl, rfl, rfl, rfl⟩ := hE.sl
      have hi0 : (0 : Int) ≤ (t : Int) := by omega
      have hi1 : (t : Int) < (n : Int) := by omega
      have hNl : (needsL x).length ≤ 30 := by have := hsE.i; have := hsE.m; have := hsE.r; simp [needsL]; omega
      have HTK := Lib.hid (needs_take hx)
      obtain ⟨N, hN⟩ : ∃ N, needsL x = N := ⟨_, rfl⟩
      rw [hN] at hnd hNl HTK
      have HX := Lib.hid hx
      clear hlt2 hsE hx hE hge hN
      go_wp2_with fail
      refine hnd.mono ?_
      rintro e w3 ⟨vN, rfl, hS, -, hb3⟩
      obtain ⟨⟨aN, cN, rfl, -, -⟩, -⟩ := id hS
      have HSN := Lib.hid hS
      have HQ3 := Lib.hid (HQ.out.below hb3)
      have HST3 := Lib.hid (HST.out.below hb3)
      clear hnd hS hb3 c0 r0 r1 r2 r3 r4 r5 HQ HST
      go_wp2_with fail
      go_loopw [3, 6] (fun v i W => ∃ (m : Nat) (K : List Bs), m ≤ N.length ∧ i = .int .i64 m ∧ K.length ≤ 30 * t + m ∧ Hid (K = [] → v = .slice none 0 0) ∧ Hid (StrsT W v K) ∧ Hid (Rising K fun s => (s ∈ (L.take t).flatMap needsL ∨ s ∈ N.take m) ∧ mkr s = none) ∧ Hid (Bx w W bb #[.slice (some ⟨ge, off, none⟩) n k0, u1] 25) ∧ Hid (Below w3.heap.size w3 W)) (fun _ i _ => N.length - (intOf i).toNat)
      case atStart => exact ⟨0, K, Nat.zero_le _, rfl, hKl, HNI, HST3, Lib.hid (HRI.out.cg fun s => by simp), HQ3, Lib.hid (Below.refl _ _)⟩
      case round =>
        clear HQ3 HNI HST3 HRI hKl K
        obtain ⟨m, K, hm, rfl, hKl, HNI, HST, HRI, HQ, HB3⟩ := hrel
        by_cases hlm : m < N.length
        · have hx2 := List.getElem?_eq_getElem hlm
          generalize N[m] = s at *
          obtain ⟨_, _, eS, _, hSr⟩ := (HSN.out.below HB3.out).1
          cases eS
          rcases hSr with h | ⟨gS, oS, rfl, hgS, hcS⟩
          · rw [h] at hlm; simp at hlm
          have s0 := hcS m s hx2
          have c0 := HQ.out.c0
          have c1 := HQ.out.c1
          have hmr := makerR_c (w := wr.drew) (u1 := u1) (s := s) ((HL.out.below HQ.out.bel).below ⟨rfl, rfl, rfl, Nat.le_refl _, fun _ _ => rfl⟩) HMK.out (by rw [HN.out]; omega) (fun e he => by have := (HS.out e he).o; omega)
          rw [HN.out] at hmr
          have hbl := lt_some HQ.out.bx
          have hmr2 := hmr.mono (R' := fun e w' => (e = .returned (mkV (mkr s)) ∧ Below wr.heap.size wr w') ∧ (w'.cell? ⟨bb, 0, none⟩ = some (.slice (some ⟨ge, off, none⟩) n k0) ∧ w'.cell? ⟨bb, 1, none⟩ = some u1 ∧ w'.cell? ⟨gS, oS + m, none⟩ = some (.string (mk s)))) fun e w' ⟨h1, h2⟩ => by
            have h5 : Below wr.heap.size wr w' := ⟨h2.os, h2.tape, h2.output, h2.size, h2.block⟩
            exact ⟨⟨h1, h5⟩, (cell_of_block (h5.block bb hbl)).trans c0, (cell_of_block (h5.block bb hbl)).trans c1, (cell_of_block (h5.block gS hgS)).trans s0⟩
          have k0' : wr.drew.cell? ⟨bb, 0, none⟩ = some (.slice (some ⟨ge, off, none⟩) n k0) ∧ wr.drew.cell? ⟨bb, 1, none⟩ = some u1 ∧ wr.drew.cell? ⟨gS, oS + m, none⟩ = some (.string (mk s)) := ⟨c0, c1, s0⟩
          have hj0 : (0 : Int) ≤ (m : Int) := by omega
          have hj1 : (m : Int) < (N.length : Int) := by omega
          have HT := Lib.hid (take1 hx2)
          have HGS := Lib.hid hgS
          have HC0 := Lib.hid s0
          clear hx2 hcS hmr hbl hgS
          cases hms : mkr s with
          | some d =>
            have HR2 : Hid (Rising K fun s => (s ∈ (L.take t).flatMap needsL ∨ s ∈ N.take (m + 1)) ∧ mkr s = none) := Lib.hid (HRI.out.cg fun y => by
              rw [HT.out, List.mem_append, List.mem_singleton]
              constructor
              · exact fun ⟨h1, h2⟩ => ⟨h1.elim .inl fun h => .inr (.inl h), h2⟩
              · rintro ⟨h1 | h1 | rfl, h2⟩
                · exact ⟨.inl h1, h2⟩
                · exact ⟨.inr h1, h2⟩
                · rw [hms] at h2; cases h2)
            have hd0 : ¬ (d : Int) < 0 := by omega
            simp only [hms, mkV] at hmr2
            clear hms
            go_wp2_with fail
            go_region_held3 (fun w' => w'.cell? ⟨bb, 0, none⟩ = some (.slice (some ⟨ge, off, none⟩) n k0) ∧ w'.cell? ⟨bb, 1, none⟩ = some u1 ∧ w'.cell? ⟨gS, oS + m, none⟩ = some (.string (mk s)))
              (first | exact k0' | exact k1)
              (first
                | (go_at_call 18; (with_reducible refine hmr2.mono ?_); rintro e w4 ⟨⟨rfl, hb4⟩, k1⟩))
            have s4 := k1.2.2
            clear hmr2 k0' k1 c0 c1 s0
            have HQ4 := Lib.hid (HQ.out.below hb4)
            have HST4 := Lib.hid (HST.out.below hb4)
            have HB4 := Lib.hid (HB3.out.trans (hb4.mono HB3.out.size))
            clear hb4 HQ HST HB3 HGS HC0
            clear HRI s4
            go_wp2_with fail
            go_roundw
            case rel => exact ⟨m + 1, K, by omega, by go_num, by omega, HNI, HST4, HR2, HQ4, HB4⟩
            case measure => simp [intOf]; omega
          | none =>
            have HMS := Lib.hid hms
            simp only [hms, mkV] at hmr2
            clear hms
            go_wp2_with fail
            go_region_held3 (fun w' => w'.cell? ⟨bb, 0, none⟩ = some (.slice (some ⟨ge, off, none⟩) n k0) ∧ w'.cell? ⟨bb, 1, none⟩ = some u1 ∧ w'.cell? ⟨gS, oS + m, none⟩ = some (.string (mk s)))
              (first | exact k0' | exact k1)
              (first
                | (go_at_call 18; (with_reducible refine hmr2.mono ?_); rintro e w4 ⟨⟨rfl, hb4⟩, k1⟩))
            have s4 := k1.2.2
            clear hmr2 k0' k1 c0 c1 s0
            have HQ4 := Lib.hid (HQ.out.below hb4)
            have HST4 := Lib.hid (HST.out.below hb4)
            have HB4 := Lib.hid (HB3.out.trans (hb4.mono HB3.out.size))
            clear hb4 HQ HST HB3 HGS HC0
            have hput := putR_c (s := s) HST4.out HRI.out (by omega) HNI.out
            go_wp2_with fail
            refine hput.mono ?_
            rintro e w5 ⟨v5, K5, rfl, hS5, hR5, hl5, hb5⟩
            have HS5 := Lib.hid hS5
            have HR5 : Hid (Rising K5 fun s => (s ∈ (L.take t).flatMap needsL ∨ s ∈ N.take (m + 1)) ∧ mkr s = none) := Lib.hid (hR5.cg fun y => by
              rw [HT.out, List.mem_append, List.mem_singleton]
              constructor
              · rintro (⟨h1, h2⟩ | rfl)
                · exact ⟨h1.elim .inl fun h => .inr (.inl h), h2⟩
                · exact ⟨.inr (.inr rfl), HMS.out⟩
              · rintro ⟨h1 | h1 | rfl, h2⟩
                · exact .inl ⟨.inl h1, h2⟩
                · exact .inl ⟨.inr h1, h2⟩
                · exact .inr rfl)
            have HQ5 := Lib.hid (HQ4.out.below hb5)
            have HB5 := Lib.hid (HB4.out.trans (hb5.mono HB4.out.size))
            have HN5 : Hid (K5 = [] → v5 = .slice none 0 0) := Lib.hid fun h => by
              have := (hR5.mem s).2 (.inr rfl)
              rw [h] at this
              cases this
            clear hput hS5 hR5 hb5 s4 HQ4 HNI HST4 HRI HB4
            go_wp2_with fail
            go_roundw
            case rel => exact ⟨m + 1, K5, by omega, by go_num, by omega, HN5, HS5, HR5, HQ5, HB5⟩
            case measure => simp [intOf]; omega
        · obtain rfl : m = N.length := by omega
          have HR2 : Hid (Rising K fun s => s ∈ (L.take (t + 1)).flatMap needsL ∧ mkr s = none) := Lib.hid (HRI.out.cg fun s => by
            rw [HTK.out, List.mem_append, List.take_length])
          clear HRI
          go_wp2_with fail
          go_roundw
          case rel => exact ⟨t + 1, K, by omega, by go_num, by omega, HNI, HST, HR2, HQ⟩
          case measure => simp [intOf]; omega
    · obtain rfl : t = n := by omega
      have HR2 : Hid (Rising K fun s => s ∈ L.flatMap needsL ∧ mkr s = none) := Lib.hid (by
        have := HRI.out
        rwa [← HN.out, List.take_length] at this)
      go_wp2_with fail
      go_ret
      exact ⟨_, K, rfl, HST.out, HR2.out, by rw [HN.out]; exact hKl, HQ.out.bel⟩
end Go.Proofs.Ytbflodefmookiaa.Gr
namespace Go.Proofs.Ytbflodefmookiaa.Gr
open Go.RowKit Go.Maps Go.Proofs.Ytbflodefmookiaa Go.Proofs.Ytbflodefmookiaa.Pr

/-- what no edge needs -/
def free (L : List Ed) (s : Bs) : Bool := decide (s ∉ L.flatMap needsL)
def tgt (L : List Ed) (D : List Bs) : List Bs := if D = [] then (allOuts L).filter (free L) else D
theorem outs_len {L : List Ed} (h : ∀ e ∈ L, Sm e) : (allOuts L).length ≤ 10 * L.length := by
  unfold allOuts
  induction L with
  | nil => simp
  | cons a L ih =>
    have h1 := ih fun e he => h e (by simp [he])
    have := (h a (by simp)).o
    rw [List.flatMap_cons, List.length_append, List.length_cons]
    omega
set_option maxRecDepth 100000 in
set_option maxHeartbeats 32000000 in
theorem targetsR_c {w : World} {u0 u1 : Value} {L : List Ed} {D : List Bs} (hL : Eds w u0 L) (hD : Strs w u1 D) (hs : ∀ e ∈ L, Sm e) (hl : L.length ≤ 1000) :
    Calls Try.prog 26 #[.agg #[u0, u1]] w fun e w' => ∃ v, e = .returned v ∧ Strs w' v (tgt L D) ∧ Below w.heap.size w w' := by
  have hA := below_alloc w (.cells #[u0, u1] 25)
  have hb := heap_alloc_new w (.cells #[u0, u1] 25)
  obtain ⟨wB, hwB⟩ : ∃ wB, w.alloc (.cells #[u0, u1] 25) = wB := ⟨_, rfl⟩
  rw [hwB] at hA hb
  obtain ⟨a0, k0, rfl, -, -⟩ := id hL
  have hDB := hD.below hA
  obtain ⟨aD, kD, rfl, -, -⟩ := id hD
  have hN0 : Nq w wB w.heap.size #[.slice a0 L.length k0, .slice aD D.length kD] 25 (.slice none ([] : List Bs).length 0) [] := ⟨World.ownsRow_nil _ _ _ _, hb, hA⟩
  have HN0 := Lib.hid hN0
  have HDB := Lib.hid hDB
  have HL := Lib.hid hL
  have HS := Lib.hid hs
  have HWB := Lib.hid hwB
  obtain ⟨n, hn⟩ : ∃ n, L.length = n := ⟨_, rfl⟩
  have HN := Lib.hid hn
  rw [hn] at HN0 hl HWB
  obtain ⟨bb, hbb⟩ : ∃ bb, w.heap.size = bb := ⟨_, rfl⟩
  rw [hbb] at HN0
  have c0 : wB.cell? ⟨bb, 0, none⟩ = some (.slice a0 n k0) := by rw [Lib.cell_of_heap HN0.out.bx]; rfl
  have c1 : wB.cell? ⟨bb, 1, none⟩ = some (.slice aD D.length kD) := by rw [Lib.cell_of_heap HN0.out.bx]; rfl
  clear hA hb hwB hN0 hL hs hD hDB
  by_cases hd0 : D = []
  · have HT : Hid (tgt L D = (allOuts L).filter (free L)) := Lib.hid (by rw [tgt, if_pos hd0])
    have hdl : D.length = 0 := by rw [hd0]; rfl
    rw [hdl] at c1 HN0 HWB ⊢
    clear hd0 hdl HDB
    go_enter Try.func26, Try.ntmps26
    go_upto_region 1 with fail
    rw [hn, HWB.out]
    clear HWB hn
    go_wp2_with fail
    clear c0 c1
    go_loopw [3, 4, 5, 6, 7, 8] (fun v i _ _ _ _ W => ∃ (t : Nat) (va : Option Addr) (vc : Nat) (A : List Bs), t ≤ n ∧ i = .int .i64 t ∧ v = .slice va A.length vc ∧ Hid (A = (allOuts (L.take t)).filter (free L)) ∧ A.length ≤ 10 * t ∧ Hid (Nq w W bb #[.slice a0 n k0, .slice aD 0 kD] 25 (.slice va A.length vc) A)) (fun _ i _ _ _ _ _ => n - (intOf i).toNat)
    case atStart => exact ⟨0, _, _, [], Nat.zero_le _, rfl, rfl, Lib.hid rfl, by simp, HN0⟩
    case round =>
      clear HN0
      obtain ⟨t, va, vc, A, ht, rfl, rfl, HA, hAl, HQ⟩ := hrel
      have c0 : wr.cell? ⟨bb, 0, none⟩ = some (.slice a0 n k0) := by rw [Lib.cell_of_heap HQ.out.bx]; rfl
      by_cases hlt : t < n
      · have hlt2 : t < L.length := by rw [HN.out]; exact hlt
        have hx := List.getElem?_eq_getElem hlt2
        have hsE := HS.out _ (List.getElem_mem hlt2)
        generalize L[t] = x at *
        have hol := hsE.o
        have HX := Lib.hid hx
        clear hlt2 hsE hx
        go_wp2_with fail
        clear c0
        go_loopw [3, 5, 6, 7, 8] (fun v i _ _ _ W => ∃ (m : Nat) (va : Option Addr) (vc : Nat) (A2 : List Bs), m ≤ x.outs.length ∧ i = .int .i64 m ∧ v = .slice va A2.length vc ∧ Hid (A2 = A ++ (x.outs.take m).filter (free L)) ∧ A2.length ≤ 10 * t + m ∧ Hid (Nq w W bb #[.slice a0 n k0, .slice aD 0 kD] 25 (.slice va A2.length vc) A2)) (fun _ i _ _ _ _ => x.outs.length - (intOf i).toNat)
        case atStart => exact ⟨0, va, vc, A, Nat.zero_le _, rfl, rfl, Lib.hid (by simp), by omega, HQ⟩
        case round =>
          clear HQ
          obtain ⟨m, va, vc, A2, hm, rfl, rfl, HA2, hAl2, HQ⟩ := hrel
          have c0 : wr.cell? ⟨bb, 0, none⟩ = some (.slice a0 n k0) := by rw [Lib.cell_of_heap HQ.out.bx]; rfl
          obtain ⟨ge, off, ce, v0, v1, v2, v3, e1, hge, hE, r0, r1, r2, r3, r4, r5⟩ := (HL.out.below HQ.out.bel).at HX.out
          rw [HN.out] at e1
          cases e1
          have hi0 : (0 : Int) ≤ (t : Int) := by omega
          have hi1 : (t : Int) < (n : Int) := by omega
          obtain ⟨y0, z0, y1, z1, y2, z2, y3, z3, rfl, rfl, rfl, rfl⟩ := hE.sl
          clear r1 r2 r3 r4 r5
          by_cases hlm : m < x.outs.length
          · have hx2 := List.getElem?_eq_getElem hlm
            have htk : x.outs.take (m + 1) = x.outs.take m ++ [x.outs[m]] := take1 hx2
            generalize x.outs[m] = s at *
            obtain ⟨_, _, eS, _, hSr⟩ := hE.o
            cases eS
            rcases hSr with h | ⟨gS, oS, rfl, hgS, hcS⟩
            · rw [h] at hlm; simp at hlm
            have s0 := hcS m s hx2
            have hj0 : (0 : Int) ≤ (m : Int) := by omega
            have hj1 : (m : Int) < (x.outs.length : Int) := by omega
            have HTK := Lib.hid htk
            clear hx2 htk hcS hE hge hgS
            go_wp2_with fail
            clear c0 r0 s0
            go_loopw [7, 8] (fun b i W => ∃ (j : Nat), j ≤ n ∧ i = .int .i64 j ∧ b = .bool (decide (s ∈ (L.take j).flatMap needsL)) ∧ Hid (Nq w W bb #[.slice (some ⟨ge, off, none⟩) n k0, .slice aD 0 kD] 25 (.slice va A2.length vc) A2)) (fun _ i _ => n - (intOf i).toNat)
            case atStart => exact ⟨0, Nat.zero_le _, rfl, by simp, HQ⟩
            case round =>
              clear HQ
              obtain ⟨j, hj, rfl, rfl, HQ⟩ := hrel
              have c0 : wr.cell? ⟨bb, 0, none⟩ = some (.slice (some ⟨ge, off, none⟩) n k0) := by rw [Lib.cell_of_heap HQ.out.bx]; rfl
              by_cases hlj : j < n
              · have hlj2 : j < L.length := by rw [HN.out]; exact hlj
                have hy := List.getElem?_eq_getElem hlj2
                have hsY := HS.out _ (List.getElem_mem hlj2)
                generalize L[j] = y at *
                have hmem : s ∈ (L.take (j + 1)).flatMap needsL ↔ s ∈ (L.take j).flatMap needsL ∨ s ∈ needsL y := by rw [needs_take hy, List.mem_append]
                by_cases hu : s ∈ (L.take j).flatMap needsL
                · rw [decide_eq_true hu]
                  have HU : Hid (decide (s ∈ (L.take (j + 1)).flatMap needsL) = true) := Lib.hid (decide_eq_true (hmem.2 (.inl hu)))
                  clear hy hsY hmem hu hlj2
                  go_wp2_with fail
                  go_roundw
                  case rel => exact ⟨j + 1, by omega, by go_num, by rw [HU.out], HQ⟩
                  case measure => simp [intOf]; omega
                · rw [decide_eq_false hu]
                  obtain ⟨ge', off', ce', v0, v1, v2, v3, e1, hge, hE, r0, r1, r2, r3, r4, r5⟩ := (HL.out.below HQ.out.bel).at hy
                  rw [HN.out] at e1
                  cases e1
                  have hnd := needsR_c hE (by have := hsY.i; omega) (by have := hsY.m; omega) (by have := hsY.r; omega)
                  obtain ⟨y0, z0, y1, z1, y2, z2, y3, z3, rfl, rfl, rfl, rfl⟩ := hE.sl
                  have hNl : (needsL y).length ≤ 30 := by have := hsY.i; have := hsY.m; have := hsY.r; simp [needsL]; omega
                  have HU : Hid (decide (s ∈ (L.take (j + 1)).flatMap needsL) = decide (s ∈ needsL y)) := Lib.hid (by
                    refine decide_eq_decide.2 (hmem.trans ⟨fun h => h.elim (fun h => absurd h hu) id, .inr⟩))
                  have hi0 : (0 : Int) ≤ (j : Int) := by omega
                  have hi1 : (j : Int) < (n : Int) := by omega
                  clear hy hsY hmem hu hlj2 hE hge
                  go_wp2_with fail
                  refine hnd.mono ?_
                  rintro e w3 ⟨vN, rfl, hS, -, hb3⟩
                  have hin := in_c (s := s) hS.1 (by omega)
                  have HQ3 := Lib.hid (HQ.out.below hb3)
                  clear hnd hS hb3 HQ c0 r0 r1 r2 r3 r4 r5
                  go_wp2_with fail
                  refine hin.mono ?_
                  rintro e w4 ⟨rfl, hb4⟩
                  have HQ4 := Lib.hid (HQ3.out.below hb4)
                  clear hin hb4 HQ3
                  go_wp2_with fail
                  go_roundw
                  case rel => exact ⟨j + 1, by omega, by go_num, by rw [HU.out], HQ4⟩
                  case measure => simp [intOf]; omega
              · obtain rfl : j = n := by omega
                have hfr : decide (s ∈ (L.take j).flatMap needsL) = !(free L s) := by
                  unfold free
                  rw [← HN.out, List.take_length, decide_not, Bool.not_not]
                rw [hfr]
                cases hf : free L s with
                | false =>
                  have HA3 : Hid (A2 = A ++ (x.outs.take (m + 1)).filter (free L)) := Lib.hid (by rw [HTK.out, List.filter_append, HA2.out, List.filter_cons, hf]; simp)
                  clear hfr hf
                  go_wp2_with fail
                  go_roundw
                  case rel => exact ⟨m + 1, va, vc, A2, by omega, by go_num, rfl, HA3, by omega, HQ⟩
                  case measure => simp [intOf]; omega
                | true =>
                  have HA3 : Hid (A2 ++ [s] = A ++ (x.outs.take (m + 1)).filter (free L)) := Lib.hid (by rw [HTK.out, List.filter_append, HA2.out, List.filter_cons, hf]; simp)
                  have hA4 := below_alloc wr (.cells #[.string (mk s)] 9)
                  obtain ⟨a', c', W4, hrun, hQ4⟩ := nq_push (by decide) (HQ.out.below hA4) (heap_alloc_new wr (.cells #[.string (mk s)] 9)) (by omega)
                  have HQ4 := Lib.hid hQ4
                  have HLN : Hid ((A2 ++ [s]).length = A2.length + 1) := Lib.hid (by simp)
                  clear hfr hf hA4 hQ4 HQ
                  go_wp2_with (at_builtin; refine wpList_run rfl (.tmp 62) (.tmp 64) rfl rfl rfl hrun ?_)
                  clear hrun
                  go_roundw
                  case rel => exact ⟨m + 1, a', c', A2 ++ [s], by omega, by go_num, by rw [HLN.out], HA3, by have := HLN.out; omega, HQ4⟩
                  case measure => simp [intOf]; omega
          · obtain rfl : m = x.outs.length := by omega
            have HA3 : Hid (A2 = (allOuts (L.take (t + 1))).filter (free L)) := Lib.hid (by rw [HA2.out, HA.out, List.take_length, allOuts_take HX.out, List.filter_append])
            clear hge hE
            go_wp2_with fail
            go_roundw
            case rel => exact ⟨t + 1, va, vc, A2, by omega, by go_num, rfl, HA3, by omega, HQ⟩
            case measure => simp [intOf]; omega
      · obtain rfl : t = n := by omega
        have HA3 : Hid (A = (allOuts L).filter (free L)) := Lib.hid (by rw [HA.out, ← HN.out, List.take_length])
        go_wp2_with fail
        go_ret
        exact ⟨_, rfl, by rw [HT.out, ← HA3.out]; exact (owns_strsT HQ.out.own).1, HQ.out.bel⟩
  · have HT : Hid (tgt L D = D) := Lib.hid (by rw [tgt, if_neg hd0])
    have hp : (0 : Int) < (D.length : Int) := by have := List.length_pos_iff.2 hd0; omega
    have HBL := Lib.hid HN0.out.bel
    clear hd0
    go_enter Try.func26, Try.ntmps26
    go_upto_region 1 with fail
    rw [hn, HWB.out]
    clear HWB hn
    go_wp2_with fail
    go_ret
    exact ⟨_, rfl, by rw [HT.out]; exact HDB.out, HBL.out⟩
end Go.Proofs.Ytbflodefmookiaa.Gr
