/-
  Rewrite.
-/
import Derived.Test.YtfmelhcpccghdaaGreatRlOpn
namespace Go.Proofs.YtfmelhcpccghdaaGreat.Rl
open Go.RowKit Go.Maps

variable {X : Nat → Prop} {K : Nat} {w : World} {p lp : Nat} {d : Ds} {nm : List UInt8} {k : UInt8}

theorem shorts_dec (rs : List (List UInt8)) : Shorts rs ∨ ∃ (i : Nat) (r : List UInt8), rs[i]? = some r ∧ 4096 < r.length ∧ ∀ (j : Nat) (x : List UInt8), j < i → rs[j]? = some x → x.length ≤ 4096 := by
  induction rs with
  | nil => exact .inl fun r hr => by cases hr
  | cons r rs ih =>
    by_cases h : r.length ≤ 4096
    · rcases ih with ih | ⟨i, x, h1, h2, h3⟩
      · exact .inl fun x hx => by
          rcases List.mem_cons.1 hx with e | e
          · rw [e]; exact h
          · exact ih x e
      · exact .inr ⟨i + 1, x, h1, h2, fun j y hj hy => by
          cases j with
          | zero => simp at hy; rw [← hy]; exact h
          | succ j => exact h3 j y (by omega) hy⟩
    · exact .inr ⟨0, r, rfl, by omega, fun j x hj => by omega⟩

theorem app_box {w3 w4 : World} {va : Value} {n base g : Nat} {xs : List Value} {C : Array Value} {e : TypeId} (hown : w3.ownsRow base 5 1 va n xs) (hg : w3.grownBy w4 va.ownBlock) (h : w3.heap[g]? = some (.cells C e (0, 0))) (he : e ≠ 5) : w4.heap[g]? = some (.cells C e (0, 0)) :=
  (hg.block g (lt_of_some h) fun e' => by
    obtain ⟨cur, hc⟩ := row_elem hown e'.symm
    rw [h] at hc
    cases hc
    exact he rfl).trans h

theorem all_le : ∀ {rs : List (List UInt8)}, (∀ r ∈ rs, r.length ≤ 4096) → (all rs).length ≤ 4104 * rs.length
  | [], _ => Nat.le_refl _
  | r :: rs, h => by
    have := all_le (rs := rs) fun x hx => h x (by simp [hx])
    have h1 := h r (by simp)
    rw [all_cons, List.length_append, frame_length, List.length_cons]
    omega

/-- what a rewriting hands to its deeds: the log's copy at b, the bytes at g, the spare's name at s, the deeds at ra -/
structure RewAt (w W : World) (po : Option Addr) (nm : List UInt8) (k : UInt8) (rs : List (List UInt8)) (b g s ra : Nat) (ba : Option Addr) (bm bc : Nat) : Prop where
  below : Below w.heap.size w W
  wb : w.heap.size ≤ b
  wg : w.heap.size ≤ g
  ws : w.heap.size ≤ s
  wr : w.heap.size ≤ ra
  rlt : ra < W.heap.size
  disk : W.cell? ⟨b, 0, none⟩ = some (.pointer po)
  name : W.cell? ⟨b, 1, none⟩ = some (.string (mk nm))
  whole : W.cell? ⟨g, 0, none⟩ = some (.slice ba bm bc)
  row : W.ownsRow w.heap.size 5 1 (.slice ba bm bc) bm (bytesV (body k rs))
  spare : W.cell? ⟨s, 0, none⟩ = some (.string (mk (newN nm)))
  d0 : W.cell? ⟨ra, 0, none⟩ = some (.func (.func 33) #[] #[.pointer (some ⟨b, 0, none⟩), .pointer (some ⟨s, 0, none⟩), .pointer (some ⟨g, 0, none⟩)])
  d1 : W.cell? ⟨ra, 1, none⟩ = some (.func (.func 34) #[] #[.pointer (some ⟨b, 0, none⟩), .pointer (some ⟨s, 0, none⟩)])
  d2 : W.cell? ⟨ra, 2, none⟩ = some (.func (.func 35) #[] #[.pointer (some ⟨b, 0, none⟩), .pointer (some ⟨s, 0, none⟩)])
  d3 : W.cell? ⟨ra, 3, none⟩ = some (.func (.func 19) #[.pointer po] #[])

set_option maxRecDepth 100000 in
set_option maxHeartbeats 4000000 in
theorem rewrite_core {lv : Option Addr} {po : Option Addr} {a : Option Addr} {n c : Nat} {rs : List (List UInt8)} {Q : Int → World → Prop} (hn : n ≤ 10000) (hnm : nm.length ≤ 900000)
    (horn : Calls Tryz.prog 27 #[.pointer lv] w fun e w' => e = .returned (.agg #[.pointer po, .string (mk nm), .int .u8 k.toNat]) ∧ Below w.heap.size w w')
    (hm : Mat w (.slice a n c) rs) (hs : Shorts rs)
    (hT : ∀ W b g s ra ba bm bc, RewAt w W po nm k rs b g s ra ba bm bc → Calls Tryz.prog 22 #[.slice (some ⟨ra, 0, none⟩) 4 4] W fun e w' => ∃ m, e = .returned (.int .i64 m) ∧ Q m w') :
    Calls Tryz.prog 10 #[.pointer lv, .slice a n c] w fun e w' => ∃ m, e = .returned (.int .i64 m) ∧ Q m w' := by
  obtain ⟨hnl, hat⟩ := Mat.at hm
  have HN := Lib.hid hnl
  have HAT := Lib.hid hat
  have HS := Lib.hid hs
  clear hm hnl hat hs
  go_enter Tryz.func10, Tryz.ntmps10
  go_wp2_with fail
  refine horn.mono ?_
  rintro e w1 ⟨rfl, hb1⟩
  clear horn
  obtain ⟨b, hb⟩ : ∃ b, w1.heap.size = b := ⟨_, rfl⟩
  obtain ⟨wA, hwA⟩ : ∃ W, w1.alloc (.cells #[.pointer po, .string (mk nm), .int .u8 k.toNat] 61) = W := ⟨_, rfl⟩
  have hbA : Below w.heap.size w wA := by rw [← hwA]; exact hb1.alloc hb1.size _
  have gA : wA.heap[b]? = some (.cells #[.pointer po, .string (mk nm), .int .u8 k.toNat] 61 (0, 0)) := by rw [← hwA, ← hb]; exact heap_alloc_new _ _
  have hwb : w.heap.size ≤ b := by rw [← hb]; exact hb1.size
  have hhd := head_c k wA
  have HA := Lib.hid (And.intro hbA (And.intro gA hwb))
  have HE := Lib.hid (And.intro hwA hb)
  clear hb1 hbA gA hwb hwA hb
  go_wp2_with fail
  rw [HE.out.1, HE.out.2]
  refine hhd.mono ?_
  rintro e w2 ⟨a8, c8, rfl, hown, hb2⟩
  clear hhd HE
  have hb02 := HA.out.1.trans (hb2.mono HA.out.1.size)
  have gA2 := (hb2.block b (lt_of_some HA.out.2.1)).trans HA.out.2.1
  obtain ⟨g, hg⟩ : ∃ g, w2.heap.size = g := ⟨_, rfl⟩
  obtain ⟨wB, hwB⟩ : ∃ W, w2.alloc (.cells #[.slice a8 8 c8] 31) = W := ⟨_, rfl⟩
  have hbB : Below w.heap.size w wB := by rw [← hwB]; exact hb02.alloc hb02.size _
  have gB : wB.heap[b]? = some (.cells #[.pointer po, .string (mk nm), .int .u8 k.toNat] 61 (0, 0)) := by rw [← hwB, Below.heap_alloc _ _ _ (lt_of_some gA2)]; exact gA2
  have gW : wB.heap[g]? = some (.cells #[.slice a8 8 c8] 31 (0, 0)) := by rw [← hwB, ← hg]; exact heap_alloc_new _ _
  have hownB : wB.ownsRow w.heap.size 5 1 (.slice a8 8 c8) 8 (bytesV (body k (rs.take 0))) := by
    rw [List.take_zero, ← hwB]
    have : bytesV (body k []) = bytesV (head k) := by rw [body, all_nil, List.append_nil]
    rw [this]
    exact owns_mono1 (keep_own hown (below_alloc _ _)) HA.out.1.size
  have hgb : b < g := by rw [← hg]; exact lt_of_some gA2
  have HB := Lib.hid (And.intro hbB (And.intro gB (And.intro gW hownB)))
  have HE := Lib.hid (And.intro hwB hg)
  have HWB := Lib.hid HA.out.2.2
  clear hown hb2 hb02 gA2 hbB gB gW hownB hwB hg HA
  go_wp2_with fail
  rw [HE.out.1, HE.out.2]
  clear HE
  obtain ⟨i0, hi0, hz0, hz1, hz2⟩ := info_parts info5
  have HI := Lib.hid (And.intro hi0 (And.intro hz0 (And.intro hz1 hz2)))
  clear hi0 hz0 hz1 hz2
  go_loopw [19] (fun vi wr => ∃ i : Nat, i ≤ n ∧ vi = .int .i64 i ∧ ∃ ba bm bc, Hid (Below w.heap.size w wr ∧
      wr.heap[b]? = some (.cells #[.pointer po, .string (mk nm), .int .u8 k.toNat] 61 (0, 0)) ∧
        wr.heap[g]? = some (.cells #[.slice ba bm bc] 31 (0, 0)) ∧ wr.ownsRow w.heap.size 5 1 (.slice ba bm bc) bm (bytesV (body k (rs.take i))))) (fun vi _ => n - (intOf vi).toNat)
  case atStart => exact ⟨0, Nat.zero_le _, rfl, _, _, _, HB⟩
  case round =>
    obtain ⟨i, hi, rfl, ba, bm, bc, HR⟩ := hrel
    clear HB
    have hbm2 : bm ≤ 50000000 := by
      have h1 := HR.out.2.2.2.1
      rw [bytesV_length, body_length] at h1
      have h2 := all_le (rs := rs.take i) (fun r hr => HS.out r (List.mem_of_mem_take hr))
      rw [List.length_take] at h2
      have := HN.out
      omega
    by_cases hlt : i < n
    · obtain ⟨r, hr⟩ : ∃ r, rs[i]? = some r := ⟨rs[i]'(by rw [← HN.out]; exact hlt), List.getElem?_eq_getElem _⟩
      obtain ⟨b', o, ua, uc, rfl, hb', hc, hrow⟩ := HAT.out i r hr
      have hcw := (HR.out.1.cell (p := ⟨b', o + i, none⟩) hb').trans hc
      obtain ⟨rn, hrn⟩ : ∃ x, r.length = x := ⟨_, rfl⟩
      have hr5 : rn ≤ 4096 := by rw [← hrn]; exact HS.out r (List.mem_of_getElem? hr)
      have HRN := Lib.hid hrn
      rw [hrn] at hcw hrow
      have hf := frame_c (bq_of_row (hrow.below HR.out.1)) hr5
      have HRR := Lib.hid hr
      clear hr hrn hrow hc
      go_wp2_with fail
      refine hf.mono ?_
      rintro e w3 ⟨a3, c3, rfl, hown3, hb3⟩
      clear hf hcw
      have hO3 := keep_own HR.out.2.2.2 hb3
      have hbm3 := HR.out.1.trans (hb3.mono HR.out.1.size)
      have g3 := (hb3.block g (lt_of_some HR.out.2.2.1)).trans HR.out.2.2.1
      have g3b := (hb3.block b (lt_of_some HR.out.2.1)).trans HR.out.2.1
      have k3 : w3.cell? ⟨g, 0, none⟩ = some (.slice ba bm bc) := by simp only [World.cell?, g3]; rfl
      obtain ⟨fa, rfl, hfc⟩ : ∃ fa : Nat, a3 = some ⟨fa, 0, none⟩ ∧ ∀ (j : Nat) (u : Value), (bytesV (frame r))[j]? = some u → w3.cell? ((⟨fa, 0, none⟩ : Addr).add j) = some u := by
        rcases hown3.2 with ⟨e, h0⟩ | ⟨fg, cap, cur, e, _⟩
        · omega
        · cases e
          exact ⟨fg, rfl, hown3.cells rfl⟩
      have H3 := Lib.hid (And.intro hO3 (And.intro hbm3 (And.intro g3 (And.intro g3b hfc))))
      clear hO3 hbm3 g3 g3b hfc hown3 hb3
      have hG4 : ∀ (va : Value) (w4 : World), w3.grownBy w4 (Value.ownBlock (.slice ba bm bc)) → w4.cell? ⟨g, 0, none⟩ = some (.slice ba bm bc) ∧ w4.frozen? ⟨g, 0, none⟩ = false ∧ Hid (w4.heap[g]? = some (.cells #[.slice ba bm bc] 31 (0, 0)) ∧ w4.heap[b]? = some (.cells #[.pointer po, .string (mk nm), .int .u8 k.toNat] 61 (0, 0))) := fun va w4 hg4 => by
        have h1 := app_box H3.out.1 hg4 H3.out.2.2.1 (by decide)
        have h2 := app_box H3.out.1 hg4 H3.out.2.2.2.1 (by decide)
        exact ⟨by simp only [World.cell?, h1]; rfl, frozen_of h1 0, Lib.hid ⟨h1, h2⟩⟩
      have HG4 := Lib.hid hG4
      clear hG4
      go_wp2_with (at_builtin; refine wpList_append_own w3 rfl _ _ 31 rfl w.heap.size 5 i0 (.int .u8 0) 1 1 Tryz.underlying31 HI.out.1 HI.out.2.1 HI.out.2.2.1 HI.out.2.2.2 rfl (by decide) _ bm _ rfl H3.out.1 ⟨fa, 0, none⟩ (8 + rn) c3 (bytesV (frame r)) rfl (by rw [bytesV_length, frame_length, HRN.out]; omega) H3.out.2.2.2.2 (one_bytes _) (by unfold maxLen; omega) (by omega) H3.out.2.1.size ?_; intro v4 w4 hown4 hg4 hv4; obtain ⟨a4, c4, rfl⟩ := row_len hown4; obtain ⟨k4, z4, HG⟩ := HG4.out (.slice a4 (bm + (8 + rn)) c4) w4 hg4)
      have hb4 : Below w.heap.size w w4 := H3.out.2.1.trans ⟨hg4.os, hg4.tape, hg4.output, hg4.size, fun x hx => hg4.block x (Nat.lt_of_lt_of_le hx H3.out.2.1.size) fun e => by have := (H3.out.1.lt x e.symm).1; omega⟩
      have hown5 : w4.ownsRow w.heap.size 5 1 (.slice a4 (bm + (8 + rn)) c4) (bm + (8 + rn)) (bytesV (body k (rs.take (i + 1)))) := by
        rw [body_app k rs i r HRR.out, show bytesV (body k (rs.take i) ++ frame r) = bytesV (body k (rs.take i)) ++ bytesV (frame r) from by simp [bytesV]]
        exact hown4
      have hwg : w.heap.size ≤ g := by have := HWB.out; omega
      have hdone : Below w.heap.size w (w4.setCell ⟨g, 0, none⟩ (.slice a4 (bm + (8 + rn)) c4)) ∧
          (w4.setCell ⟨g, 0, none⟩ (.slice a4 (bm + (8 + rn)) c4)).heap[b]? = some (.cells #[.pointer po, .string (mk nm), .int .u8 k.toNat] 61 (0, 0)) ∧
          (w4.setCell ⟨g, 0, none⟩ (.slice a4 (bm + (8 + rn)) c4)).heap[g]? = some (.cells #[.slice a4 (bm + (8 + rn)) c4] 31 (0, 0)) ∧ (w4.setCell ⟨g, 0, none⟩ (.slice a4 (bm + (8 + rn)) c4)).ownsRow w.heap.size 5 1 (.slice a4 (bm + (8 + rn)) c4) (bm + (8 + rn)) (bytesV (body k (rs.take (i + 1)))) := by
        refine ⟨hb4.setCell hwg _, (Below.heap_setCell _ _ _ _ (by show b ≠ g; omega)).trans HG.out.2, heap_set_same HG.out.1 0 _, row_kept hown5 fun x hx => Below.heap_setCell _ _ _ _ ?_⟩
        rintro rfl
        obtain ⟨cur, hc⟩ := row_elem hown5 hx
        rw [HG.out.1] at hc
        cases hc
      have HD := Lib.hid hdone
      clear hdone hwg hown5 hb4 hown4 hg4 hv4 k4 z4
      go_roundw
      case rel => exact ⟨i + 1, by omega, by go_num, a4, bm + (8 + rn), c4, HD⟩
      case measure => simp [intOf]; omega
    · obtain rfl : i = n := by omega
      have hk1 : wr.cell? ⟨b, 1, none⟩ = some (.string (mk nm)) := by simp only [World.cell?, HR.out.2.1]; rfl
      have hsp := spare_c (w := wr) (lp := b) (nm := nm) hk1 (by omega)
      have hk0 : wr.cell? ⟨b, 0, none⟩ = some (.pointer po) := by simp only [World.cell?, HR.out.2.1]; rfl
      obtain ⟨s, hsz⟩ : ∃ s, wr.heap.size = s := ⟨_, rfl⟩
      obtain ⟨wC, hwC⟩ : ∃ W, wr.alloc (.cells #[.string (mk (newN nm))] 9) = W := ⟨_, rfl⟩
      have hkC : wC.cell? ⟨b, 0, none⟩ = some (.pointer po) := by rw [← hwC]; exact alloc_cell _ hk0
      have hzC : wC.heap.size = s + 1 := by rw [← hwC, World.size_alloc, hsz]
      obtain ⟨wD, hwD⟩ : ∃ W, wC.alloc (.cells #[.func (.func 33) #[] #[.pointer (some ⟨b, 0, none⟩), .pointer (some ⟨s, 0, none⟩), .pointer (some ⟨g, 0, none⟩)], .func (.func 34) #[] #[.pointer (some ⟨b, 0, none⟩), .pointer (some ⟨s, 0, none⟩)], .func (.func 35) #[] #[.pointer (some ⟨b, 0, none⟩), .pointer (some ⟨s, 0, none⟩)], .func (.func 19) #[.pointer po] #[]] 36) = W := ⟨_, rfl⟩
      have hall : RewAt w wD po nm k rs b g s (s + 1) ba bm bc := by
        have hbC : Below w.heap.size w wC := by rw [← hwC]; exact HR.out.1.alloc HR.out.1.size _
        have hbD : Below w.heap.size w wD := by rw [← hwD]; exact hbC.alloc hbC.size _
        have gD : wD.heap[s + 1]? = some (.cells #[.func (.func 33) #[] #[.pointer (some ⟨b, 0, none⟩), .pointer (some ⟨s, 0, none⟩), .pointer (some ⟨g, 0, none⟩)], .func (.func 34) #[] #[.pointer (some ⟨b, 0, none⟩), .pointer (some ⟨s, 0, none⟩)], .func (.func 35) #[] #[.pointer (some ⟨b, 0, none⟩), .pointer (some ⟨s, 0, none⟩)], .func (.func 19) #[.pointer po] #[]] 36 (0, 0)) := by rw [← hwD, ← hzC]; exact heap_alloc_new _ _
        have up : ∀ {q : Addr} {u : Value}, wr.cell? q = some u → wD.cell? q = some u := fun h => by rw [← hwD, ← hwC]; exact alloc_cell _ (alloc_cell _ h)
        have kg : wr.cell? ⟨g, 0, none⟩ = some (.slice ba bm bc) := by simp only [World.cell?, HR.out.2.2.1]; rfl
        have ks : wC.cell? ⟨s, 0, none⟩ = some (.string (mk (newN nm))) := by rw [← hwC, ← hsz]; exact cell_at_new _ _ _ _ _ rfl
        have hwz := HR.out.1.size
        have hown : wD.ownsRow w.heap.size 5 1 (.slice ba bm bc) bm (bytesV (body k rs)) := by
          have h0 := HR.out.2.2.2
          rw [HN.out, List.take_length] at h0
          rw [← hwD, ← hwC]
          exact keep_own (keep_own h0 (below_alloc _ _)) (below_alloc _ _)
        exact ⟨hbD, HWB.out, by have := HWB.out; omega, by omega, by omega, lt_of_some gD, up hk0, up hk1, up kg, hown, by rw [← hwD]; exact alloc_cell _ ks,
          by simp only [World.cell?, gD]; rfl, by simp only [World.cell?, gD]; rfl, by simp only [World.cell?, gD]; rfl, by simp only [World.cell?, gD]; rfl⟩
      have hcall := hT wD b g s (s + 1) ba bm bc hall
      rw [← hwD, ← hwC, ← hsz] at hcall
      rw [← hwC] at hkC
      clear hk1 hk0 hall hsz hwC hzC hwD HR hbm2 hT
      go_wp2_with fail
      refine hsp.mono ?_
      rintro e w3 ⟨rfl, rfl⟩
      clear hsp
      go_wp2_with fail
      refine hcall.mono ?_
      rintro e w4 ⟨m, rfl, hQ⟩
      have HQ := Lib.hid hQ
      clear hcall hQ
      go_wp2
      go_ret
      exact ⟨m, rfl, HQ.out⟩
end Go.Proofs.YtfmelhcpccghdaaGreat.Rl

/-! Rewrite, on any disk, and on none; one whose first record is too long. -/
namespace Go.Proofs.YtfmelhcpccghdaaGreat.Rl
open Go.RowKit Go.Maps

variable {X : Nat → Prop} {K : Nat} {w : World} {p lp : Nat} {d : Ds} {nm : List UInt8} {k : UInt8}

theorem newN_length (nm : List UInt8) : (newN nm).length = nm.length + 4 := by simp [newN]

set_option maxHeartbeats 1000000 in
theorem rewCl1_c {b g s : Nat} {ba : Option Addr} {bm bc : Nat} {bs : List UInt8} (h : Dk X K w p d) (hK : K + 3 ≤ 1000) (hnm : nm.length ≤ 900000) (hv : BRow w (.slice ba bm bc) bs) (hvX : ∀ x, Value.rowBlock (.slice ba bm bc) = some x → X x) (hbs : bs.length ≤ 1000000000)
    (c0 : w.cell? ⟨b, 0, none⟩ = some (.pointer (some ⟨p, 0, none⟩))) (c1 : w.cell? ⟨s, 0, none⟩ = some (.string (mk (newN nm)))) (c2 : w.cell? ⟨g, 0, none⟩ = some (.slice ba bm bc)) :
    Calls Tryz.prog 33 #[.pointer (some ⟨b, 0, none⟩), .pointer (some ⟨s, 0, none⟩), .pointer (some ⟨g, 0, none⟩)] w (Told X (K + 3) w p (writeF K (newN nm) bs d)) := by
  have hw := write_d h hK (l := newN nm) (by rw [newN_length]; omega) hv hvX hbs
  clear h hv
  go_enter Tryz.func33, Tryz.ntmps33
  go_wp2_with fail
  refine hw.mono ?_
  rintro e w1 ⟨m, d', rfl, hT⟩
  clear hw
  have HT := Lib.hid hT
  clear hT
  go_wp2
  go_ret
  exact ⟨m, d', rfl, HT.out⟩

set_option maxHeartbeats 1000000 in
theorem rewCl2_c {b s : Nat} (h : Dk X K w p d) (hK : K + 1 ≤ 1000) (hnm : nm.length ≤ 900000)
    (c0 : w.cell? ⟨b, 0, none⟩ = some (.pointer (some ⟨p, 0, none⟩))) (c1 : w.cell? ⟨s, 0, none⟩ = some (.string (mk (newN nm)))) :
    Calls Tryz.prog 34 #[.pointer (some ⟨b, 0, none⟩), .pointer (some ⟨s, 0, none⟩)] w (Told X (K + 1) w p (syncF (newN nm) d)) := by
  have hw := sync_d h (by omega) (l := newN nm) (by rw [newN_length]; omega)
  clear h
  go_enter Tryz.func34, Tryz.ntmps34
  go_wp2_with fail
  refine hw.mono ?_
  rintro e w1 ⟨m, d', rfl, hT⟩
  clear hw
  have HT := Lib.hid hT
  clear hT
  go_wp2
  go_ret
  exact ⟨m, d', rfl, HT.out⟩

set_option maxHeartbeats 1000000 in
theorem rewCl3_c {b s : Nat} (h : Dk X K w p d) (hK : K + 2 ≤ 1000) (hnm : nm.length ≤ 900000)
    (c0 : w.cell? ⟨b, 0, none⟩ = some (.pointer (some ⟨p, 0, none⟩))) (c1 : w.cell? ⟨b, 1, none⟩ = some (.string (mk nm))) (c2 : w.cell? ⟨s, 0, none⟩ = some (.string (mk (newN nm)))) :
    Calls Tryz.prog 35 #[.pointer (some ⟨b, 0, none⟩), .pointer (some ⟨s, 0, none⟩)] w (Told X (K + 2) w p (renameF (newN nm) nm d)) := by
  have hw := rename_d h hK (l := newN nm) (m := nm) (by rw [newN_length]; omega) (by omega)
  clear h
  go_enter Tryz.func35, Tryz.ntmps35
  go_wp2_with fail
  refine hw.mono ?_
  rintro e w1 ⟨m, d', rfl, hT⟩
  clear hw
  have HT := Lib.hid hT
  clear hT
  go_wp2
  go_ret
  exact ⟨m, d', rfl, HT.out⟩

def rewTF (K : Nat) (nm bs : List UInt8) (j : Nat) : Ds → Int → Ds → Prop := if j = 0 then writeF K (newN nm) bs else if j = 1 then syncF (newN nm) else if j = 2 then renameF (newN nm) nm else dirF

set_option maxRecDepth 100000 in
theorem rewrite_any (h : Dk X K w p d) (hK : K + 12 ≤ 1000) (hlog : LogAt w lp p nm k) (hnm : nm.length ≤ 900000) {a : Option Addr} {n c : Nat} {rs : List (List UInt8)} (hn : n ≤ 10000) (hm : Mat w (.slice a n c) rs) (hs : Shorts rs) :
    Calls Tryz.prog 10 #[.pointer (some ⟨lp, 0, none⟩), .slice a n c] w (Told X (K + 12) w p (TurnQ (rewTF K nm (body k rs)) 4 d)) := by
  have hbl : (body k rs).length ≤ 1000000000 := by
    rw [body_length]
    have h1 := all_le hs
    have h2 := (Mat.at hm).1
    omega
  refine (rewrite_core (Q := fun m w' => Told X (K + 12) w p (TurnQ (rewTF K nm (body k rs)) 4 d) (.returned (.int .i64 m)) w') hn hnm (orNone_c hlog) hm hs ?_).mono ?_
  · intro W b g s ra ba bm bc hR
    have hbm : bm = (body k rs).length := by have := hR.row.1; rw [bytesV_length] at this; omega
    have hrow := hR.row
    rw [hbm] at hrow
    have hblt : b < W.heap.size := Pk.lt_of_cell hR.disk
    have hglt : g < W.heap.size := Pk.lt_of_cell hR.whole
    have hslt : s < W.heap.size := Pk.lt_of_cell hR.spare
    have yb : Since X w W b := .inr ⟨hR.wb, hblt⟩
    have yg : Since X w W g := .inr ⟨hR.wg, hglt⟩
    have ys : Since X w W s := .inr ⟨hR.ws, hslt⟩
    have hin := inTurn_told (w := W) (Y := Since X w W) (a := ra) (n := 4) (c := 4) (p := p) (d := d) (K := K)
      (F := fun j => if j = 0 then 33 else if j = 1 then 34 else if j = 2 then 35 else 19) (bs := fun j => if j = 3 then #[.pointer (some ⟨p, 0, none⟩)] else #[])
      (cs := fun j => if j = 0 then #[.pointer (some ⟨b, 0, none⟩), .pointer (some ⟨s, 0, none⟩), .pointer (some ⟨g, 0, none⟩)] else if j = 3 then #[] else #[.pointer (some ⟨b, 0, none⟩), .pointer (some ⟨s, 0, none⟩)]) (Q := rewTF K nm (body k rs))
      (h.since hR.below) (by omega) (.inr ⟨hR.wr, hR.rlt⟩)
      (fun j hj => by match j, hj with | 0, _ => exact hR.d0 | 1, _ => exact hR.d1 | 2, _ => exact hR.d2 | 3, _ => exact hR.d3)
      (fun j W' hj => by match j, hj with | 0, _ => rfl | 1, _ => rfl | 2, _ => rfl | 3, _ => rfl)
      (fun j W' e hj hs he => by
        have c0 := (hs.cell (p := ⟨b, 0, none⟩) hblt yb).trans hR.disk
        have c1 := (hs.cell (p := ⟨b, 1, none⟩) hblt yb).trans hR.name
        have c2 := (hs.cell (p := ⟨s, 0, none⟩) hslt ys).trans hR.spare
        have c3 := (hs.cell (p := ⟨g, 0, none⟩) hglt yg).trans hR.whole
        match j, hj with
        | 0, _ =>
          have hrX : ∀ x, Value.rowBlock (.slice ba bm bc) = some x → Since X w W x := own_row_since hR.row
          have hb : BRow W' (.slice ba bm bc) (body k rs) := by
            rw [hbm] at hrX ⊢
            exact (row_bytes hrow).kept hs.size fun x hx hlt => hs.block x hlt (hrX x hx)
          exact (rewCl1_c he (by omega) hnm hb hrX hbl c0 c2 c3).mono fun _ _ hT => hT.imp (by omega) (fun _ _ hq => hq)
        | 1, _ => exact (rewCl2_c he (by omega) hnm c0 c2).mono fun _ _ hT => hT.imp (by omega) (fun _ _ hq => hq)
        | 2, _ => exact (rewCl3_c he (by omega) hnm c0 c1 c2).mono fun _ _ hT => hT.imp (by omega) (fun _ _ hq => hq)
        | 3, _ => exact (dir_d he (by omega)).mono fun _ _ hT => hT.imp (by omega) (fun _ _ hq => hq))
    refine hin.mono ?_
    rintro e w' hT
    obtain ⟨m, d', h1, h2⟩ := Told.weak hT (fun x hx => Or.inl hx) (Same.of_below hR.below)
    exact ⟨m, h1, m, d', rfl, h2⟩
  · rintro e w' ⟨m, rfl, hq⟩
    exact hq

/-! ### on no disk -/
set_option maxHeartbeats 1000000 in
theorem rewClNil_c {b g s : Nat} {ba : Option Addr} {bm bc : Nat} {l : List UInt8} (c0 : w.cell? ⟨b, 0, none⟩ = some (.pointer none)) (c1 : w.cell? ⟨s, 0, none⟩ = some (.string (mk l))) (c2 : w.cell? ⟨g, 0, none⟩ = some (.slice ba bm bc)) :
    Calls Tryz.prog 33 #[.pointer (some ⟨b, 0, none⟩), .pointer (some ⟨s, 0, none⟩), .pointer (some ⟨g, 0, none⟩)] w fun e w' => e = .returned (.int .i64 8) ∧ Below w.heap.size w w' := by
  have hw := Write_nil l ba bm bc w
  go_enter Tryz.func33, Tryz.ntmps33
  go_wp2_with fail
  refine hw.mono ?_
  rintro e w1 ⟨rfl, hb⟩
  clear hw
  go_wp2
  go_ret
  exact ⟨rfl, hb⟩

set_option maxRecDepth 100000 in
theorem rewrite_nil {a : Option Addr} {n c : Nat} {rs : List (List UInt8)} (hn : n ≤ 10000) (hm : Mat w (.slice a n c) rs) (hs : Shorts rs) :
    Calls Tryz.prog 10 #[.pointer none, .slice a n c] w fun e w' => e = .returned (.int .i64 8) ∧ Below w.heap.size w w' := by
  refine (rewrite_core (nm := []) (k := 0) (po := none) (Q := fun m w' => m = 8 ∧ Below w.heap.size w w') hn (by simp) (orNone_nil w) hm hs ?_).mono ?_
  · intro W b g s ra ba bm bc hR
    refine (inTurn_c (w := W) (a := ra) (n := 4) (c := 4) (R := fun j W' => j = 0 ∧ W' = W) (E := fun m w' => m = 8 ∧ Below W.heap.size W w') (by omega) (fun j W' hj ⟨h1, h2⟩ => ?_) ⟨rfl, rfl⟩).mono ?_
    · subst h1 h2
      refine ⟨_, _, _, hR.d0, fun W' => rfl, (rewClNil_c hR.disk hR.spare hR.whole).mono ?_⟩
      rintro e w' ⟨rfl, hb⟩
      exact ⟨8, rfl, fun h => absurd h (by decide), fun _ => ⟨rfl, hb⟩⟩
    · rintro e w' ⟨m, rfl, h1, h2⟩
      by_cases h0 : m = 0
      · exact absurd (h1 h0).1 (by decide)
      · obtain ⟨rfl, hb⟩ := h2 h0
        exact ⟨8, rfl, rfl, hR.below.trans (hb.mono hR.below.size)⟩
  · rintro e w' ⟨m, rfl, rfl, hb⟩
    exact ⟨rfl, hb⟩
end Go.Proofs.YtfmelhcpccghdaaGreat.Rl
