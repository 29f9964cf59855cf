/-
  YtmppjlgmopfaeaaS ARE NUMBERED BY THEIR COMING: the law NamesGrow, walked.
-/
import Derived.Test.YtmppjlgmopfaeaaNmWith
import Derived.Test.YtmppjlgmopfaeaaNmAllN
import Derived.Lib.AppendStr
namespace Go.Proofs.Ytmppjlgmopfaeaa.Nm
open Go.RowKit Go.Maps

def grown (L : List ByteArray) : List ByteArray := L.foldl withL []
theorem grown_take {L : List ByteArray} {j : Nat} {x : ByteArray} (hx : L[j]? = some x) : grown (L.take (j + 1)) = withL (grown (L.take j)) x := by
  unfold grown
  rw [List.take_add_one, hx, Option.toList_some, List.foldl_append]
  rfl
theorem withL_len (N : List ByteArray) (s : ByteArray) : (withL N s).length ≤ N.length + 1 ∧ N.length ≤ (withL N s).length := by
  unfold withL
  cases ixOf N s <;> simp
theorem grown_len (L : List ByteArray) (j : Nat) : (grown (L.take j)).length ≤ j := by
  induction j with
  | zero => simp [grown]
  | succ j ih =>
    rcases Nat.lt_or_ge j L.length with h | h
    · rw [grown_take (List.getElem?_eq_getElem h)]
      have := (withL_len (grown (L.take j)) L[j]).1
      omega
    · rw [List.take_of_length_le (by omega)] at ih ⊢
      omega

/-- the book, the row beside it -/
structure GrI (w W : World) (q : Nat) (v : Value) (N : List ByteArray) : Prop where
  bk : ∃ S v1 v2 v3 Q, Bk S W q (growB N) v1 v2 v3 Q ∧ (∀ k, S k → w.heap.size ≤ k ∧ k < W.heap.size ∧ v.ownBlock ≠ some k)
  row : W.ownsRow w.heap.size 9 1 v N.length (strV N)
  bel : Below w.heap.size w W

section
variable {w W W1 : World} {q : Nat} {v : Value} {N : List ByteArray}
theorem GrI.below (h : GrI w W q v N) (hb : Below W.heap.size W W1) : GrI w W1 q v N := by
  obtain ⟨S, v1, v2, v3, Q, h1, h2⟩ := h.bk
  exact ⟨⟨S, v1, v2, v3, Q, h1.below hb, fun k hk => ⟨(h2 k hk).1, Nat.lt_of_lt_of_le (h2 k hk).2.1 hb.size, (h2 k hk).2.2⟩⟩, owns_below h.row hb, h.bel.trans (hb.mono h.bel.size)⟩
theorem GrI.own (h : GrI w W q v N) : Own w.heap.size 0 0 W q (growB N) := by
  obtain ⟨S, v1, v2, v3, Q, h1, h2⟩ := h.bk
  exact ⟨S, v1, v2, v3, Q, h1, fun k hk => ⟨(h2 k hk).1, (h2 k hk).2.1, .inr (Nat.zero_le _)⟩⟩

/-- a record is taken, a name put into the row: in this order -/
theorem grow_with (h : GrI w W q v N) {s : ByteArray} {e : Ending} (hq : WiQ W w.heap.size v N s e W1) :
    ∃ a c, e = .returned (.slice a (withL N s).length c) ∧ (∃ S v1 v2 v3 Q, Bk S W1 q (growB N) v1 v2 v3 Q ∧ (∀ k, S k → w.heap.size ≤ k ∧ k < W1.heap.size ∧ (Value.slice a (withL N s).length c).ownBlock ≠ some k)) ∧
      W1.ownsRow w.heap.size 9 1 (.slice a (withL N s).length c) (withL N s).length (strV (withL N s)) ∧ Below w.heap.size w W1 ∧ Mod (fun k => v.ownBlock = some k) W W1 := by
  obtain ⟨a, c, he, ho, hm, hl⟩ := hq
  obtain ⟨S, v1, v2, v3, Q, h1, h2⟩ := h.bk
  refine ⟨a, c, he, ⟨S, v1, v2, v3, Q, h1.keep fun k hk hlt => hm.block k hlt (h2 k hk).2.2, fun k hk => ⟨(h2 k hk).1, Nat.lt_of_lt_of_le (h2 k hk).2.1 hm.size, fun e => ?_⟩⟩, ho, h.bel.trans (hm.below (fun k hk => (h.row.lt k hk).1) h.bel.size), hm⟩
  rcases hl k e with h3 | h3
  · exact (h2 k hk).2.2 h3
  · have := (h2 k hk).2.1
    omega

theorem grow_took {B : Bo} {S : Nat → Prop} {v1 v2 v3 : Value} {Q : List (Option Nat)} {M : List ByteArray} {R : Option Bo} {e : Ending} (h1 : Bk S W q B v1 v2 v3 Q) (h2 : ∀ k, S k → w.heap.size ≤ k ∧ k < W.heap.size ∧ v.ownBlock ≠ some k) (ho : W.ownsRow w.heap.size 9 1 v M.length (strV M)) (hb : Below w.heap.size w W) (hq : TakeQ S W q B R e W1) (hR : R.getD B = growB M) : GrI w W1 q v M := by
  obtain ⟨-, ⟨u1, u2, u3, Q', hk⟩, hm⟩ := hq
  rw [hR] at hk
  refine ⟨⟨_, u1, u2, u3, Q', hk, fun k hk => ?_⟩, owns_kept ho fun k hk => hm.block k (ho.lt k hk).2 fun hs => (h2 k hs).2.2 hk, hb.trans (hm.below (fun k hk => (h2 k hk).1) hb.size)⟩
  rcases hk with hk | hk
  · exact ⟨(h2 k hk).1, Nat.lt_of_lt_of_le (h2 k hk).2.1 hm.size, (h2 k hk).2.2⟩
  · exact ⟨by have := hb.size; omega, hk.2, fun e => by have := (ho.lt k e).2; omega⟩
end

/-- the record of a name, made by the law -/
theorem rec_made (W : World) (s : ByteArray) (hs : s.size ≤ 100) (ty : TypeId) :
    ∃ a c w', (Builtin.append_ #[32, 9] ty #[.slice (some ⟨W.heap.size, 0, Option.none⟩) 3 3, .string s]).run Try.prog (W.alloc (.cells #[.int .u8 1, .int .u8 (s.size : Int), .int .u8 0] 5)).drew = .ok (.slice a (recN s).length c) w' ∧ w'.ownsRow W.heap.size 5 1 (.slice a (recN s).length c) (recN s).length (Pk.bytesV (recN s)) ∧ Below W.heap.size W w' := by
  obtain ⟨W1, hW1⟩ : ∃ V, (W.alloc (.cells #[.int .u8 1, .int .u8 (s.size : Int), .int .u8 0] 5)) = V := ⟨_, rfl⟩
  have hb : Below W.heap.size W W1 := by rw [← hW1]; exact Pk.below_alloc _ _
  have ho : W1.ownsRow W.heap.size 5 1 (.slice (some ⟨W.heap.size, 0, Option.none⟩) 3 3) 3 (Pk.bytesV [1, s.size, 0]) := by
    rw [← hW1]
    exact World.ownsRow_lit (base := W.heap.size) (e := 5) (size := 1) W #[.int .u8 1, .int .u8 (s.size : Int), .int .u8 0] 3 (Nat.le_refl _) (by unfold maxLen; omega) rfl
  have hod : W1.drew.ownsRow W.heap.size 5 1 (.slice (some ⟨W.heap.size, 0, Option.none⟩) 3 3) 3 (Pk.bytesV [1, s.size, 0]) := ho
  obtain ⟨i0, hi, hz0, hz1, hz2⟩ := info_parts Pk.info5
  obtain ⟨v', w', hr, h2, h3, -⟩ := Lib.run_append_own_string (P := Try.prog) W1.drew W.heap.size 32 9 ty 5 i0 Try.underlying32 Try.underlying9 hi hz0 hz1 hz2 _ _ _ hod s (by unfold maxLen; omega) (by omega) hb.size
  rw [Pk.strCells_sb, ← Pk.bytesV_append, ← recN_small hs] at h2
  obtain ⟨a, c, rfl, hn, hrow, -⟩ := Pk.row_owned h2
  rw [hW1]
  rw [hn] at hr h2
  exact ⟨a, c, w', hr, h2, hb.trans (Below.grown (below_drew (Below.refl _ _)) h3 hb.size fun k hk => (hod.lt k hk).1)⟩

theorem growB_no (N : List ByteArray) : ∀ (i : Nat) fd, (growB N).F[i]? ≠ some (some fd) := fun i fd h => by
  unfold growB at h
  rw [List.getElem?_replicate] at h
  split at h <;> cases h

set_option maxRecDepth 100000 in
set_option maxHeartbeats 8000000 in
theorem growW_c {w : World} {v : Value} {L : List ByteArray} (h : StrRow w v L) (hL : L.length ≤ 9223372036854775807) :
    Calls Try.prog 8 #[v] w fun e w' => e = .returned (.bool true) ∧ Below w.heap.size w w' := by
  obtain ⟨a, c, rfl, hc, hrow⟩ := h
  have HROW := Lib.hid (show StrRow w (.slice a L.length c) L from ⟨a, c, rfl, hc, hrow⟩)
  clear hrow
  by_cases h1 : L.length ≤ 60
  · have h1' : decide ((60 : Int) < (L.length : Int)) = false := decide_eq_false (by omega)
    go_enter Try.func8, Try.ntmps8
    go_wp2_with fail
    refine (newO_c w).mono ?_
    rintro e w1 ⟨q, rfl, hq, hb1⟩
    have HI1 : Hid (GrI w w1 q (.slice Option.none 0 0) []) := Lib.hid ⟨by
      obtain ⟨S, v1, v2, v3, Q, k1, k2⟩ := hq
      exact ⟨S, v1, v2, v3, Q, k1, fun k hk => ⟨(k2 k hk).1, (k2 k hk).2.1, fun e => by cases e⟩⟩, World.ownsRow_nil _ _ _ _, hb1⟩
    clear hq hb1
    go_wp2_with fail
    go_loopw [4, 5] (fun vw i wr => ∃ j : Nat, j ≤ L.length ∧ i = .int .i64 j ∧ Hid (GrI w wr q vw (grown (L.take j)))) (fun _ i _ => L.length - (intOf i).toNat)
    case atStart => exact ⟨0, Nat.zero_le _, rfl, HI1⟩
    case round =>
      obtain ⟨j, hj, rfl, hI⟩ := hrel
      clear HI1
      have hgl := grown_len L j
      by_cases hlt : j < L.length
      · have hx := List.getElem?_eq_getElem hlt
        have hnx := grown_take hx
        obtain ⟨_, _, e, _, hrow⟩ := HROW.out.below hI.out.bel
        cases e
        rcases hrow with h | ⟨b, off, rfl, hb, hcell⟩
        · rw [h] at hlt; simp at hlt
        have x0 := hcell j _ hx
        generalize L[j] = s at *
        generalize grown (L.take j) = N at *
        have HNX := Lib.hid hnx
        have hi0 : (0 : Int) ≤ (j : Int) := by omega
        have hi1 : (j : Int) < (L.length : Int) := by omega
        obtain ⟨va, vc, rfl⟩ := own_slice hI.out.row
        clear hcell hx hnx
        by_cases h5 : s.size ≤ 100
        · have h5' : ¬ (100 : Int) < (s.size : Int) := by omega
          have hwr : IntKind.u8.wrap (s.size : Int) = (s.size : Int) := by rw [show IntKind.u8.wrap (s.size : Int) = (s.size : Int) % 256 from rfl]; omega
          obtain ⟨ra, rc, w4, hr4, hrow4, hb4⟩ := rec_made wr s h5 32
          have HR4 := Lib.hid hr4
          have hI4 := hI.out.below hb4
          have HI4 := Lib.hid hI4
          have K0 : wr.drew.cell? ⟨b, off + j, Option.none⟩ = some (.string s) := x0
          have K1 : (wr.alloc (.cells #[.int .u8 1, .int .u8 (s.size : Int), .int .u8 0] 5)).drew.cell? ⟨b, off + j, Option.none⟩ = some (.string s) := (cell_of_block (Below.heap_alloc _ _ _ hb)).trans x0
          have K4 : w4.cell? ⟨b, off + j, Option.none⟩ = some (.string s) := (cell_of_block (hb4.block b hb)).trans x0
          have cw := with_c (s := s) hI4.row hI4.bel.size (by omega)
          clear hr4 hI4
          go_wp2_with fail
          go_region_held3 (fun w' => w'.cell? ⟨b, off + j, Option.none⟩ = some (.string s))
            (first | with_reducible exact K0 | with_reducible exact K1 | with_reducible exact K4 | fail)
            (first | (refine step_run2 rfl (.tmp 32) (.tmp 36) rfl rfl rfl HR4.out ?_))
          have HO4 := Lib.hid hrow4
          have hgt := grow_take (N := N) h5
          have HGT := Lib.hid hgt
          have hsm : (recN s).length ≤ 1000000 ∧ ∀ x ∈ recN s, x < 256 := by
            rw [recN_small h5]
            refine ⟨by simp [Pk.sb_length]; omega, fun x hx => ?_⟩
            rcases List.mem_append.1 hx with hx | hx
            · simp at hx; omega
            · exact Pk.sb_lt s x hx
          have HSM := Lib.hid hsm
          clear hrow4 hgt hsm K0 K1 hb4 x0
          go_wp2_with fail
          refine cw.mono ?_
          rintro e w5 hq5
          obtain ⟨a5, c5, rfl, hbk5, ho5, hb5, hm5⟩ := grow_with HI4.out hq5
          obtain ⟨S, v1, v2, v3, Q, k1, k2⟩ := hbk5
          have hrow5 := owns_kept (w' := w5) HO4.out fun g hg => hm5.block g (HO4.out.lt g hg).2 fun hs => by
            obtain ⟨_, _, e1⟩ := owns_block HO4.out hg
            obtain ⟨_, _, e2⟩ := owns_block HI4.out.row hs
            exact ne_type e1 e2 (by decide) rfl
          obtain ⟨hn5, hr5, -⟩ := Pk.owned_row hrow5
          have ct := take_c k1 hr5 (Lib.hid rfl) (own_cap hrow5) HSM.out.1 HSM.out.2 (by show N.length < 1000000; omega) (fun k hk => (k2 k hk).2.1)
          have K2 := Lib.hid k2
          have K1 := Lib.hid k1
          have HO5 := Lib.hid ho5
          have HB5 := Lib.hid hb5
          clear cw hq5 k1 k2 ho5 hb5 hm5 hrow5 hn5 hr5
          cases hz : ixOf N s with
          | some i =>
            have hw : withL N s = N := by unfold withL; rw [hz]
            have htn : takeB (growB N) (recN s) = Option.none := takeB_known (B := growB N) (by omega) hz
            have HW := Lib.hid hw
            rw [htn] at ct
            rw [hw] at HO5 K2 ⊢
            clear hz htn hw
            go_wp2_with fail
            refine ct.mono ?_
            rintro e w6 hq6
            have h6 := grow_took K1.out K2.out HO5.out HB5.out hq6 rfl
            obtain ⟨rfl, -⟩ := hq6
            have H6 := Lib.hid h6
            clear ct h6
            go_wp2_with fail
            go_roundw
            case rel => exact ⟨j + 1, by omega, by go_num, by rw [HNX.out, HW.out]; exact H6⟩
            case measure => simp [intOf]; omega
          | none =>
            have hw : withL N s = N ++ [s] := by unfold withL; rw [hz]
            obtain ⟨g1, -⟩ := HGT.out
            have htn := takeB_name (B := growB N) (s := s) (by omega) hz
            have hl : (withL N s).length = N.length + 1 := by rw [hw]; simp
            have HL := Lib.hid hl
            rw [htn] at ct g1
            have G1 := Lib.hid g1
            have hlt9 : (N.length : Int) < (N.length : Int) + 1 := by omega
            rw [hl]
            clear hz htn hw hl g1
            go_wp2_with fail
            refine ct.mono ?_
            rintro e w6 hq6
            have h6 := grow_took K1.out K2.out HO5.out HB5.out hq6 G1.out
            obtain ⟨rfl, -⟩ := hq6
            have H6 := Lib.hid h6
            clear ct h6
            go_wp2_with fail
            go_roundw
            case rel => exact ⟨j + 1, by omega, by go_num, by rw [HNX.out, ← HL.out]; exact H6⟩
            case measure => simp [intOf]; omega
        · have h5' : (100 : Int) < (s.size : Int) := by omega
          go_wp2_with fail
          go_ret
          exact ⟨rfl, hI.out.bel⟩
      · obtain rfl : j = L.length := by omega
        rw [List.take_length] at hI hgl
        generalize grown L = N at *
        obtain ⟨va, vc, rfl⟩ := own_slice hI.out.row
        have cn := names_c hI.out.own
        have hgN : (growB N).N = N := rfl
        rw [hgN] at cn
        have hN60 : N.length ≤ 60 := by omega
        have hvc := own_cap hI.out.row
        go_wp2_with fail
        refine cn.mono ?_
        rintro e w7 ⟨na, nc, rfl, ho7, hb7⟩
        have hI7 := hI.out.below hb7
        have hnc := own_cap ho7
        have HI7 := Lib.hid hI7
        obtain ⟨⟨_, _, e1, -, r1⟩, -⟩ := strRow_of ho7
        cases e1
        obtain ⟨⟨_, _, e2, -, r2⟩, -⟩ := strRow_of hI7.row
        cases e2
        have R1 := Lib.hid r1
        have R2 := Lib.hid r2
        have hne : ((N.length : Int) != (N.length : Int)) = false := by simp
        clear cn ho7 hb7 hI7 hI r1 r2 hgl hlt
        go_wp2_with fail
        go_loopw [9] (fun i wr => ∃ m : Nat, m ≤ N.length ∧ i = .int .i64 m ∧ Hid (∃ k, wr = w7.drewN k)) (fun i _ => N.length - (intOf i).toNat)
        case atStart => exact ⟨0, Nat.zero_le _, rfl, Lib.hid ⟨0, rfl⟩⟩
        case round =>
          obtain ⟨m, hm, rfl, hW⟩ := hrel
          obtain ⟨k, rfl⟩ := hW.out
          by_cases hlm : m < N.length
          · have hx := List.getElem?_eq_getElem hlm
            rcases R1.out with h | ⟨b1, o1, rfl, hb1, hc1⟩
            · rw [h] at hlm; simp at hlm
            rcases R2.out with h | ⟨b2, o2, rfl, hb2, hc2⟩
            · rw [h] at hlm; simp at hlm
            have x1 := hc1 m _ hx
            have x2 := hc2 m _ hx
            generalize N[m] = s at *
            have t0 : (s.toList == s.toList) = true := by simp
            have hm0 : (0 : Int) ≤ (m : Int) := by omega
            have hm1 : (m : Int) < (N.length : Int) := by omega
            clear hx hc1 hc2
            go_wp2_with fail
            go_quiet (fail)
            go_wp2_with fail
            go_roundw
            case rel => exact ⟨m + 1, by omega, by go_num, Lib.hid ⟨_, rfl⟩⟩
            case measure => simp [intOf]; omega
          · obtain rfl : m = N.length := by omega
            have b7 : Below w7.heap.size w7 (w7.drewN k) := below_drawn (Below.refl _ _) k
            have hI8 := HI7.out.below b7
            have ca := allN_c hI8.own (growB_no N)
            have HB8 := Lib.hid hI8.bel
            clear b7 hI8
            go_wp2_with fail
            refine ca.mono ?_
            rintro e w9 ⟨rfl, rfl⟩
            clear ca
            go_wp2_with fail
            refine (awake_c _).mono ?_
            rintro e w10 ⟨rfl, hb10⟩
            go_wp2_with fail
            go_ret
            exact ⟨rfl, HB8.out.trans (hb10.mono HB8.out.size)⟩
  · have h1' : decide ((60 : Int) < (L.length : Int)) = true := decide_eq_true (by omega)
    go_enter Try.func8, Try.ntmps8
    go_wp2_with fail
    go_ret
    exact ⟨rfl, Below.refl _ _⟩
end Go.Proofs.Ytmppjlgmopfaeaa.Nm
