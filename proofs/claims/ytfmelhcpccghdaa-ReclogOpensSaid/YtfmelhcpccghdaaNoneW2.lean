/-
  THE LAW ReclogNone, WALKED.
-/
import Derived.Test.YtfmelhcpccghdaaRlOpn
import Derived.Test.YtfmelhcpccghdaaRlRew
import Derived.Test.YtfmelhcpccghdaaRlLaw
namespace Go.Proofs.Ytfmelhcpccghdaa.Rl
open Go.RowKit Go.Maps

variable {X : Nat → Prop} {K : Nat} {w : World} {p lp : Nat} {d : Ds} {nm : List UInt8} {k : UInt8}

theorem ran_first {Q : Nat → Ds → Int → Ds → Prop} : ∀ {j : Nat} {e : Ds}, Ran Q d (j + 1) e → ∃ c, Q 0 d 0 c
  | 0, e, ⟨c, hc, hq⟩ => ⟨e, by rw [show c = d from hc] at hq; exact hq⟩
  | j + 1, _, ⟨_, hc, _⟩ => ran_first (j := j) hc
/-- nothing is done on a disk that is down -/
theorem turn_down {Q : Nat → Ds → Int → Ds → Prop} {n : Nat} {m : Int} {d' : Ds} (hn : 0 < n) (h8 : ∀ m e, Q 0 d m e → m = 8 ∧ e = d) (h : TurnQ Q n d m d') : m = 8 ∧ d' = d := by
  obtain ⟨n, rfl⟩ : ∃ k, n = k + 1 := ⟨n - 1, by omega⟩
  rcases h with ⟨_, hr⟩ | ⟨_, j, c, _, hr, hq⟩
  · obtain ⟨c, hc⟩ := ran_first hr
    exact absurd (h8 _ _ hc).1 (by decide)
  · cases j with
    | zero =>
      rw [show c = d from hr] at hq
      exact h8 _ _ hq
    | succ j =>
      obtain ⟨c, hc⟩ := ran_first hr
      exact absurd (h8 _ _ hc).1 (by decide)
theorem open_down {n : Int} {d' : Ds} {sp : List UInt8} {rs : List (List UInt8)} (hu : d.up = false) (h : openF K nm sp k d n d' rs) : n = 8 ∧ d' = d := by
  have key : ∀ n e, dropF sp d n e → n = 8 ∧ e = d := by
    intro n e h
    rcases h with ⟨h1, _⟩ | ⟨_, h1⟩
    · rw [hu] at h1; cases h1
    · exact deed_down h1 hu
  rcases h with ⟨_, h1⟩ | ⟨d1, h1, _⟩
  · exact key _ _ h1
  · exact absurd (key _ _ h1).1 (by decide)
theorem rdy_new (n : Nat) (nm sp : List UInt8) : Rdy nm sp (newD n) := ⟨rfl, rfl, rfl, fun m l h => by
  rw [show lead (newD n) m l = none from by show turns (fun _ => none) (([] : List Ch).take m) l = none; rw [List.take_nil]; rfl] at h
  exact absurd rfl h, Nat.zero_le _⟩

def logN : List UInt8 := [108, 111, 103]
theorem right_log : rightL logN = true := by decide +kernel
theorem right_spare : rightL (newN logN) = true := by decide +kernel
theorem log_ne : logN ≠ newN logN := by decide
theorem spare_ne : newN logN ≠ [] := by decide
theorem okHead_nil (k : UInt8) : okHead k [] := rfl

theorem mat_one {a : Option Addr} {n c : Nat} {l : List UInt8} (h : BRow w (.slice a n c) l) : Mat (w.alloc (.cells #[.slice a n c] 22)) (.slice (some ⟨w.heap.size, 0, none⟩) 1 1) [l] := by
  refine ⟨_, 1, rfl, fun j r hj => ?_⟩
  match j, hj with
  | 0, hj =>
    simp at hj
    subst hj
    exact ⟨w.heap.size, 0, .slice a n c, rfl, by simp, cell_at_new _ _ _ _ _ rfl, h.below (below_alloc _ _)⟩
theorem same_below {B : Nat} {w' : World} (hs : Same X w w') (hB : B ≤ w.heap.size) (hX : ∀ b, b < B → X b) {w0 : World} (h0 : Below w0.heap.size w0 w) (h : B = w0.heap.size) : Below w0.heap.size w0 w' := by
  subst h
  exact h0.trans (hs.below hB hX)

set_option maxRecDepth 100000 in
set_option maxHeartbeats 8000000 in
theorem none_c {a : Option Addr} {n c : Nat} {l : List UInt8} (hB : Bt w a n c l) : Calls Try.prog 4 #[.slice a n c] w fun e w' => e = .returned (.bool true) ∧ Below w.heap.size w w' := by
  by_cases hn : n ≤ 4096
  · have HB := Lib.hid hB
    have hap := append_nil hB.q hn
    clear hB
    go_enter Try.func4, Try.ntmps4
    go_wp2_with fail
    refine hap.mono ?_
    rintro e w1 ⟨rfl, hb1⟩
    clear hap
    have hsy := sync_nil w1
    have HB1 := Lib.hid hb1
    clear hb1
    go_wp2_with fail
    refine hsy.mono ?_
    rintro e w2 ⟨rfl, hb2⟩
    clear hsy
    have HB2 := Lib.hid (HB1.out.trans (hb2.mono HB1.out.size))
    have hm := mat_one (HB.out.below HB2.out).row
    have hrw := rewrite_nil (by omega) hm (fun r hr => by rw [List.mem_singleton] at hr; rw [hr, ← HB.out.len]; exact hn)
    clear hb2 hm
    go_wp2_with fail
    refine hrw.mono ?_
    rintro e w3 ⟨rfl, hb3⟩
    clear hrw
    have HB3 := Lib.hid ((HB2.out.alloc HB2.out.size _).trans (hb3.mono (HB2.out.alloc HB2.out.size (.cells #[.slice a n c] 22)).size))
    have hnw := new_c 1048576 (by omega) w3
    clear hb3
    go_wp2_with fail
    refine hnw.mono ?_
    rintro e w4 ⟨p, rfl, hp, hb4, hdk⟩
    clear hnw
    have HB4 := Lib.hid (HB3.out.trans (hb4.mono HB3.out.size))
    have hopn := open_any hdk (by omega) (nm := logN) (by decide) 1
    rw [show mk logN = (⟨#[108, 111, 103]⟩ : ByteArray) from rfl, show (((1 : UInt8).toNat : Nat) : Int) = 1 from rfl] at hopn
    have HDK := Lib.hid hdk
    have HS3 := Lib.hid (Nat.le_trans HB3.out.size hb4.size)
    clear hb4 hdk
    go_wp2_with fail
    refine hopn.mono ?_
    rintro e w5 ⟨m, d', rs, Y, hs5, hop, hXY, hdk5, hret⟩
    clear hopn
    obtain ⟨rfl, hrs, ⟨id, hO⟩, _⟩ := open_runs (rdy_new 1048576 logN (newN logN)) log_ne spare_ne right_log right_spare ⟨by decide, by decide⟩ (okHead_nil 1) hop
    rcases hret with ⟨h, _⟩ | ⟨_, lg, u, rfl, hlY, hlg, hlog, hsf⟩
    · exact absurd rfl h
    obtain ⟨ua, uc, rfl, _⟩ := hsf.mat
    have hb5 : Below w.heap.size w w5 := same_below hs5 HS3.out (fun b hb => Nat.lt_of_lt_of_le hb HB3.out.size) HB4.out rfl
    have har := arm_ok hdk5 0 (by omega)
    have H5 := Lib.hid (And.intro hlog (And.intro hlY (And.intro hXY hO)))
    have HB5 := Lib.hid hb5
    have HSF := Lib.hid hsf
    clear hs5 hop hXY hdk5 hlY hlg hlog hsf hO hrs hb5
    generalize rs.length = rl at *
    have HY : Hid (∀ b, b < w.heap.size → Y b) := Lib.hid fun b hb => H5.out.2.2.1 b (Nat.lt_of_lt_of_le hb HB3.out.size)
    go_wp2_with fail
    refine har.mono ?_
    rintro e w6 ⟨⟨v6, rfl⟩, hs6, hdk6⟩
    clear har
    have HB6 := Lib.hid (same_below hs6 HB5.out.size HY.out HB5.out rfl)
    have HL6 := Lib.hid (H5.out.1.same hs6 H5.out.2.1)
    have hap := append_any hdk6 (by omega) HL6.out (by decide) (HB.out.below HB6.out).q hn
    have HU := Lib.hid H5.out.2.2.2.up
    clear hs6 hdk6
    go_wp2_with fail
    refine hap.mono ?_
    rintro e w7 ⟨m7, d7, rfl, hs7, hdk7, hq7⟩
    clear hap
    obtain ⟨rfl, hd7⟩ := deed_falls hq7 HU.out rfl
    have HU7 : Hid (d7.up = false) := Lib.hid (by rw [hd7])
    have HB7 := Lib.hid (same_below hs7 HB6.out.size HY.out HB6.out rfl)
    have HL7 := Lib.hid (HL6.out.same hs7 H5.out.2.1)
    have hsy := sync_any hdk7 (by omega) HL7.out (by decide)
    clear hs7 hdk7 hq7 hd7
    go_wp2_with fail
    refine hsy.mono ?_
    rintro e w8 ⟨m8, d8, rfl, hs8, hdk8, hq8⟩
    clear hsy
    obtain ⟨rfl, rfl⟩ := turn_down (by omega) (fun m e (h : syncF logN d7 m e) => deed_down h HU7.out) hq8
    have HB8 := Lib.hid (same_below hs8 HB7.out.size HY.out HB7.out rfl)
    have HL8 := Lib.hid (HL7.out.same hs8 H5.out.2.1)
    have hrw := rewrite_any hdk8 (by omega) HL8.out (by decide) (by omega) (rows_nil 0 w8).mat (fun r hr => by cases hr)
    clear hs8 hdk8 hq8
    go_wp2_with fail
    refine hrw.mono ?_
    rintro e w9 ⟨m9, d9, rfl, hs9, hdk9, hq9⟩
    clear hrw
    obtain ⟨rfl, rfl⟩ := turn_down (by omega) (fun m e (h : writeF _ (newN logN) _ d8 m e) => deed_down h HU7.out) hq9
    have HB9 := Lib.hid (same_below hs9 HB8.out.size HY.out HB8.out rfl)
    have hopn := open_any hdk9 (by omega) (nm := logN) (by decide) 1
    rw [show mk logN = (⟨#[108, 111, 103]⟩ : ByteArray) from rfl, show (((1 : UInt8).toNat : Nat) : Int) = 1 from rfl] at hopn
    clear hs9 hdk9 hq9
    go_wp2_with fail
    refine hopn.mono ?_
    rintro e w10 ⟨m, dz, rz, Z, hs10, hop, hYZ, hdk10, hret⟩
    clear hopn
    obtain ⟨rfl, _⟩ := open_down HU7.out hop
    rcases hret with ⟨_, rfl⟩ | ⟨h, _⟩
    · have HB10 := Lib.hid (same_below hs10 HB9.out.size HY.out HB9.out rfl)
      have haw := awake5_c w10
      clear hs10 hop hYZ hdk10
      go_wp2_with fail
      refine haw.mono ?_
      rintro e w11 ⟨rfl, hb11⟩
      clear haw
      go_wp2
      go_ret
      exact ⟨rfl, HB10.out.trans (hb11.mono HB10.out.size)⟩
    · exact absurd h (by decide)
  · clear hB
    go_enter Try.func4, Try.ntmps4
    go_wp2
    go_ret
    exact ⟨rfl, Below.refl _ _⟩
end Go.Proofs.Ytfmelhcpccghdaa.Rl
