/-
  THE LAW ReclogSpare, WALKED.
-/
import Derived.Test.YtfmelhcpccghdaaGreatRlLife2
import Derived.Test.YtfmelhcpccghdaaGreatRlOpn
namespace Go.Proofs.YtfmelhcpccghdaaGreat.Rl
open Go.RowKit Go.Maps

variable {X : Nat → Prop} {K : Nat} {w : World} {p lp : Nat} {d : Ds} {nm sp : List UInt8} {k : UInt8}

set_option maxRecDepth 100000 in
set_option maxHeartbeats 8000000 in
theorem spare_law {va : Option Addr} {n c : Nat} {rs : List (List UInt8)} {a : Option Addr} {bn bc : Nat} {bl : List UInt8} (ar : Nat) (har : ar < 256) (w : World) (hM : Mat w (.slice va n c) rs) (hB : BRow w (.slice a bn bc) bl) :
    Calls Tryz.prog 5 #[.slice va n c, .slice a bn bc, .int .u8 ar] w fun e w' => e = .returned (.bool true) ∧ Below w.heap.size w w' := by
  have hli := light_c hM
  have HM := Lib.hid hM
  have HB := Lib.hid hB
  clear hM hB
  by_cases hL : Light rs
  · rw [show decide (Light rs) = true from decide_eq_true hL] at hli
    have HL := Lib.hid hL
    clear hL
    go_enter Tryz.func5, Tryz.ntmps5
    go_wp2_with fail
    refine hli.mono ?_
    rintro e w1 ⟨rfl, rfl⟩
    clear hli
    by_cases hb5 : bn ≤ 500
    · have hnw := new_c 1048576 (by omega) w
      go_wp2_with fail
      refine hnw.mono ?_
      rintro e w2 ⟨p, rfl, hp, hb2, hdk⟩
      clear hnw
      have hopn := open_any hdk (by omega) (nm := logN) (by decide) 3
      rw [show mk logN = (⟨#[108, 111, 103]⟩ : ByteArray) from rfl, show (((3 : UInt8).toNat : Nat) : Int) = 3 from rfl] at hopn
      have HB2 := Lib.hid hb2
      obtain ⟨X, hX⟩ : ∃ X : Nat → Prop, (fun x => x < w.heap.size) = X := ⟨_, rfl⟩
      rw [hX] at hdk hopn
      have HX : Hid (∀ x, x < w.heap.size → X x) := Lib.hid fun x hx => by rw [← hX]; exact hx
      clear hb2 hdk hX
      go_wp2_with fail
      refine hopn.mono ?_
      rintro e w3 ⟨m, d3, r3, Y, hs3, hop, hXY, hdk3, hret⟩
      clear hopn
      obtain ⟨rfl, rfl, hal3, id3, hL3⟩ := open_new log_ne spare_ne right_log (by decide) (by decide) hop
      have hnr3 := openF_nr hop
      rcases hret with ⟨h, _⟩ | ⟨_, lg, u, rfl, hlY, hlg, hlog, hsf⟩
      · exact absurd rfl h
      obtain ⟨ua, uc, rfl, _⟩ := hsf.mat
      have HY : Hid (∀ x, x < w.heap.size → Y x) := Lib.hid fun x hx => by first | exact hXY x (HX.out x hx) | exact hXY x hx
      have HB3 := Lib.hid (same_below hs3 HB2.out.size HX.out HB2.out rfl)
      have HN := Lib.hid (Mat.at HM.out).1
      have hn30 : n ≤ 30 := by rw [HN.out]; exact HL.out.1
      have hbl : (body 3 rs).length ≤ 16000 := by
        rw [body_length]
        have h1 := light_size HL.out.2
        have h2 := HL.out.1
        omega
      have hrw := rewrite_any hdk3 (by omega) hlog (by decide) (by omega) (Mat.below HM.out HB3.out) (shorts_of_light HL.out)
      have HLG := Lib.hid (And.intro hlog hlY)
      have H3 := Lib.hid (And.intro hal3 (And.intro hL3 hnr3))
      clear hs3 hop hXY hdk3 hlY hlg hlog hsf hal3 hL3 hnr3
      go_wp2_with fail
      refine hrw.mono ?_
      rintro e w4 ⟨m4, d4, rfl, hs4, hdk4, hq4⟩
      clear hrw
      obtain ⟨rfl, hal4, hch4⟩ := rew_ok H3.out.1 H3.out.2.1 (shorts_of_light HL.out) (by decide) log_ne right_log right_spare (by decide) (by omega) (by rw [H3.out.2.2.quota]; show _ ≤ 1048576; omega) hq4
      rcases lv_rewrite H3.out.2.1 (shorts_of_light HL.out) (by decide) log_ne hq4 with ⟨_, i4, hL4⟩ | ⟨h, _⟩
      rotate_left
      · exact absurd rfl h
      have hnr4 := H3.out.2.2.trans (rewT_nr hq4)
      have hc4 : d4.clock ≤ 7 := hnr4.clock
      have hd4 : d4.deeds ≤ 6 := by have := hnr4.deeds; exact this
      have hq4' : d4.quota = 1048576 := hnr4.quota
      have HB4 := Lib.hid (same_below hs4 HB3.out.size HY.out HB3.out rfl)
      have hbb : BRow w4 (.slice a bn bc) bl := HB.out.below HB4.out
      have hvX : ∀ x, Value.rowBlock (.slice a bn bc) = some x → Y x := fun x hx => HY.out x (HB.out.lt hx)
      obtain ⟨sa, sc, hsl⟩ := slice_of HB.out
      have hbn : bn = bl.length := by cases hsl; rfl
      have hw4 := write_ok (lv_shrink hdk4 hL4 (by omega) (by omega)) (by omega) (M := 65536) (Nat.le_refl _) (dk_len hdk4) (l := newN logN) (by decide) hbb hvX (by omega) (by rw [hq4']; omega) hal4.up hal4.left0 right_spare
      rw [show mk (newN logN) = (⟨#[108, 111, 103, 46, 110, 101, 119]⟩ : ByteArray) from rfl] at hw4
      have H4 := Lib.hid (And.intro hal4 (And.intro hch4 (And.intro hL4 (And.intro hc4 (And.intro hd4 hq4')))))
      clear hs4 hdk4 hq4 hal4 hch4 hL4 hnr4 hc4 hd4 hq4' hbb hvX hsl hbn
      go_wp2_with fail
      refine hw4.mono ?_
      rintro e w5 ⟨rfl, hs5, d5, hdk5, j, hj, hd5⟩
      clear hw4
      have HB5 := Lib.hid (same_below hs5 HB4.out.size HY.out HB4.out rfl)
      have hal5 : Al d5 := by rw [hd5]; exact ⟨H4.out.1.up, spent_left H4.out.1.left⟩
      have hdr := dir_d hdk5 (by omega)
      have H5 := Lib.hid (And.intro hal5 (And.intro hj hd5))
      clear hs5 hdk5 hal5 hj hd5
      go_wp2_with fail
      refine hdr.mono ?_
      rintro e w6 ⟨m6, d6, rfl, hs6, hdk6, hq6⟩
      clear hdr
      obtain ⟨rfl, hal6, hd6⟩ := al_dir H5.out.1 hq6
      have HB6 := Lib.hid (same_below hs6 HB5.out.size HY.out HB5.out rfl)
      have hmy : My logN (newN logN) 3 rs rs.length rs d6 ∧ bytesOf d6 logN = body 3 rs := by
        rw [hd6, H5.out.2.2]
        exact after_spare H4.out.2.2.1 (by decide) log_ne H5.out.2.1
      have hch6 : d6.changes = [] := by rw [hd6]; rfl
      have hc6 : d6.clock ≤ 8 := by rw [hd6, H5.out.2.2]; have := H4.out.2.2.2.1; show d4.clock + 1 ≤ 8; omega
      have hdd6 : d6.deeds ≤ 8 := by rw [hd6, H5.out.2.2]; have := H4.out.2.2.2.2.1; show d4.deeds + 1 + 1 ≤ 8; omega
      have hqq6 : d6.quota = 1048576 := by rw [hd6, H5.out.2.2]; exact H4.out.2.2.2.2.2
      obtain ⟨z, hz, hz3⟩ : ∃ z : Nat, (ar : Int).tmod 3 = (z : Int) ∧ z < 3 := ⟨ar % 3, by rw [Int.tmod_eq_emod_of_nonneg (by omega)]; omega, Nat.mod_lt _ (by omega)⟩
      have hA := arm_ok hdk6 (z : Int) (by omega)
      have H6 := Lib.hid (And.intro hmy (And.intro hch6 (And.intro hc6 (And.intro hdd6 hqq6))))
      clear hs6 hdk6 hq6 hd6 hal6 hmy hch6 hc6 hdd6 hqq6
      go_wp2_with fail
      refine hA.mono ?_
      rintro e w7 ⟨⟨v7, rfl⟩, hs7, hdk7⟩
      clear hA
      have HB7 := Lib.hid (same_below hs7 HB6.out.size HY.out HB6.out rfl)
      have hopn := open_any hdk7 (by omega) (nm := logN) (by decide) 3
      rw [show mk logN = (⟨#[108, 111, 103]⟩ : ByteArray) from rfl, show (((3 : UInt8).toNat : Nat) : Int) = 3 from rfl] at hopn
      clear hs7 hdk7
      go_wp2_with fail
      refine hopn.mono ?_
      rintro e w8 ⟨m8, d8, r8, Z, hs8, hop8, hYZ, hdk8, hret8⟩
      clear hopn
      have hmy8 := my_open (H6.out.1.1.like (like_arm d6 (z : Int))) (by show d6.changes.length ≤ 2; rw [H6.out.2.1]; decide) log_ne H6.out.1.2 hop8
      have hnr8 := openF_nr hop8
      have hc8 : d8.clock ≤ 10 := by have := hnr8.clock; have h1 : d6.clock ≤ 8 := H6.out.2.2.1; exact Nat.le_trans this (by show d6.clock + 2 ≤ 10; omega)
      have hdd8 : d8.deeds ≤ 10 := by have := hnr8.deeds; have h1 : d6.deeds ≤ 8 := H6.out.2.2.2.1; exact Nat.le_trans this (by show d6.deeds + 2 ≤ 10; omega)
      have hqq8 : d8.quota = 1048576 := hnr8.quota.trans H6.out.2.2.2.2
      have HB8 := Lib.hid (same_below hs8 HB7.out.size HY.out HB7.out rfl)
      have HZ : Hid (∀ x, x < w.heap.size → Z x) := Lib.hid fun x hx => hYZ x (HY.out x hx)
      obtain ⟨x8, rfl⟩ : ∃ x, e = .returned x := by
        rcases hret8 with ⟨_, h⟩ | ⟨_, _, _, h, _⟩
        · exact ⟨_, h⟩
        · exact ⟨_, h⟩
      have hre := restart_ok hdk8 (by omega) 0 (tnil w8) (by simp [Value.rowBlock]) (by simp)
      have H8 := Lib.hid (And.intro hmy8 (And.intro hc8 (And.intro hdd8 hqq8)))
      clear hs8 hop8 hYZ hdk8 hret8 hmy8 hnr8 hc8 hdd8 hqq8
      go_wp2_with fail
      refine hre.mono ?_
      rintro e w9 ⟨⟨x9, rfl⟩, hs9, ns, ⟨_, _, hnl⟩, hdk9⟩
      clear hre
      have hF := H8.out.1.restart (0 : Int).toNat [] ns
      obtain ⟨_, hr2, hr3, hr4, _⟩ := lostAll_rest (ts := []) ns 0 (back d8 (0 : Int).toNat)
      have hc9 : (lostAll [] 0 ns (back d8 (0 : Int).toNat)).clock ≤ 6001 := by have h1 := H8.out.2.1; have h2 : (back d8 (0 : Int).toNat).clock = d8.clock := rfl; omega
      have hd9 : (lostAll [] 0 ns (back d8 (0 : Int).toNat)).deeds ≤ 6000 := by rw [hr3]; have h1 := H8.out.2.2.1; show d8.deeds ≤ 6000; omega
      have hq9 : (lostAll [] 0 ns (back d8 (0 : Int).toNat)).quota = 1048576 := by rw [hr2]; exact H8.out.2.2.2
      have hdk9' := fnd_shrink hdk9 hF hc9 hd9
      generalize lostAll [] 0 ns (back d8 (0 : Int).toNat) = d9 at *
      have HB9 := Lib.hid (same_below hs9 HB8.out.size HZ.out HB8.out rfl)
      have hopn := open_any hdk9' (by omega) (nm := logN) (by decide) 3
      rw [show mk logN = (⟨#[108, 111, 103]⟩ : ByteArray) from rfl, show (((3 : UInt8).toNat : Nat) : Int) = 3 from rfl] at hopn
      have H9 := Lib.hid (And.intro hF hq9)
      clear hs9 hdk9 hdk9' hF hq9 hc9 hd9 hr2 hr3 hr4 hnl
      go_wp2_with fail
      refine hopn.mono ?_
      rintro e w10 ⟨m10, d10, r10, V, hs10, hop10, hZV, hdk10, hret10⟩
      clear hopn
      obtain ⟨ho9, hrec⟩ := fnd_recs H9.out.1
      obtain ⟨rfl, hr10, ⟨i10, hO10⟩, _⟩ := open_runs H9.out.1.rdy log_ne spare_ne right_log right_spare ⟨by decide, by rw [H9.out.2]; decide⟩ ho9 hop10
      have hgot : r10 = rs := by
        rw [hr10]
        rcases hrec with ⟨t, h1, h2, h3⟩ | h3
        · rw [h3, Nat.le_antisymm h2 h1, List.take_length]
        · exact h3
      subst hgot
      rcases hret10 with ⟨h, _⟩ | ⟨_, l10, u10, rfl, _, _, _, hsf10⟩
      · exact absurd rfl h
      obtain ⟨ga, gc, rfl, _⟩ := hsf10.mat
      have HB10 := Lib.hid (same_below hs10 HB9.out.size HZ.out HB9.out rfl)
      have hst := stat_none hdk10 (l := newN logN) (by unfold maxLen; decide) hO10.up hO10.spare
      rw [show mk (newN logN) = (⟨#[108, 111, 103, 46, 110, 101, 119]⟩ : ByteArray) from rfl] at hst
      have HS10 := Lib.hid hsf10.mat
      clear hs10 hop10 hZV hdk10 hsf10 hr10 ho9 hrec hO10
      generalize hrl : r10.length = rl at *
      have HRL := Lib.hid hrl
      clear hrl
      go_wp2_with fail
      refine hst.mono ?_
      rintro e w11 ⟨rfl, hb11⟩
      clear hst
      have hbA := hb11.alloc hb11.size (.cells #[.int .i64 0, .int .i64 0] 50)
      have hsm := same_c (Mat.below HS10.out hbA) (Mat.below HM.out (HB10.out.trans (hbA.mono HB10.out.size))) (by have := HN.out; omega)
      rw [show decide (r10 = r10) = true from decide_eq_true rfl] at hsm
      have HBA := Lib.hid (HB10.out.trans (hbA.mono HB10.out.size))
      clear hb11 hbA
      go_wp2_with fail
      refine hsm.mono ?_
      rintro e w12 ⟨rfl, hb12⟩
      clear hsm
      have HB12 := Lib.hid (HBA.out.trans (hb12.mono HBA.out.size))
      have haw := awake5_c w12
      clear hb12
      go_wp2_with fail
      refine haw.mono ?_
      rintro e w13 ⟨rfl, hb13⟩
      clear haw
      go_wp2
      go_ret
      exact ⟨rfl, HB12.out.trans (hb13.mono HB12.out.size)⟩
    · go_wp2
      go_ret
      exact ⟨rfl, Below.refl _ _⟩
  · rw [show decide (Light rs) = false from decide_eq_false hL] at hli
    clear hL
    go_enter Tryz.func5, Tryz.ntmps5
    go_wp2_with fail
    refine hli.mono ?_
    rintro e w1 ⟨rfl, rfl⟩
    clear hli
    go_wp2
    go_ret
    exact ⟨rfl, Below.refl _ _⟩
end Go.Proofs.YtfmelhcpccghdaaGreat.Rl
