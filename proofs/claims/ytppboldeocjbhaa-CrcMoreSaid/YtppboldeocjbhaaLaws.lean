/-
  THE LAWS CrcEnds, CrcMore, CrcHash, CrcNoughts, WALKED.
-/
import Derived.Test.YtppboldeocjbhaaApp
namespace Go.Proofs.Ytppboldeocjbhaa
open Go.RowKit

theorem lawends_any (a b : Option Addr) (n m cap cap' : Nat) (l k : List Nat) (w : World) (hl : ∀ n ∈ l, n < 256) (hk : ∀ n ∈ k, n < 256)
    (hn : Hid (n = l.length)) (hm : Hid (m = k.length)) (hnil : Hid (a = none → cap = 0)) (hnil' : Hid (b = none → cap' = 0)) (hrow : Row w a l) (hrow' : Row w b k) :
    Calls Try.prog 8 #[.slice a n cap, .slice b m cap'] w fun e w' => e = .returned (.bool true) ∧ Below w.heap.size w w' := by
  by_cases h1 : 1000 < n
  · go_enter Try.func8, Try.ntmps8
    go_wp2_with fail
    go_ret
    exact ⟨rfl, Below.refl _ _⟩
  by_cases h2 : 1000 < m
  · go_enter Try.func8, Try.ntmps8
    go_wp2_with fail
    go_ret
    exact ⟨rfl, Below.refl _ _⟩
  have e1 : l.length ≤ 1000 := by have := hn.out; omega
  have e2 : k.length ≤ 1000 := by have := hm.out; omega
  go_enter Try.func8, Try.ntmps8
  go_wp2_with fail
  refine (ends_any a n cap l _ hl e1 hn.out hnil.out hrow).mono ?_
  rintro e w1 ⟨rfl, hb1⟩
  go_wp2_with fail
  refine (ends_any b m cap' k _ hk e2 hm.out hnil'.out (hrow'.below hb1)).mono ?_
  rintro e w2 ⟨rfl, hb2⟩
  have hb2 := hb1.trans (hb2.mono hb1.size)
  go_wp2_with fail
  refine (awake_any _).mono ?_
  rintro e w3 ⟨rfl, hb3⟩
  have hb3 := hb2.trans (hb3.mono hb2.size)
  go_wp2_with fail
  go_ret
  exact ⟨rfl, hb3⟩

theorem lawmore_any (a b c : Option Addr) (na nb nc ca cb cc : Nat) (la lb lc : List Nat) (w : World) (hla : ∀ n ∈ la, n < 256) (hlb : ∀ n ∈ lb, n < 256) (hlc : ∀ n ∈ lc, n < 256)
    (hna : Hid (na = la.length)) (hnb : Hid (nb = lb.length)) (hnc : Hid (nc = lc.length)) (za : Hid (a = none → ca = 0)) (zb : Hid (b = none → cb = 0)) (zc : Hid (c = none → cc = 0))
    (ra : Row w a la) (rb : Row w b lb) (rc : Row w c lc) :
    Calls Try.prog 4 #[.slice a na ca, .slice b nb cb, .slice c nc cc] w fun e w' => e = .returned (.bool true) ∧ Below w.heap.size w w' := by
  by_cases h1 : 1000 < na
  · go_enter Try.func4, Try.ntmps4
    go_wp2_with fail
    go_ret
    exact ⟨rfl, Below.refl _ _⟩
  by_cases h2 : 1000 < nb
  · go_enter Try.func4, Try.ntmps4
    go_wp2_with fail
    go_ret
    exact ⟨rfl, Below.refl _ _⟩
  by_cases h3 : 1000 < nc
  · go_enter Try.func4, Try.ntmps4
    go_wp2_with fail
    go_ret
    exact ⟨rfl, Below.refl _ _⟩
  have e1 : la.length ≤ 1000 := by have := hna.out; omega
  have e2 : lb.length ≤ 1000 := by have := hnb.out; omega
  have e3 : lc.length ≤ 1000 := by have := hnc.out; omega
  go_enter Try.func4, Try.ntmps4
  go_wp2_with (first | (at_builtin; refine wpList_append_bytes rfl (.tmp 21) (.tmp 22) rfl w.heap.size (.slice (some ⟨w.heap.size, 0, none⟩) 0 0) 0 [] rfl (owns_made w _ (Nat.le_refl _)) a na ca la rfl hna.out za.out (ra.below (below_alloc _ _)) la rfl (by omega) (by simp) ?_; intro a1 n1 c1 w1 hown1 Hn1 hle1 _ _ hb1; have hb1 := (below_alloc w _).trans hb1) | (at_builtin; refine wpList_append_bytes rfl (.tmp 23) (.tmp 24) rfl w.heap.size (.slice a1 n1 c1) n1 la rfl hown1 b nb cb lb rfl hnb.out zb.out (rb.below hb1) (la ++ lb) rfl (by omega) hb1.size ?_; intro a2 n2 c2 w2 hown2 Hn2 hle2 _ _ hb2; have hb2 := hb1.trans hb2) | (at_builtin; refine wpList_append_bytes rfl (.tmp 25) (.tmp 26) rfl w.heap.size (.slice a2 n2 c2) n2 (la ++ lb) rfl hown2 c nc cc lc rfl hnc.out zc.out (rc.below hb2) (la ++ lb ++ lc) rfl (by omega) hb2.size ?_; intro a3 n3 c3 w3 _ Hn3 hle3 hrow3 _ hb3; have hb3 := hb2.trans hb3; clear hown1 hown2 hb1 hb2))
  have lab := app_lt hla hlb
  have labc := app_lt lab hlc
  have m1 : Crc.more (Crc.sum la) lb = Crc.sum (la ++ lb) := Crc.more_append hla
  have m2 : Crc.more (Crc.sum (la ++ lb)) lc = Crc.sum (la ++ lb ++ lc) := Crc.more_append lab
  have m3 : Crc.more (Crc.sum la) [] = Crc.sum la := Crc.more_nil (Crc.more_lt _ _)
  have M1 := Lib.hid m1
  have M2 := Lib.hid m2
  have M3 := Lib.hid m3
  clear m1 m2 m3
  have s1 : Crc.sum la < 4294967296 := Crc.more_lt _ _
  have s2 : Crc.sum (la ++ lb) < 4294967296 := Crc.more_lt _ _
  refine (sum_any a na ca la _ hla (by omega) hna.out (ra.below hb3)).mono ?_
  rintro e w4 ⟨rfl, hc4⟩
  have hb4 := hb3.trans (hc4.mono hb3.size)
  go_wp2_with fail
  refine (more_any (Crc.sum la) b nb cb lb _ s1 hlb (by omega) hnb.out (rb.below hb4)).mono ?_
  rintro e w5 ⟨rfl, hd5⟩
  have hc5 := hc4.trans (hd5.mono hc4.size)
  have hb5 := hb3.trans (hc5.mono hb3.size)
  clear hc4 hd5 hb4
  rw [M1.out]
  go_wp2_with fail
  refine (more_any (Crc.sum (la ++ lb)) c nc cc lc _ s2 hlc (by omega) hnc.out (rc.below hb5)).mono ?_
  rintro e w6 ⟨rfl, hd6⟩
  have hc6 := hc5.trans (hd6.mono hc5.size)
  have hb6 := hb3.trans (hc6.mono hb3.size)
  clear hc5 hd6 hb5
  rw [M2.out]
  go_wp2_with fail
  refine (sum_any a3 n3 c3 _ _ labc (by simp; omega) Hn3.out (hrow3.below hc6)).mono ?_
  rintro e w7 ⟨rfl, hd7⟩
  have hb7 := hb6.trans (hd7.mono hb6.size)
  clear hc6 hd7 hb6
  go_wp2_with fail
  refine (more_any 0 a na ca la _ (by omega) hla (by omega) hna.out (ra.below hb7)).mono ?_
  rintro e w8 ⟨rfl, hd8⟩
  have hb8 := hb7.trans (hd8.mono hb7.size)
  clear hd8 hb7
  rw [show Crc.more 0 la = Crc.sum la from rfl]
  go_wp2_with fail
  refine (sum_any a na ca la _ hla (by omega) hna.out (ra.below hb8)).mono ?_
  rintro e w9 ⟨rfl, hd9⟩
  have hb9 := hb8.trans (hd9.mono hb8.size)
  clear hd9 hb8
  go_wp2_with fail
  refine (sum_any a na ca la _ hla (by omega) hna.out (ra.below hb9)).mono ?_
  rintro e w10 ⟨rfl, hd10⟩
  have hb10 := hb9.trans (hd10.mono hb9.size)
  clear hd10 hb9
  go_wp2_with fail
  refine (more_any (Crc.sum la) none 0 0 [] _ s1 (by simp) (by simp) rfl (.inl rfl)).mono ?_
  rintro e w11 ⟨rfl, hd11⟩
  have hb11 := hb10.trans (hd11.mono hb10.size)
  clear hd11 hb10
  rw [M3.out]
  go_wp2_with fail
  refine (sum_any a na ca la _ hla (by omega) hna.out (ra.below hb11)).mono ?_
  rintro e w12 ⟨rfl, hd12⟩
  have hb12 := hb11.trans (hd12.mono hb11.size)
  clear hd12 hb11
  go_wp2_with fail
  refine (awake_any _).mono ?_
  rintro e w13 ⟨rfl, hd13⟩
  have hb13 := hb12.trans (hd13.mono hb12.size)
  go_wp2_with fail
  go_ret
  exact ⟨rfl, hb13⟩

theorem lawhash_any (a : Option Addr) (n cap : Nat) (l : List Nat) (x y : Nat) (w : World) (hl : ∀ n ∈ l, n < 256) (hx : x < 256) (hy : y < 256)
    (hn : Hid (n = l.length)) (hnil : Hid (a = none → cap = 0)) (hrow : Row w a l) :
    Calls Try.prog 9 #[.slice a n cap, .int .u8 (x : Int), .int .u8 (y : Int)] w fun e w' => e = .returned (.bool true) ∧ Below w.heap.size w w' := by
  by_cases h1 : 1000 < n
  · go_enter Try.func9, Try.ntmps9
    go_wp2_with fail
    go_ret
    exact ⟨rfl, Below.refl _ _⟩
  have e1 : l.length ≤ 1000 := by have := hn.out; omega
  go_enter Try.func9, Try.ntmps9
  go_wp2_with fail
  refine (hash_any a n cap l _ hl (by omega) hn.out hrow).mono ?_
  rintro e w1 ⟨rfl, hb1⟩
  have hrow1 := hrow.below hb1
  have hh := Crc.hash_lt l
  have hsx := Crc.hash_snoc l x
  have hsy := Crc.hash_snoc l y
  have hinj := Crc.hstep_inj hh hx hy
  have hdef := Crc.hstep_def (Crc.hash l) x
  generalize Crc.hash l = h at *
  have HX := Lib.hid hsx
  have HY := Lib.hid hsy
  have HI := Lib.hid hinj
  have HD := Lib.hid hdef
  clear hsx hsy hinj hdef
  go_wp2_with (first | (at_builtin; refine wpList_append_bytes rfl (.tmp 16) (.tmp 17) rfl w1.heap.size (.slice (some ⟨w1.heap.size, 0, none⟩) 0 0) 0 [] rfl (owns_made w1 _ (Nat.le_refl _)) a n cap l rfl hn.out hnil.out (hrow1.below (below_alloc _ _)) l rfl (by omega) (by simp) ?_; intro a2 n2 c2 w2 hown2 Hn2 hle2 _ _ hb2; have hb2 := (below_alloc w1 _).trans hb2) | (at_builtin; refine wpList_append_bytes rfl (.tmp 18) (.tmp 20) rfl w1.heap.size (.slice a2 n2 c2) n2 l rfl (hown2.alloc _) (some ⟨w2.heap.size, 0, none⟩) 1 1 [x] rfl rfl (by simp) (row_list _ _ _ _ _ rfl) (l ++ [x]) rfl (by omega) (by have := hb2.size; simp; omega) ?_; intro a3 n3 c3 w3 hown3 Hn3 hle3 hrow3 _ hb3; have hb3 := (hb2.alloc hb2.size _).trans hb3) | (at_builtin; refine wpList_append_bytes rfl (.tmp 22) (.tmp 23) rfl w3.heap.size (.slice (some ⟨w3.heap.size, 0, none⟩) 0 0) 0 [] rfl (owns_made w3 _ (Nat.le_refl _)) a n cap l rfl hn.out hnil.out ((hrow1.below hb3).below (below_alloc _ _)) l rfl (by omega) (by simp) ?_; intro a4 n4 c4 w4 hown4 Hn4 hle4 _ _ hb4; have hb4 := (below_alloc w3 _).trans hb4) | (at_builtin; refine wpList_append_bytes rfl (.tmp 24) (.tmp 26) rfl w3.heap.size (.slice a4 n4 c4) n4 l rfl (hown4.alloc _) (some ⟨w4.heap.size, 0, none⟩) 1 1 [y] rfl rfl (by simp) (row_list _ _ _ _ _ rfl) (l ++ [y]) rfl (by omega) (by have := hb4.size; simp; omega) ?_; intro a5 n5 c5 w5 hown5 Hn5 hle5 hrow5 _ hb5; have hb5 := (hb4.alloc hb4.size _).trans hb5))
  have hwant : IntKind.u64.wrap (bits BinOp.xor IntKind.u64 (h : Int) (x : Int) * 1099511628211) = ((Crc.hstep h x : Nat) : Int) := by
    rw [u64_xor_nat h x hh (by omega), IntKind.wrap_u64, HD.out]
    omega
  rw [hwant]
  clear hwant HD
  have hb6 := hb3.trans (hb5.mono hb3.size)
  refine (hash_any a3 n3 c3 (l ++ [x]) _ (app_lt hl (by simpa using hx)) (by simp; omega) Hn3.out (hrow3.below hb5)).mono ?_
  rintro e w6 ⟨rfl, hc6⟩
  rw [HX.out]
  have hd6 := hb5.trans (hc6.mono hb5.size)
  go_wp2_with fail
  refine (hash_any a3 n3 c3 (l ++ [x]) _ (app_lt hl (by simpa using hx)) (by simp; omega) Hn3.out (hrow3.below hd6)).mono ?_
  rintro e w7 ⟨rfl, hc7⟩
  rw [HX.out]
  have hd7 := hc6.trans (hc7.mono hc6.size)
  go_wp2_with fail
  refine (hash_any a5 n5 c5 (l ++ [y]) _ (app_lt hl (by simpa using hy)) (by simp; omega) Hn5.out (hrow5.below hd7)).mono ?_
  rintro e w8 ⟨rfl, hc8⟩
  rw [HY.out]
  have hd8 := hb6.trans ((hd7.trans (hc8.mono hd7.size)).mono hb6.size)
  clear hc6 hc7 hd7 hd6 hb6 hb5 hb3
  by_cases hxy : x = y
  · subst hxy
    go_wp2_with fail
    refine (awake_any _).mono ?_
    rintro e w9 ⟨rfl, hc9⟩
    have hd9 := hb1.trans ((hd8.trans (hc9.mono hd8.size)).mono hb1.size)
    go_wp2_with fail
    go_ret
    exact ⟨rfl, hd9⟩
  · have hne : Crc.hstep h x ≠ Crc.hstep h y := fun e => hxy (HI.out.1 e)
    have t1 : (((Crc.hstep h x : Nat) : Int) == ((Crc.hstep h y : Nat) : Int)) = false := by rw [beq_eq_false_iff_ne]; omega
    have t2 : ((x : Int) == (y : Int)) = false := by rw [beq_eq_false_iff_ne]; omega
    generalize Crc.hstep h x = hx' at *
    generalize Crc.hstep h y = hy' at *
    go_wp2_with fail
    refine (awake_any _).mono ?_
    rintro e w9 ⟨rfl, hc9⟩
    have hd9 := hb1.trans ((hd8.trans (hc9.mono hd8.size)).mono hb1.size)
    go_wp2_with fail
    go_ret
    exact ⟨rfl, hd9⟩

end Go.Proofs.Ytppboldeocjbhaa
