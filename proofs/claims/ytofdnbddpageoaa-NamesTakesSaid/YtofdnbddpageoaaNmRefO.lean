/-
  THE DOCUMENT's BOOK TAKES A Ytofdnbddpageoaa's RECORD: WALKED.
-/
import Derived.Test.YtofdnbddpageoaaNmPutW
import Derived.Test.YtofdnbddpageoaaNmWith
import Derived.Test.YtofdnbddpageoaaNmTakeR
namespace Go.Proofs.Ytofdnbddpageoaa.Nm
open Go.RowKit Go.Maps

/-- what a record does to names, and to what was found -/
def refT (N : List ByteArray) (L : List Dp) : List Nat → Option (List ByteArray × List Dp)
  | [] => Option.none
  | k :: l => if k = 1 then (takeN ⟨N, []⟩ l).map (fun B' => (B'.N, L)) else if k = 2 then (if fitsO ⟨N, []⟩ l = true then some (N, putL L ⟨nameAt N (oOut l), (oTime l : Int), (nums (oMany l) (oRest l)).map (nameAt N)⟩) else Option.none) else Option.none

/-- what the document's Take comes to -/
def RtQ (S : Nat → Prop) (w : World) (p : Nat) (N : List ByteArray) (L : List Dp) (R : Option (List ByteArray × List Dp)) (e : Ending) (w' : World) : Prop :=
  e = .returned (.bool R.isSome) ∧ (∃ vN' vL' G', Rb (more S w w') w' p (R.getD (N, L)).1 (R.getD (N, L)).2 vN' vL' G') ∧ Mod S w w'

theorem rt_none {S : Nat → Prop} {w W : World} {p : Nat} {N : List ByteArray} {L : List Dp} {vN vL : Value} {G : List Gd} {R : Option (List ByteArray × List Dp)} (h : Rb S w p N L vN vL G) (hB : Below w.heap.size w W) (hR : R = Option.none) : RtQ S w p N L R (.returned (.bool false)) W := by
  subst hR
  exact ⟨rfl, ⟨_, _, _, (h.below hB).wide fun k hk => .inl hk⟩, Mod.ofBelow hB⟩

/-- a name behind the others -/
theorem rb_named {S : Nat → Prop} {w W W4 : World} {p : Nat} {N : List ByteArray} {L : List Dp} {vN vL v' : Value} {G : List Gd} {s : ByteArray} {R : Option (List ByteArray × List Dp)} (h : Rb S W p N L vN vL G) (hB : Below w.heap.size w W) (hSw : ∀ k, S k → k < w.heap.size) (hN : N.length ≤ 100000)
    (ho : W4.ownsRow 0 9 1 v' (N ++ [s]).length (strV (N ++ [s]))) (hg : (W.alloc (.cells #[.string s] 9)).grownBy W4 vN.ownBlock) (h5 : v'.ownBlock = vN.ownBlock ∨ v'.ownBlock = some (W.heap.size + 1)) (hR : R = some (N ++ [s], L)) :
    RtQ S w p N L R (.returned (.bool true)) (W4.setCell ⟨p, 0, Option.none⟩ v') ∧ W4.cell? ⟨p, 0, Option.none⟩ = some vN ∧ W4.frozen? ⟨p, 0, Option.none⟩ = false := by
  subst hR
  have hA := Pk.below_alloc W (.cells #[.string s] 9)
  have hz : (W.alloc (.cells #[.string s] 9)).heap.size = W.heap.size + 1 := World.size_alloc _ _
  have hpl := lt_some h.box
  have hWs := hB.size
  have hnp : vN.ownBlock ≠ some p := fun e => by
    obtain ⟨_, cur, hc⟩ := owns_block h.names e
    exact ne_type hc h.box (by decide) rfl
  have hkeep4 : ∀ k, k < W.heap.size → vN.ownBlock ≠ some k → W4.heap[k]? = W.heap[k]? := fun k hk hn => (hg.block k (by omega) (fun e => hn e.symm)).trans (hA.block k hk)
  have hbox : W4.heap[p]? = some (.cells #[vN, vL] 30 (0, 0)) := (hkeep4 p hpl hnp).trans h.box
  have hset := Pk.set_block (j := 0) (u := v') hbox
  obtain ⟨W9, hW9⟩ : ∃ V, W4.setCell ⟨p, 0, Option.none⟩ v' = V := ⟨_, rfl⟩
  rw [hW9] at hset ⊢
  have hother : ∀ k, k ≠ p → W9.heap[k]? = W4.heap[k]? := fun k hk => by rw [← hW9, set_off hk]
  have hsize : W9.heap.size = W4.heap.size := by rw [← hW9]; simp only [World.size_setCell]
  have hs4 : W.heap.size + 1 ≤ W4.heap.size := by rw [← hz]; exact hg.size
  have hkeep : ∀ k, k < W.heap.size → k ≠ p → vN.ownBlock ≠ some k → W9.heap[k]? = W.heap[k]? := fun k h1 h2 h3 => (hother k h2).trans (hkeep4 k h1 h3)
  have hv' : ∀ k, v'.ownBlock = some k → S k ∨ (w.heap.size ≤ k ∧ k < W4.heap.size) := fun k hk => by
    rcases h5 with h5 | h5
    · exact .inl (h.namesS k (h5.symm.trans hk))
    · have := (ho.lt k hk).2
      rw [h5] at hk
      cases hk
      exact .inr ⟨by omega, this⟩
  have hv'p : ∀ k, v'.ownBlock = some k → k ≠ p := fun k hk e => by
    obtain ⟨_, cur, hc⟩ := owns_block ho hk
    rw [e] at hc
    exact ne_type hc hbox (by decide) rfl
  refine ⟨⟨rfl, ⟨v', vL, G, ?_⟩, ?_⟩, by simp [World.cell?, hbox], by simp [World.frozen?, hbox]⟩
  · exact {
      box := hset
      inS := .inl h.inS
      names := owns_kept ho fun k hk => hother k (hv'p k hk)
      namesS := fun k hk => (hv' k hk).imp id fun h => ⟨h.1, by rw [hsize]; exact h.2⟩
      found := owns_kept h.found fun k hk => hkeep k (h.found.lt k hk).2 (fun e => by
        obtain ⟨_, cur, hc⟩ := owns_block h.found hk
        rw [e] at hc
        exact ne_type hc h.box (by decide) rfl) fun e => by
          obtain ⟨_, _, x1⟩ := owns_block h.names e
          obtain ⟨_, _, x2⟩ := owns_block h.found hk
          exact ne_type x1 x2 (by decide) rfl
      foundS := fun k hk => .inl (h.foundS k hk)
      els := fun g hg => by
        have := (h.els g hg).keep (w' := W9) (fun k hk hl => hkeep k hl hk.2.1 hk.2.2.1) (by omega)
        refine this.wide fun k hk _ => ⟨.inl hk.1, hk.2.1, fun e => ?_, hk.2.2.2⟩
        rcases h5 with h5 | h5
        · exact hk.2.2.1 (h5.symm.trans e)
        · have := hSw k hk.1
          rw [h5] at e
          cases e
          omega
      eq := h.eq
      few := by show (N ++ [s]).length ≤ _; rw [List.length_append]; show N.length + 1 ≤ _; omega
      fewL := h.fewL }
  · refine ⟨?_, ?_, ?_, by omega, fun k hk hs => ?_⟩
    · rw [← hW9]; exact (hg.os.trans hA.os).trans hB.os
    · rw [← hW9]; exact (hg.tape.trans hA.tape).trans hB.tape
    · rw [← hW9]; exact (hg.output.trans hA.output).trans hB.output
    · exact (hkeep k (by omega) (fun e => hs (by rw [e]; exact h.inS)) (fun e => hs (h.namesS k e))).trans (hB.block k hk)

set_option maxRecDepth 100000 in
set_option maxHeartbeats 8000000 in
theorem refName_c {S : Nat → Prop} {w : World} {p : Nat} {N : List ByteArray} {L : List Dp} {vN vL : Value} {G : List Gd} {a : Option Addr} {n c : Nat} {t : List Nat} (h : Rb S w p N L vN vL G) (hSw : ∀ k, S k → k < w.heap.size) (hrow : Pk.Row w a (1 :: t)) (hn : Hid (n = (1 :: t).length)) (hc : n ≤ c) (hl : (1 :: t).length ≤ 1000000) (hb : ∀ x ∈ t, x < 256) (hN : N.length ≤ 100000) :
    Calls Try.prog 11 #[.pointer (some ⟨p, 0, Option.none⟩), .slice a n c] w (RtQ S w p N L (refT N L (1 :: t))) := by
  obtain ⟨an, cn, rfl⟩ := own_slice h.names
  obtain ⟨b, off, rfl, hbl, hcell, htail⟩ := row_tail hrow
  obtain ⟨m, rfl⟩ : ∃ m, n = m + 1 := ⟨t.length, hn.out⟩
  have hbox1 : (w.alloc (.cells #[.slice (some ⟨b, off, Option.none⟩) (m + 1) c, .int .i64 1, .bool false] 72)).heap[w.heap.size]? = _ := heap_alloc_new _ _
  have hB1 := Pk.below_alloc w (.cells #[.slice (some ⟨b, off, Option.none⟩) (m + 1) c, .int .i64 1, .bool false] 72)
  have hrf : Pk.Rf (w.alloc (.cells #[.slice (some ⟨b, off, Option.none⟩) (m + 1) c, .int .i64 1, .bool false] 72)) w.heap.size b t false := by
    refine ⟨by omega, by rw [World.size_alloc]; omega, _, m + 1, c, 1, 1 :: t, hbox1, hn.out, by omega, by rw [hn.out]; exact hl, hc, (fun e => by cases e), (fun _ => rfl), .inr ⟨off, rfl, fun i hi => ?_⟩⟩
    rcases hrow with h0 | ⟨b', off', e, _, hc'⟩
    · cases h0
    · cases e
      exact (cell_of_block (hB1.block b hbl)).trans (hc' i hi)
  have hT := Pk.reftext_any w.heap.size b t false _ hrf (fun e => by cases e) hb
  have HS : Hid (∀ W, Below w.heap.size w W → Rb S W p N L (.slice an N.length cn) vL G) := Lib.hid fun W hb => h.below hb
  obtain ⟨s, hs⟩ : ∃ s, s = Pk.str (Pk.txS t) := ⟨_, rfl⟩
  have HR0 : Hid (refT N L (1 :: t) = if Pk.txB t false = false ∧ Pk.txL t = [] ∧ ixOf N s = Option.none then some (N ++ [s], L) else Option.none) := Lib.hid (by
    rw [hs]
    show (takeN ⟨N, []⟩ t).map (fun B' => (B'.N, L)) = _
    unfold takeN
    split <;> rfl)
  rw [← hs] at hT
  have HB1 := Lib.hid hB1
  have HSW := Lib.hid hSw
  have HH := Lib.hid h
  have z1 : (0 : Int) < (m : Int) + 1 := by omega
  have z2 : ¬ ((m : Int) + 1 = 0) := by omega
  clear h hSw hrow hn hc hl hb htail hbox1 hrf hs hB1
  go_enter Try.func11, Try.ntmps11
  go_wp2_with fail
  refine hT.mono ?_
  rintro e w1 ⟨rfl, hr1, ho1⟩
  have hB2 : Below w.heap.size w w1 := HB1.out.trans (ho1.below (Nat.le_refl _) (by rw [World.size_alloc]; omega))
  have HB2 := Lib.hid hB2
  obtain ⟨hne, hlt, ra, rn, rc, rat, rB, hq, hrest⟩ := hr1
  obtain ⟨-, -, q2, -, -, -⟩ := Pk.cell_three hq
  have HR1 := Lib.hid (show Pk.Rf w1 w.heap.size b (Pk.txL t) (Pk.txB t false) from ⟨hne, hlt, ra, rn, rc, rat, rB, hq, hrest⟩)
  clear hT hB2 ho1 hne hlt hq hrest hcell
  cases hbad : Pk.txB t false with
  | true =>
    rw [hbad] at q2
    have HR : Hid (refT N L (1 :: t) = Option.none) := Lib.hid (by rw [HR0.out, if_neg (by rw [hbad]; simp)])
    clear hbad
    go_wp2_with fail
    go_ret
    exact rt_none HH.out HB2.out HR.out
  | false =>
    rw [hbad] at q2
    have HBAD := Lib.hid hbad
    have hleft := Pk.refleft_any w.heap.size b _ _ w1 HR1.out
    clear hbad
    go_wp2_with fail
    refine hleft.mono ?_
    rintro e w2 ⟨rfl, kd, rfl⟩
    have HB3 := Lib.hid (below_drawn HB2.out kd)
    generalize w1.drewN kd = w3 at *
    clear hleft q2
    cases hL : Pk.txL t with
    | cons z zs =>
      have HR : Hid (refT N L (1 :: t) = Option.none) := Lib.hid (by rw [HR0.out, if_neg (by rw [hL]; simp)])
      have zz : (0 : Int) < (((z :: zs).length : Nat) : Int) := by simp
      generalize (z :: zs).length = zl at *
      clear hL
      go_wp2_with fail
      go_ret
      exact rt_none HH.out HB3.out HR.out
    | nil =>
      have HL := Lib.hid hL
      have hrb := HS.out _ HB3.out
      have hat := at_c (s := s) hrb.box (strRow_of hrb.names).1 hrb.few
      clear hL hrb
      go_wp2_with fail
      refine hat.mono ?_
      rintro e w4 ⟨rfl, rfl⟩
      clear hat
      unfold atZ
      cases hix : ixOf N s with
      | some i =>
        have HR : Hid (refT N L (1 :: t) = Option.none) := Lib.hid (by rw [HR0.out, if_neg (by rw [hix]; simp)])
        clear hix
        simp only []
        go_wp2_with fail
        go_ret
        exact rt_none HH.out HB3.out HR.out
      | none =>
        have HR : Hid (refT N L (1 :: t) = some (N ++ [s], L)) := Lib.hid (by rw [HR0.out, if_pos ⟨HBAD.out, HL.out, hix⟩])
        clear hix
        simp only []
        have hrb := HS.out _ HB3.out
        obtain ⟨c0, -, -, -⟩ := hrb.cells
        obtain ⟨a9, c9, w9, hr9, ho9, hg9, hw9⟩ := str_app (s := s) (ty := 27) hrb.names (Nat.zero_le _) hN
        obtain ⟨fin, d0, d1⟩ := rb_named hrb HB3.out HSW.out hN ho9 hg9 hw9 HR.out
        have e9 : (N ++ [s]).length = N.length + 1 := by simp
        rw [e9] at hr9 fin
        have HR9 := Lib.hid hr9
        have FIN := Lib.hid fin
        clear hrb ho9 hg9 hw9 hr9 fin e9
        go_wp2_with (at_builtin; refine wpList_run rfl (.tmp 56) (.tmp 58) rfl rfl rfl HR9.out ?_)
        go_ret
        exact FIN.out
end Go.Proofs.Ytofdnbddpageoaa.Nm

/-! THE DOCUMENT's BOOK TAKES AN OUTPUT's RECORD: WALKED. -/
namespace Go.Proofs.Ytofdnbddpageoaa.Nm
open Go.RowKit Go.Maps

theorem Rf.keep2 {w w' : World} {q g : Nat} {l : List Nat} {bad : Bool} (h : Pk.Rf w q g l bad) (hq' : w'.heap[q]? = w.heap[q]?) (hg' : w'.heap[g]? = w.heap[g]?) (hs : w.heap.size ≤ w'.heap.size) : Pk.Rf w' q g l bad := by
  obtain ⟨hne, hlt, a, n, c, at', B, hq, hn, hat, hn1, hnc, e1, e2, hB⟩ := h
  refine ⟨hne, Nat.lt_of_lt_of_le hlt hs, a, n, c, at', B, hq'.trans hq, hn, hat, hn1, hnc, e1, e2, ?_⟩
  rcases hB with h | ⟨off, e, hc⟩
  · exact .inl h
  · exact .inr ⟨off, e, fun i hi => (cell_of_block hg').trans (hc i hi)⟩

/-- in the loop: the reader, the box of what is found, its names -/
structure RtL (w wr : World) (q qd b : Nat) (nm : ByteArray) (time : Int) (l : List Nat) (D : List ByteArray) (da : Option Addr) (dc : Nat) : Prop where
  rd : Pk.Rf wr q b l false
  qw : w.heap.size ≤ q
  bw : b < w.heap.size
  box : wr.heap[qd]? = some (.cells #[.string nm, .int .i64 time, .slice da D.length dc] 42 (0, 0))
  dw : w.heap.size ≤ qd
  own : wr.ownsRow w.heap.size 9 1 (.slice da D.length dc) D.length (strV D)
  bel : Below w.heap.size w wr
section
variable {w wr W : World} {q qd b : Nat} {nm : ByteArray} {time : Int} {l l' : List Nat} {D : List ByteArray} {da : Option Addr} {dc : Nat}
theorem RtL.qbox (h : RtL w wr q qd b nm time l D da dc) : ∃ C, wr.heap[q]? = some (.cells C 72 (0, 0)) := by
  obtain ⟨_, _, a, n, c, at', B, hq, _⟩ := h.rd
  exact ⟨_, hq⟩
theorem RtL.only (h : RtL w wr q qd b nm time l D da dc) (ho : Pk.Only q wr W) (hr : Pk.Rf W q b l' false) : RtL w W q qd b nm time l' D da dc := by
  obtain ⟨C, hq⟩ := h.qbox
  exact {
    rd := hr
    qw := h.qw
    bw := h.bw
    box := (ho.block qd (lt_some h.box) (ne_type h.box hq (by decide))).trans h.box
    dw := h.dw
    own := owns_kept h.own fun g hg => ho.block g (h.own.lt g hg).2 (by
      obtain ⟨_, _, x1⟩ := owns_block h.own hg
      exact ne_type x1 hq (by decide))
    bel := h.bel.trans (ho.below h.qw h.bel.size) }
theorem RtL.below (h : RtL w wr q qd b nm time l D da dc) (hb : Below wr.heap.size wr W) : RtL w W q qd b nm time l D da dc where
  rd := Rf.keep2 h.rd (by obtain ⟨C, hq⟩ := h.qbox; exact hb.block q (lt_some hq)) (hb.block b h.rd.lt) hb.size
  qw := h.qw
  bw := h.bw
  box := (hb.block qd (lt_some h.box)).trans h.box
  dw := h.dw
  own := owns_below h.own hb
  bel := h.bel.trans (hb.mono h.bel.size)
theorem RtL.drawn (h : RtL w wr q qd b nm time l D da dc) (n : Nat) : RtL w (wr.drewN n) q qd b nm time l D da dc := h.below (below_drawn (Below.refl _ _) n)

/-- a name behind the names -/
theorem RtL.app {s : ByteArray} {w9 : World} {a9 : Option Addr} {c9 : Nat} (h : RtL w wr q qd b nm time l D da dc) (ho : w9.ownsRow w.heap.size 9 1 (.slice a9 (D ++ [s]).length c9) (D ++ [s]).length (strV (D ++ [s]))) (hg : (wr.alloc (.cells #[.string s] 9)).grownBy w9 (Value.slice da D.length dc).ownBlock) :
    RtL w (w9.setCell ⟨qd, 2, Option.none⟩ (.slice a9 (D ++ [s]).length c9)) q qd b nm time l (D ++ [s]) a9 c9 ∧ w9.heap[qd]? = some (.cells #[.string nm, .int .i64 time, .slice da D.length dc] 42 (0, 0)) ∧ Below w.heap.size w w9 := by
  have h1 := h.below (Pk.below_alloc wr (.cells #[.string s] 9))
  obtain ⟨C, hq⟩ := h1.qbox
  have k9 : ∀ k, k < (wr.alloc (.cells #[.string s] 9)).heap.size → (∀ C' , (wr.alloc (.cells #[.string s] 9)).heap[k]? = some C' → ∀ C2, C' = .cells C2 9 (0, 0) → False) → w9.heap[k]? = (wr.alloc (.cells #[.string s] 9)).heap[k]? := fun k hk hn => hg.block k hk fun e => by
    obtain ⟨_, cur, x1⟩ := owns_block h1.own e.symm
    exact hn _ x1 _ rfl
  have b9 : w9.heap[qd]? = some (.cells #[.string nm, .int .i64 time, .slice da D.length dc] 42 (0, 0)) := (hg.block qd (lt_some h1.box) fun e => by
    obtain ⟨_, cur, x1⟩ := owns_block h1.own e.symm
    exact ne_type h1.box x1 (by decide) rfl).trans h1.box
  have q9 : w9.heap[q]? = (wr.alloc (.cells #[.string s] 9)).heap[q]? := hg.block q (lt_some hq) fun e => by
    obtain ⟨_, cur, x1⟩ := owns_block h1.own e.symm
    exact ne_type hq x1 (by decide) rfl
  have hqd : q ≠ qd := ne_type hq h1.box (by decide)
  have bel9 : Below w.heap.size w w9 := h1.bel.trans ⟨hg.os, hg.tape, hg.output, hg.size, fun k hk => hg.block k (by have := h1.bel.size; omega) fun e => by
    have := (h1.own.lt k e.symm).1
    omega⟩
  refine ⟨{
    rd := Rf.keep2 h1.rd ((set_off hqd).trans q9) ((set_off (by have := h.bw; have := h.dw; omega)).trans ((bel9.block b h.bw).trans (h1.bel.block b h.bw).symm)) (by rw [World.size_setCell]; exact hg.size)
    qw := h.qw
    bw := h.bw
    box := Pk.set_block (j := 2) b9
    dw := h.dw
    own := owns_kept ho fun g hg' => set_off fun e => by
      obtain ⟨_, _, x1⟩ := owns_block ho hg'
      exact ne_type x1 b9 (by decide) e
    bel := ⟨bel9.os, bel9.tape, bel9.output, by rw [World.size_setCell]; exact bel9.size, fun k hk => (set_off (by have := h.dw; omega)).trans (bel9.block k hk)⟩ }, b9, bel9⟩
end

theorem nums_get {k j : Nat} (l : List Nat) (h : j < k) : (nums k l)[j]? = some (Pk.num ((l.drop (4 * j)).take 4)) := by
  simp [nums, List.getElem?_range h]

/-- put, behind the reading -/
theorem rt_put {S : Nat → Prop} {w W w' : World} {p : Nat} {N : List ByteArray} {L : List Dp} {vN : Value} {d : Dp} {e e' : Ending} {R : Option (List ByteArray × List Dp)} (hB : Below w.heap.size w W) (h : PuQ (more S w W) W p N L vN d e w') (hR : R = some (N, putL L d)) (he : e' = .returned (.bool true)) : RtQ S w p N L R e' w' := by
  obtain ⟨-, ⟨vL', G', hk⟩, hm⟩ := h
  subst hR
  refine ⟨he, ⟨vN, vL', G', hk.wide (more_more (fun k hk => hk) hB.size hm.size)⟩, ?_⟩
  exact (Mod.ofBelow hB).trans hm
end Go.Proofs.Ytofdnbddpageoaa.Nm
