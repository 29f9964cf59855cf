/-
  Names that differ; rows of bytes; grown.
-/
import Derived.Test.YtgledabcfonbeaaGreatDoorCkTwo
import Derived.Maps.AppendAt
namespace Go.Proofs.YtgledabcfonbeaaGreatDoor.Df
open Go.RowKit Go.Maps Go.Proofs.YtgledabcfonbeaaGreatDoor

theorem onceC_snoc (L : List Bs) (x : Bs) : onceL (L ++ [x]) = if (onceL L).contains x then onceL L else onceL L ++ [x] := by unfold onceL; simp
theorem onceC_len : ∀ (n : Nat) (L : List Bs), L.length = n → (onceL L).length ≤ L.length := by
  intro n
  induction n with
  | zero => intro L h; obtain rfl : L = [] := List.eq_nil_of_length_eq_zero h; simp [onceL]
  | succ n ih =>
    intro L h
    rcases List.eq_nil_or_concat L with rfl | ⟨K, x, rfl⟩
    · simp at h
    · rw [List.concat_eq_append] at h ⊢
      have := ih K (by simp at h; exact h)
      rw [onceC_snoc]
      split
      · simp; omega
      · simp; exact this

/-- block m is a set of the names of L, of which none stands twice -/
def Sn (w : World) (n m : Nat) (L : List Bs) : Prop :=
  ∃ D : DW, w.ownsMap Tryz.prog 9 setE m n D ∧ (∀ l, Maps.has D (.string l) = L.contains l) ∧ Maps.size D = L.length
section
variable {w w' : World} {n m : Nat} {L : List Bs}
theorem Sn.lt (h : Sn w n m L) : m < w.heap.size := by obtain ⟨D, h, _⟩ := h; exact h.lt
theorem Sn.made (w : World) : Sn (w.alloc (.map #[] 0)) 0 w.heap.size [] := ⟨.map [], World.ownsMap_made _ _ _ _, fun _ => rfl, rfl⟩
theorem Sn.kept (h : Sn w n m L) (hb : w'.heap[m]? = w.heap[m]?) : Sn w' n m L := by
  obtain ⟨D, ⟨es, c, hm, r1, r2, r3⟩, r⟩ := h
  exact ⟨D, ⟨es, c, hb.trans hm, r1, r2, r3⟩, r⟩
theorem Sn.put (h : Sn w n m L) (hn : n < maxLen) {s : Bs} (hl : s.length ≤ maxLen) :
    ∃ w', (Instr.mapUpdate 81 (.map (some m)) (.string (mk s)) (.agg #[])).run Tryz.prog w = .ok () w' ∧ Sn w' (n + 1) m (if L.contains s then L else L ++ [s]) ∧ w.grownBy w' (some m) := by
  obtain ⟨D, hD, hhas, hsz⟩ := h
  obtain ⟨w', hrun, ho, ht⟩ := hD.store law9 Tryz.underlying81 hn (val := .agg #[]) (d := .lit (.int .i64 0)) (ps := []) (keyS hl) setE_at
  have hk : WideAt.IsKeyLit (.string s) := law9.key (keyS hl)
  refine ⟨w', hrun, ⟨_, ho, fun x => ?_, ?_⟩, ht.grown⟩
  · by_cases hx : x = s
    · subst hx
      rw [has_put_same hD.isMap hk]
      split
      · rename_i h; exact h.symm
      · simp
    · rw [has_put_other (by intro e; cases e; exact hx rfl), hhas]
      split
      · rfl
      · simp [hx]
  · rw [size_put (hD.tidy law9), hhas, hsz]
    split <;> simp
theorem Sn.len (h : Sn w n m L) (ty : TypeId) : (Builtin.len_ #[81] ty #[.map (some m)]).run Tryz.prog w = .ok (.int .i64 (L.length : Nat)) w := by
  obtain ⟨D, hD, _, hsz⟩ := h
  rw [← hsz]
  exact hD.len Tryz.underlying81 ty
end

set_option maxRecDepth 100000 in
set_option maxHeartbeats 4000000 in
theorem allDiffer_c {w : World} {v : Value} {L : List Bs} (h : Strs w v L) (hL : L.length ≤ 1000000) (hx : ∀ x ∈ L, x.length ≤ 1000000) :
    Calls Tryz.prog 35 #[v] w fun e w' => e = .returned (.bool (decide ((onceL L).length = L.length))) ∧ Below w.heap.size w w' := by
  have hmk := @run_makeMap Tryz.prog
  have HS := Lib.hid h
  have HX := Lib.hid hx
  obtain ⟨a, c, rfl, hc, -⟩ := h
  obtain ⟨w1, hw1⟩ : ∃ W, w.alloc (.map #[] 0) = W := ⟨_, rfl⟩
  have HB1 : Hid (Below w.heap.size w w1) := Lib.hid (by rw [← hw1]; exact below_alloc _ _)
  have hm1 : Sn w1 0 w.heap.size [] := by rw [← hw1]; exact Sn.made w
  obtain ⟨m, hm⟩ : ∃ m, w.heap.size = m := ⟨_, rfl⟩
  have HM := Lib.hid hm
  have S0 : Hid (Sn w1 0 m (onceL (L.take 0))) := Lib.hid (by rw [← hm]; exact hm1)
  clear hm1 hx
  go_enter Tryz.func35, Tryz.ntmps35
  go_wp2_with fail
  clear hm
  go_loopw [5, 9] (fun _ i wr => ∃ (j : Nat), j ≤ L.length ∧ i = .int .i64 j ∧ Hid (Sn wr j m (onceL (L.take j))) ∧ Hid (Below w.heap.size w wr)) (fun _ i _ => L.length - (intOf i).toNat)
  case atStart => exact ⟨0, Nat.zero_le _, rfl, S0, HB1⟩
  case round =>
    obtain ⟨j, hj, rfl, hS, hB⟩ := hrel
    clear S0
    by_cases hlt : j < L.length
    · have hxj := List.getElem?_eq_getElem hlt
      have hxl := HX.out _ (List.getElem_mem hlt)
      obtain ⟨_, _, e, _, hrow⟩ := HS.out.below hB.out
      cases e
      rcases hrow with h0 | ⟨g, off, rfl, hg, hcell⟩
      · rw [h0] at hlt; simp at hlt
      have c0 := hcell j _ hxj
      have hot : onceL (L.take (j + 1)) = if (onceL (L.take j)).contains L[j] then onceL (L.take j) else onceL (L.take j) ++ [L[j]] := by
        rw [List.take_add_one, hxj]
        exact onceC_snoc _ _
      generalize L[j] = x at *
      obtain ⟨w2, hput, hS2, hg2⟩ := hS.out.put (by unfold maxLen; omega) (s := x) (by unfold maxLen; omega)
      rw [← hot] at hS2
      have HS2 := Lib.hid hS2
      have HB2 : Hid (Below w.heap.size w w2) := Lib.hid (hB.out.trans ⟨hg2.os, hg2.tape, hg2.output, hg2.size, fun q hq => hg2.block q (by have := hB.out.size; omega) (fun e => by have := Option.some.inj e; have := HM.out; omega)⟩)
      have hi0 : (0 : Int) ≤ (j : Int) := by omega
      have hi1 : (j : Int) < (L.length : Int) := by omega
      clear hcell hxj hot hS2 hg2
      go_wp2_with fail
      go_roundw
      case rel => exact ⟨j + 1, by omega, by go_num, HS2, HB2⟩
      case measure => simp [intOf] <;> omega
    · obtain rfl : j = L.length := by omega
      rw [List.take_length] at hS
      have hlen := hS.out.len
      have HO := Lib.hid (onceC_len _ L rfl)
      obtain ⟨q, hq0⟩ : ∃ q, (onceL L).length = q := ⟨_, rfl⟩
      rw [hq0] at hlen HO
      have HQ := Lib.hid hq0
      clear hq0
      by_cases hq : q = L.length
      · have e1 : decide (q = L.length) = true := decide_eq_true hq
        have e2 : ((q : Int) == (L.length : Int)) = true := by rw [hq]; simp
        have HE := Lib.hid e1
        clear e1 hq
        go_wp2_with fail
        go_ret
        exact ⟨by rw [HQ.out, HE.out]; rfl, hB.out⟩
      · have e1 : decide (q = L.length) = false := decide_eq_false hq
        have e2 : ((q : Int) == (L.length : Int)) = false := by rw [beq_eq_false_iff_ne]; omega
        have HE := Lib.hid e1
        clear e1 hq
        go_wp2_with fail
        go_ret
        exact ⟨by rw [HQ.out, HE.out]; rfl, hB.out⟩
end Go.Proofs.YtgledabcfonbeaaGreatDoor.Df

/-! ROWS OF BYTES: read, laid behind one another, copied. -/
namespace Go.Proofs.YtgledabcfonbeaaGreatDoor.Df
open Go.RowKit Go.Maps Go.Proofs.YtgledabcfonbeaaGreatDoor

def bytesV (r : Bs) : List Value := r.map fun x => .int .u8 (x.toNat : Int)
theorem bytesV_length (r : Bs) : (bytesV r).length = r.length := by simp [bytesV]
theorem bytesV_app (a b : Bs) : bytesV (a ++ b) = bytesV a ++ bytesV b := by simp [bytesV]
theorem bytesV_one (r : Bs) : ∀ u ∈ bytesV r, u.oneCell' = true := fun u hu => by
  unfold bytesV at hu
  obtain ⟨x, _, rfl⟩ := List.mem_map.1 hu
  rfl
theorem info5 : (Tryz.prog.info? 5).map (fun i => (i.zero, i.size, i.bytes)) = some (some (.int .u8 0), 1, 1) := by kernel_rfl

/-- a slice of bytes, as it is read; a nil one has no room -/
def Byt (w : World) (v : Value) (r : Bs) : Prop :=
  ∃ a c, v = .slice a r.length c ∧ r.length ≤ c ∧ (a = none → c = 0) ∧ (r = [] ∨ ∃ g off, a = some ⟨g, off, none⟩ ∧ g < w.heap.size ∧ ∀ (j : Nat) x, r[j]? = some x → w.cell? ⟨g, off + j, none⟩ = some (.int .u8 (x.toNat : Int)))
theorem Byt.below {w w' : World} {v : Value} {r : Bs} (h : Byt w v r) (hb : Below w.heap.size w w') : Byt w' v r := by
  obtain ⟨a, c, e, hc, hn, h⟩ := h
  refine ⟨a, c, e, hc, hn, ?_⟩
  rcases h with h | ⟨g, off, e, hg, hcell⟩
  · exact .inl h
  · exact .inr ⟨g, off, e, Nat.lt_of_lt_of_le hg hb.size, fun j p hp => (cell_of_block (hb.block g hg)).trans (hcell j p hp)⟩
theorem Byt.nil (w : World) : Byt w (.slice none 0 0) [] := ⟨none, 0, rfl, Nat.le_refl _, fun _ => rfl, .inl rfl⟩
theorem owns_byt {w : World} {base : Nat} {v : Value} {n : Nat} {r : Bs} (h : w.ownsRow base 5 1 v n (bytesV r)) : Byt w v r := by
  have hl := h.1
  rw [bytesV_length, Nat.mul_one] at hl
  rcases h.2 with ⟨rfl, h0⟩ | ⟨g, cap, cur, rfl, hb, hg, hle, _⟩
  · have : r = [] := List.eq_nil_of_length_eq_zero (hl.trans h0)
    subst this
    exact Byt.nil w
  · refine ⟨_, cap, by rw [← hl], by omega, (fun e => by cases e), .inr ⟨g, 0, rfl, (Array.getElem?_eq_some_iff.1 hg).1, fun j p hp => ?_⟩⟩
    have hc := h.cells (g := g) rfl j (.int .u8 (p.toNat : Int)) (by simp [bytesV, hp])
    rw [Go.WideShapes.add_plain] at hc
    exact hc

theorem run_appB {W : World} {base : Nat} {a u : Option Addr} {c k : Nat} {b m : Bs} (h : W.ownsRow base 5 1 (.slice a b.length c) b.length (bytesV b)) (hbase : base ≤ W.heap.size) (hm : Byt W (.slice u m.length k) m) (hl : b.length + m.length ≤ 1000000) :
    ∃ a' c' W', (Builtin.append_ #[24, 24] 24 #[.slice a b.length c, .slice u m.length k]).run Tryz.prog W = .ok (.slice a' (b ++ m).length c') W' ∧ W'.ownsRow base 5 1 (.slice a' (b ++ m).length c') (b ++ m).length (bytesV (b ++ m)) ∧ W.grownBy W' (Value.slice a b.length c).ownBlock := by
  obtain ⟨i0, hi, hz0, hz1, hz2⟩ := info_parts info5
  obtain ⟨u', k', e, hk, hno, hrow⟩ := hm
  injection e with e1 _ e3
  subst e1
  subst e3
  cases u with
  | none =>
    obtain rfl : k = 0 := hno rfl
    have h0 : m.length = 0 := by omega
    obtain rfl : m = [] := List.eq_nil_of_length_eq_zero h0
    rw [List.append_nil]
    exact ⟨a, c, W, run_append_owned_none (P := Tryz.prog) _ base 24 24 5 i0 1 Tryz.underlying24 hi _ _ _ h, h, ⟨rfl, rfl, rfl, Nat.le_refl _, fun _ _ _ => rfl⟩⟩
  | some ad =>
    have hcells : ∀ j x, (bytesV m)[j]? = some x → W.cell? (ad.add j) = some x := fun j x hj => by
      rcases hrow with h | ⟨g, off, e, hb, hc⟩
      · rw [h] at hj; simp [bytesV] at hj
      · cases e
        rw [Go.WideShapes.add_plain]
        have hj2 : m[j]?.map (fun x => Value.int .u8 (x.toNat : Int)) = some x := by rw [← hj]; simp [bytesV]
        obtain ⟨p, hp, rfl⟩ := Option.map_eq_some_iff.1 hj2
        exact hc j p hp
    obtain ⟨v', W', hr, h2, h3, _, _⟩ := run_append_own_at (P := Tryz.prog) W base 24 24 5 i0 (.int .u8 0) 1 1 Tryz.underlying24 hi hz0 hz1 hz2 rfl (by decide) _ b.length (bytesV b) h ad m.length k (bytesV m) (by rw [bytesV_length]; omega) hcells (bytesV_one m) (by unfold maxLen; omega) (by omega) hbase
    have e : b.length + m.length = (b ++ m).length := by simp
    rw [← bytesV_app, e] at h2
    obtain ⟨a', c', rfl⟩ : ∃ a' c', v' = .slice a' (b ++ m).length c' := by
      rcases h2.2 with ⟨rfl, h0⟩ | ⟨g, cap, cur, rfl, _⟩
      · exact ⟨none, 0, by rw [h0]⟩
      · exact ⟨_, _, rfl⟩
    exact ⟨a', c', W', hr, h2, h3⟩

theorem grown_below {w W W' : World} {v : Value} (hB : Below w.heap.size w W) (hg : W.grownBy W' v.ownBlock) (hlo : ∀ g, v.ownBlock = some g → w.heap.size ≤ g) : Below w.heap.size w W' :=
  hB.trans ⟨hg.os, hg.tape, hg.output, hg.size, fun q hq => hg.block q (by have := hB.size; omega) (fun e => by have := hlo q e.symm; omega)⟩

/-- bytes with more behind them: the first are the call's own, or a callers' of base -/
def GrQ (w : World) (base : Nat) (own : Option Nat) (r : Bs) (e : Ending) (w' : World) : Prop :=
  ∃ a c, e = .returned (.slice a r.length c) ∧ w'.ownsRow base 5 1 (.slice a r.length c) r.length (bytesV r) ∧ w.grownBy w' own

set_option maxRecDepth 100000 in
set_option maxHeartbeats 4000000 in
theorem grown_c {W : World} {base : Nat} {a : Option Addr} {c : Nat} {u : Value} {b m : Bs} (h : W.ownsRow base 5 1 (.slice a b.length c) b.length (bytesV b)) (hbase : base ≤ W.heap.size) (hm : Byt W u m) (hl : b.length + m.length ≤ 65536) :
    Calls Tryz.prog 61 #[.slice a b.length c, u] W (GrQ W base (Value.slice a b.length c).ownBlock (b ++ m)) := by
  obtain ⟨ua, uc, rfl, -, -, -⟩ := id hm
  obtain ⟨a', c', W', hrun, ho, hg⟩ := run_appB h hbase hm (by omega)
  have HRUN := Lib.hid hrun
  have HO := Lib.hid ho
  have HG := Lib.hid hg
  have hn := need_t W
  have d1 : decide ((b.length : Int) + (m.length : Int) ≤ 65536) = true := decide_eq_true (by omega)
  clear h hm hrun ho hg
  go_enter Tryz.func61, Tryz.ntmps61
  go_wp2_with fail
  refine hn.mono ?_
  rintro e w1 ⟨rfl, rfl⟩
  clear hn
  go_wp2_with (at_builtin; refine wpList_run rfl (.tmp 12) (.tmp 13) rfl rfl rfl HRUN.out ?_)
  go_ret
  exact ⟨a', c', by rw [List.length_append]; rfl, HO.out, HG.out⟩

theorem nilB_yes (w : World) : Sem.run Tryz.prog (binOp BinOp.eql 24 (.slice none 0 0) (.slice none 0 0)) w = .ok (.bool true) w := by kernel_rfl
theorem nilB_no (w : World) (ad : Addr) (n c : Nat) : Sem.run Tryz.prog (binOp BinOp.eql 24 (.slice (some ad) n c) (.slice none 0 0)) w = .ok (.bool false) w := by kernel_rfl
set_option maxRecDepth 100000 in
set_option maxHeartbeats 4000000 in
theorem cloneB_c {w : World} {v : Value} {r : Bs} (h : Byt w v r) (hl : r.length ≤ 1000000) :
    Calls Tryz.prog 19 #[v] w fun e w' => ∃ v', e = .returned v' ∧ w'.ownsRow w.heap.size 5 1 v' r.length (bytesV r) ∧ Below w.heap.size w w' := by
  have HB := Lib.hid h
  obtain ⟨a, c, rfl, hc, hno, -⟩ := h
  cases a with
  | none =>
    obtain rfl : c = 0 := hno rfl
    obtain rfl : r = [] := List.eq_nil_of_length_eq_zero (by omega)
    have hy := nilB_yes w
    clear hno
    go_enter Tryz.func19, Tryz.ntmps19
    go_wp2_with fail
    go_ret
    exact ⟨_, rfl, World.ownsRow_nil _ _ _ _, Below.refl _ _⟩
  | some ad =>
    have hy := nilB_no w ad r.length c
    have hA := below_alloc w (.cells #[] 5)
    have oA : (w.alloc (.cells #[] 5)).ownsRow w.heap.size 5 1 (.slice (some ⟨w.heap.size, 0, none⟩) ([] : Bs).length 0) ([] : Bs).length (bytesV []) := World.ownsRow_made w #[] 0 (Nat.le_refl _) (by unfold maxLen; omega) rfl
    obtain ⟨a', c', W', hrun, ho, hg⟩ := run_appB oA hA.size (HB.out.below hA) (by simp; omega)
    have HG := Lib.hid (grown_below hA hg (fun g e => by have e2 : w.heap.size = g := Option.some.inj e; omega))
    rw [List.nil_append] at ho hrun
    have hrun2 : (Builtin.append_ #[24, 24] 24 #[.slice (some ⟨w.heap.size, 0, none⟩) 0 0, .slice (some ad) r.length c]).run Tryz.prog (w.alloc (.cells #[] 5)) = .ok (.slice a' r.length c') W' := hrun
    have HRUN := Lib.hid hrun2
    have HO := Lib.hid ho
    clear hA oA hrun hrun2 ho hg hno
    go_enter Tryz.func19, Tryz.ntmps19
    go_wp2_with (at_builtin; refine wpList_run rfl (.tmp 5) (.tmp 6) rfl rfl rfl HRUN.out ?_)
    go_ret
    exact ⟨_, rfl, HO.out, HG.out⟩
end Go.Proofs.YtgledabcfonbeaaGreatDoor.Df

/-! A MAP OF TEXTS TO ANY VALUES; the kitchen. -/
namespace Go.Proofs.YtgledabcfonbeaaGreatDoor.Df
open Go.RowKit Go.Maps Go.Proofs.YtgledabcfonbeaaGreatDoor

/-- the values of a list, by where they stand -/
noncomputable def valE (T : List Value) (v : Value) : Option (DW × List MemPlace) :=
  @dite _ (∃ i : Nat, T[i]? = some v) (Classical.propDecidable _) (fun h => some (.lit (.int .i64 (Classical.choose h : Nat)), [])) (fun _ => none)
theorem valE_at {T : List Value} {v : Value} (h : v ∈ T) : ∃ i : Nat, T[i]? = some v ∧ valE T v = some (.lit (.int .i64 i), []) := by
  have h1 : ∃ i : Nat, T[i]? = some v := List.getElem?_of_mem h
  exact ⟨Classical.choose h1, Classical.choose_spec h1, by unfold valE; rw [@dif_pos _ (Classical.propDecidable _) h1]⟩
theorem valE_inv {T : List Value} {v : Value} {n : Nat} {ps : List MemPlace} (h : valE T v = some (.lit (.int .i64 n), ps)) : T[n]? = some v := by
  unfold valE at h
  by_cases h1 : ∃ i : Nat, T[i]? = some v
  · rw [@dif_pos _ (Classical.propDecidable _) h1] at h
    injection h with h
    injection h with h _
    injection h with h
    injection h with _ h
    have hs := Classical.choose_spec h1
    have e : Classical.choose h1 = n := by omega
    rw [e] at hs
    exact hs
  · rw [@dif_neg _ (Classical.propDecidable _) h1] at h
    cases h

def zFile : Value := .agg #[.string ⟨#[]⟩, .slice none 0 0]
theorem zeroFile (w : World) : (zeroValue 52).run Tryz.prog w = .ok zFile w := by kernel_rfl

/-- block m is a map of at most n texts to values of T -/
def Vi (w : World) (n m : Nat) (T : List Value) (f : Bs → Option Value) : Prop :=
  ∃ D : DW, w.ownsMap Tryz.prog 9 (valE T) m n D ∧ (∀ l, Maps.has D (.string l) = (f l).isSome) ∧ ∀ l v, f l = some v → ∃ i : Nat, T[i]? = some v ∧ ∀ z, D.atKey (.string l) z = .lit (.int .i64 i)
section
variable {w w' : World} {n m : Nat} {T : List Value} {f : Bs → Option Value}
theorem Vi.kept (h : Vi w n m T f) (hb : w'.heap[m]? = w.heap[m]?) : Vi w' n m T f := by
  obtain ⟨D, ⟨es, c, hm, r1, r2, r3⟩, r⟩ := h
  exact ⟨D, ⟨es, c, hb.trans hm, r1, r2, r3⟩, r⟩
theorem Vi.lt (h : Vi w n m T f) : m < w.heap.size := by obtain ⟨D, h, _⟩ := h; exact h.lt
theorem Vi.made (w : World) (T : List Value) : Vi (w.alloc (.map #[] 0)) 0 w.heap.size T (fun _ => none) := ⟨.map [], World.ownsMap_made _ _ _ _, fun _ => rfl, fun _ _ h => by cases h⟩
theorem Vi.look (h : Vi w n m T f) (hz : zFile ∈ T) {s : Bs} (hl : s.length ≤ maxLen) {v : Value} (hv : f s = some v) :
    (Instr.lookup 82 (.map (some m)) (.string (mk s)) true).run Tryz.prog w = .ok (.tuple #[v, .bool true]) w := by
  obtain ⟨D, hD, hhas, hat⟩ := h
  obtain ⟨iz, _, ez⟩ := valE_at hz
  obtain ⟨u, ps, hrun, hu⟩ := hD.look_ok law9 Tryz.underlying82 (zeroFile w) ez (keyS hl)
  obtain ⟨i, hi, hati⟩ := hat s v hv
  rw [hati] at hu
  have e := valE_inv hu
  rw [hi] at e
  rw [hhas, hv, ← Option.some.inj e] at hrun
  exact hrun
theorem Vi.miss (h : Vi w n m T f) (hz : zFile ∈ T) {s : Bs} (hl : s.length ≤ maxLen) (hv : f s = none) :
    (Instr.lookup 82 (.map (some m)) (.string (mk s)) true).run Tryz.prog w = .ok (.tuple #[zFile, .bool false]) w := by
  obtain ⟨D, hD, hhas, hat⟩ := h
  obtain ⟨iz, hiz, ez⟩ := valE_at hz
  obtain ⟨u, ps, hrun, hu⟩ := hD.look_ok law9 Tryz.underlying82 (zeroFile w) ez (keyS hl)
  rw [hhas, hv] at hrun
  have hz2 := atKey_of_not_has (D := D) (k := .string s) (z := .lit (.int .i64 (iz : Nat))) (by rw [hhas, hv]; rfl)
  rw [hz2] at hu
  have e := valE_inv hu
  rw [hiz] at e
  rw [← Option.some.inj e] at hrun
  exact hrun
theorem Vi.put (h : Vi w n m T f) (hn : n < maxLen) {s : Bs} (hl : s.length ≤ maxLen) {v : Value} (hv : v ∈ T) :
    ∃ w', (Instr.mapUpdate 82 (.map (some m)) (.string (mk s)) v).run Tryz.prog w = .ok () w' ∧ Vi w' (n + 1) m T (upd f s (some v)) ∧ w.grownBy w' (some m) := by
  obtain ⟨D, hD, hhas, hat⟩ := h
  obtain ⟨iv, hiv, ev⟩ := valE_at hv
  obtain ⟨w', hrun, ho, ht⟩ := hD.store law9 Tryz.underlying82 hn (keyS hl) ev
  have hk : WideAt.IsKeyLit (.string s) := law9.key (keyS hl)
  refine ⟨w', hrun, ⟨_, ho, fun x => ?_, fun x u hx => ?_⟩, ht.grown⟩
  · by_cases hx : x = s
    · subst hx; rw [has_put_same hD.isMap hk, upd, if_pos rfl]; rfl
    · rw [has_put_other (by intro e; cases e; exact hx rfl), upd, if_neg hx, hhas]
  · by_cases hxs : x = s
    · subst hxs
      rw [upd, if_pos rfl] at hx
      cases hx
      exact ⟨iv, hiv, fun z => atKey_put_same hD.isMap hk _ z⟩
    · rw [upd, if_neg hxs] at hx
      obtain ⟨i, h1, h2⟩ := hat x u hx
      exact ⟨i, h1, fun z => by rw [atKey_put_other (by intro e; cases e; exact hxs rfl)]; exact h2 z⟩
end
end Go.Proofs.YtgledabcfonbeaaGreatDoor.Df
