/-
  ROWS OF BYTES: read, laid behind one another, copied.
-/
import Derived.Test.YtgledabcfonbeaaGreatDoorCkThree
import Derived.Maps.AppendAt
namespace Go.Proofs.YtgledabcfonbeaaGreatDoor.Df
open Go.RowKit Go.Maps Go.Proofs.YtgledabcfonbeaaGreatDoor

def bytesV (r : Bs) : List Value := r.map fun x => .int .u8 (x.toNat : Int)
theorem bytesV_length (r : Bs) : (bytesV r).length = r.length := by simp [bytesV]
theorem bytesV_app (a b : Bs) : bytesV (a ++ b) = bytesV a ++ bytesV b := by simp [bytesV]
theorem bytesV_one (r : Bs) : ∀ u ∈ bytesV r, u.oneCell' = true := fun u hu => by
  unfold bytesV at hu
  obtain ⟨x, _, rfl⟩ := List.mem_map.1 hu
  rfl
theorem info5 : (Tryz.prog.info? 5).map (fun i => (i.zero, i.size, i.bytes)) = some (some (.int .u8 0), 1, 1) := by kernel_rfl

/-- a slice of bytes, as it is read; a nil one has no room -/
def Byt (w : World) (v : Value) (r : Bs) : Prop :=
  ∃ a c, v = .slice a r.length c ∧ r.length ≤ c ∧ (a = none → c = 0) ∧ (r = [] ∨ ∃ g off, a = some ⟨g, off, none⟩ ∧ g < w.heap.size ∧ ∀ (j : Nat) x, r[j]? = some x → w.cell? ⟨g, off + j, none⟩ = some (.int .u8 (x.toNat : Int)))
theorem Byt.below {w w' : World} {v : Value} {r : Bs} (h : Byt w v r) (hb : Below w.heap.size w w') : Byt w' v r := by
  obtain ⟨a, c, e, hc, hn, h⟩ := h
  refine ⟨a, c, e, hc, hn, ?_⟩
  rcases h with h | ⟨g, off, e, hg, hcell⟩
  · exact .inl h
  · exact .inr ⟨g, off, e, Nat.lt_of_lt_of_le hg hb.size, fun j p hp => (cell_of_block (hb.block g hg)).trans (hcell j p hp)⟩
theorem Byt.nil (w : World) : Byt w (.slice none 0 0) [] := ⟨none, 0, rfl, Nat.le_refl _, fun _ => rfl, .inl rfl⟩
theorem owns_byt {w : World} {base : Nat} {v : Value} {n : Nat} {r : Bs} (h : w.ownsRow base 5 1 v n (bytesV r)) : Byt w v r := by
  have hl := h.1
  rw [bytesV_length, Nat.mul_one] at hl
  rcases h.2 with ⟨rfl, h0⟩ | ⟨g, cap, cur, rfl, hb, hg, hle, _⟩
  · have : r = [] := List.eq_nil_of_length_eq_zero (hl.trans h0)
    subst this
    exact Byt.nil w
  · refine ⟨_, cap, by rw [← hl], by omega, (fun e => by cases e), .inr ⟨g, 0, rfl, (Array.getElem?_eq_some_iff.1 hg).1, fun j p hp => ?_⟩⟩
    have hc := h.cells (g := g) rfl j (.int .u8 (p.toNat : Int)) (by simp [bytesV, hp])
    rw [Go.WideShapes.add_plain] at hc
    exact hc

theorem run_appB {W : World} {base : Nat} {a u : Option Addr} {c k : Nat} {b m : Bs} (h : W.ownsRow base 5 1 (.slice a b.length c) b.length (bytesV b)) (hbase : base ≤ W.heap.size) (hm : Byt W (.slice u m.length k) m) (hl : b.length + m.length ≤ 1000000) :
    ∃ a' c' W', (Builtin.append_ #[24, 24] 24 #[.slice a b.length c, .slice u m.length k]).run Tryz.prog W = .ok (.slice a' (b ++ m).length c') W' ∧ W'.ownsRow base 5 1 (.slice a' (b ++ m).length c') (b ++ m).length (bytesV (b ++ m)) ∧ W.grownBy W' (Value.slice a b.length c).ownBlock := by
  obtain ⟨i0, hi, hz0, hz1, hz2⟩ := info_parts info5
  obtain ⟨u', k', e, hk, hno, hrow⟩ := hm
  injection e with e1 _ e3
  subst e1
  subst e3
  cases u with
  | none =>
    obtain rfl : k = 0 := hno rfl
    have h0 : m.length = 0 := by omega
    obtain rfl : m = [] := List.eq_nil_of_length_eq_zero h0
    rw [List.append_nil]
    exact ⟨a, c, W, run_append_owned_none (P := Tryz.prog) _ base 24 24 5 i0 1 Tryz.underlying24 hi _ _ _ h, h, ⟨rfl, rfl, rfl, Nat.le_refl _, fun _ _ _ => rfl⟩⟩
  | some ad =>
    have hcells : ∀ j x, (bytesV m)[j]? = some x → W.cell? (ad.add j) = some x := fun j x hj => by
      rcases hrow with h | ⟨g, off, e, hb, hc⟩
      · rw [h] at hj; simp [bytesV] at hj
      · cases e
        rw [Go.WideShapes.add_plain]
        have hj2 : m[j]?.map (fun x => Value.int .u8 (x.toNat : Int)) = some x := by rw [← hj]; simp [bytesV]
        obtain ⟨p, hp, rfl⟩ := Option.map_eq_some_iff.1 hj2
        exact hc j p hp
    obtain ⟨v', W', hr, h2, h3, _, _⟩ := run_append_own_at (P := Tryz.prog) W base 24 24 5 i0 (.int .u8 0) 1 1 Tryz.underlying24 hi hz0 hz1 hz2 rfl (by decide) _ b.length (bytesV b) h ad m.length k (bytesV m) (by rw [bytesV_length]; omega) hcells (bytesV_one m) (by unfold maxLen; omega) (by omega) hbase
    have e : b.length + m.length = (b ++ m).length := by simp
    rw [← bytesV_app, e] at h2
    obtain ⟨a', c', rfl⟩ : ∃ a' c', v' = .slice a' (b ++ m).length c' := by
      rcases h2.2 with ⟨rfl, h0⟩ | ⟨g, cap, cur, rfl, _⟩
      · exact ⟨none, 0, by rw [h0]⟩
      · exact ⟨_, _, rfl⟩
    exact ⟨a', c', W', hr, h2, h3⟩

theorem grown_below {w W W' : World} {v : Value} (hB : Below w.heap.size w W) (hg : W.grownBy W' v.ownBlock) (hlo : ∀ g, v.ownBlock = some g → w.heap.size ≤ g) : Below w.heap.size w W' :=
  hB.trans ⟨hg.os, hg.tape, hg.output, hg.size, fun q hq => hg.block q (by have := hB.size; omega) (fun e => by have := hlo q e.symm; omega)⟩

/-- bytes with more behind them: the first are the call's own, or a callers' of base -/
def GrQ (w : World) (base : Nat) (own : Option Nat) (r : Bs) (e : Ending) (w' : World) : Prop :=
  ∃ a c, e = .returned (.slice a r.length c) ∧ w'.ownsRow base 5 1 (.slice a r.length c) r.length (bytesV r) ∧ w.grownBy w' own

set_option maxRecDepth 100000 in
set_option maxHeartbeats 4000000 in
theorem grown_c {W : World} {base : Nat} {a : Option Addr} {c : Nat} {u : Value} {b m : Bs} (h : W.ownsRow base 5 1 (.slice a b.length c) b.length (bytesV b)) (hbase : base ≤ W.heap.size) (hm : Byt W u m) (hl : b.length + m.length ≤ 65536) :
    Calls Tryz.prog 61 #[.slice a b.length c, u] W (GrQ W base (Value.slice a b.length c).ownBlock (b ++ m)) := by
  obtain ⟨ua, uc, rfl, -, -, -⟩ := id hm
  obtain ⟨a', c', W', hrun, ho, hg⟩ := run_appB h hbase hm (by omega)
  have HRUN := Lib.hid hrun
  have HO := Lib.hid ho
  have HG := Lib.hid hg
  have hn := need_t W
  have d1 : decide ((b.length : Int) + (m.length : Int) ≤ 65536) = true := decide_eq_true (by omega)
  clear h hm hrun ho hg
  go_enter Tryz.func61, Tryz.ntmps61
  go_wp2_with fail
  refine hn.mono ?_
  rintro e w1 ⟨rfl, rfl⟩
  clear hn
  go_wp2_with (at_builtin; refine wpList_run rfl (.tmp 12) (.tmp 13) rfl rfl rfl HRUN.out ?_)
  go_ret
  exact ⟨a', c', by rw [List.length_append]; rfl, HO.out, HG.out⟩

theorem nilB_yes (w : World) : Sem.run Tryz.prog (binOp BinOp.eql 24 (.slice none 0 0) (.slice none 0 0)) w = .ok (.bool true) w := by kernel_rfl
theorem nilB_no (w : World) (ad : Addr) (n c : Nat) : Sem.run Tryz.prog (binOp BinOp.eql 24 (.slice (some ad) n c) (.slice none 0 0)) w = .ok (.bool false) w := by kernel_rfl
set_option maxRecDepth 100000 in
set_option maxHeartbeats 4000000 in
theorem cloneB_c {w : World} {v : Value} {r : Bs} (h : Byt w v r) (hl : r.length ≤ 1000000) :
    Calls Tryz.prog 19 #[v] w fun e w' => ∃ v', e = .returned v' ∧ w'.ownsRow w.heap.size 5 1 v' r.length (bytesV r) ∧ Below w.heap.size w w' := by
  have HB := Lib.hid h
  obtain ⟨a, c, rfl, hc, hno, -⟩ := h
  cases a with
  | none =>
    obtain rfl : c = 0 := hno rfl
    obtain rfl : r = [] := List.eq_nil_of_length_eq_zero (by omega)
    have hy := nilB_yes w
    clear hno
    go_enter Tryz.func19, Tryz.ntmps19
    go_wp2_with fail
    go_ret
    exact ⟨_, rfl, World.ownsRow_nil _ _ _ _, Below.refl _ _⟩
  | some ad =>
    have hy := nilB_no w ad r.length c
    have hA := below_alloc w (.cells #[] 5)
    have oA : (w.alloc (.cells #[] 5)).ownsRow w.heap.size 5 1 (.slice (some ⟨w.heap.size, 0, none⟩) ([] : Bs).length 0) ([] : Bs).length (bytesV []) := World.ownsRow_made w #[] 0 (Nat.le_refl _) (by unfold maxLen; omega) rfl
    obtain ⟨a', c', W', hrun, ho, hg⟩ := run_appB oA hA.size (HB.out.below hA) (by simp; omega)
    have HG := Lib.hid (grown_below hA hg (fun g e => by have e2 : w.heap.size = g := Option.some.inj e; omega))
    rw [List.nil_append] at ho hrun
    have hrun2 : (Builtin.append_ #[24, 24] 24 #[.slice (some ⟨w.heap.size, 0, none⟩) 0 0, .slice (some ad) r.length c]).run Tryz.prog (w.alloc (.cells #[] 5)) = .ok (.slice a' r.length c') W' := hrun
    have HRUN := Lib.hid hrun2
    have HO := Lib.hid ho
    clear hA oA hrun hrun2 ho hg hno
    go_enter Tryz.func19, Tryz.ntmps19
    go_wp2_with (at_builtin; refine wpList_run rfl (.tmp 5) (.tmp 6) rfl rfl rfl HRUN.out ?_)
    go_ret
    exact ⟨_, rfl, HO.out, HG.out⟩
end Go.Proofs.YtgledabcfonbeaaGreatDoor.Df
