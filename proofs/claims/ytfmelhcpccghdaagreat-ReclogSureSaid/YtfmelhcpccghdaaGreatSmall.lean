/-
  THE DISK's SMALL FUNCTIONS.
-/
import Derived.Test.YtfmelhcpccghdaaGreatMem
import Derived.Deep.QuietTactic
import Derived.BigQuiet
import Derived.Deep.RegionHeld3
import Derived.Laws.AppendOwnNone
namespace Go.Proofs.YtfmelhcpccghdaaGreat
open Go.RowKit Go.Maps

variable {X : Nat → Prop} {K : Nat} {w : World} {p : Nat} {q : Pl} {d : Ds}

set_option maxHeartbeats 1000000 in
theorem down_at (h : DkAt X K w p q d) : Calls Tryz.prog 13 #[.pointer (some ⟨p, 0, none⟩)] w fun e w' => e = .returned (.bool (!d.up)) ∧ w = w' := by
  obtain ⟨_, _, _, c3, _⟩ := h.cells
  clear h
  go_enter Tryz.func13, Tryz.ntmps13
  go_wp2
  go_ret
  exact ⟨rfl, rfl⟩

set_option maxHeartbeats 1000000 in
theorem down_nil (w : World) : Calls Tryz.prog 13 #[.pointer none] w fun e w' => e = .returned (.bool true) ∧ w = w' := by
  go_enter Tryz.func13, Tryz.ntmps13
  go_wp2
  go_ret
  exact ⟨rfl, rfl⟩

set_option maxHeartbeats 1000000 in
theorem arm_nil (n : Int) (w : World) : Calls Tryz.prog 11 #[.pointer none, .int .i64 n] w fun e w' => (∃ v, e = .returned v) ∧ w = w' := by
  go_enter Tryz.func11, Tryz.ntmps11
  go_wp2
  go_end0
  exact ⟨⟨_, rfl⟩, rfl⟩

set_option maxHeartbeats 1000000 in
theorem arm_at (h : DkAt X K w p q d) (n : Int) (hn : -9223372036854775808 ≤ n ∧ n ≤ 9223372036854775807) : Calls Tryz.prog 11 #[.pointer (some ⟨p, 0, none⟩), .int .i64 n] w fun e w' => (∃ v, e = .returned v) ∧ Same X w w' ∧ DkAt X K w' p q { d with left := n } := by
  obtain ⟨_, _, _, _, c4, _⟩ := h.cells
  have f4 := frozen_of h.root 4
  have HH := Lib.hid h
  clear h
  go_enter Tryz.func11, Tryz.ntmps11
  go_wp2
  go_end0
  have h := HH.out
  refine ⟨⟨_, rfl⟩, (Same.refl X w).set _ _ h.offp, ?_⟩
  exact h.head (by simp [World.setCell]) (fun k _ hk _ => Below.heap_setCell _ _ _ _ hk) (heap_set_same h.root 4 _) (Nat.le_refl _) rfl rfl rfl rfl h.clock h.deeds ⟨h.quota.1, hn⟩

set_option maxHeartbeats 1000000 in
theorem tick_at (h : DkAt X K w p q d) (hK : K < 1000) : Calls Tryz.prog 56 #[.pointer (some ⟨p, 0, none⟩)] w fun e w' => e = .returned (.int .i64 d.clock) ∧ Same X w w' ∧ w'.heap.size = w.heap.size ∧ (∀ k, k ≠ p → w'.heap[k]? = w.heap[k]?) ∧ DkAt X (K + 1) w' p q (ticked d) := by
  obtain ⟨_, c1, _⟩ := h.cells
  have f1 := frozen_of h.root 1
  have hc := h.clock
  have hd := h.deeds
  have HH := Lib.hid h
  clear h
  go_enter Tryz.func56, Tryz.ntmps56
  go_wp2
  go_ret
  have h := HH.out
  refine ⟨by go_num, (Same.refl X w).set _ _ h.offp, by simp [World.setCell], fun k hk => Below.heap_setCell _ _ _ _ hk, ?_⟩
  exact h.head (by simp [World.setCell]) (fun k _ hk _ => Below.heap_setCell _ _ _ _ hk) (heap_set_same h.root 1 _) (Nat.le_succ _) rfl rfl rfl rfl (by show d.clock + 1 ≤ _; omega) (by show d.deeds ≤ _; omega) h.quota

/-! ### bytes -/
/-- v reads as these bytes -/
def BRow (w : World) (v : Value) (bs : List UInt8) : Prop :=
  (v = .slice none 0 0 ∧ bs = []) ∨ ∃ a cap, v = .slice (some a) bs.length cap ∧ (bs ≠ [] → a.block < w.heap.size) ∧ ∀ j u, (bytesV bs)[j]? = some u → w.cell? (a.add j) = some u

def Value.rowBlock : Value → Option Nat
  | .slice (some a) n _ => if n = 0 then none else some a.block
  | _ => none

theorem rowBlock_some {A : Type} {a : Addr} {bs : List A} {cap : Nat} (h : bs ≠ []) : Value.rowBlock (.slice (some a) bs.length cap) = some a.block := if_neg fun e => h (List.eq_nil_of_length_eq_zero e)
theorem rowBlock_nil {a : Addr} {cap : Nat} : Value.rowBlock (.slice (some a) 0 cap) = none := by simp [Value.rowBlock]

theorem add_block (a : Addr) (j : Nat) : (a.add j).block = a.block := by
  simp only [Addr.add]
  split <;> rfl
theorem BRow.kept {w w' : World} {v : Value} {bs : List UInt8} (h : BRow w v bs) (hs : w.heap.size ≤ w'.heap.size) (hb : ∀ k, Value.rowBlock v = some k → k < w.heap.size → w'.heap[k]? = w.heap[k]?) : BRow w' v bs := by
  rcases h with h | ⟨a, cap, rfl, hl, hc⟩
  · exact .inl h
  · by_cases h0 : bs = []
    · subst h0
      exact .inr ⟨a, cap, rfl, fun h => absurd rfl h, fun j u hj => by simp [bytesV] at hj⟩
    · refine .inr ⟨a, cap, rfl, fun _ => Nat.lt_of_lt_of_le (hl h0) hs, fun j u hj => ?_⟩
      have hk := hb a.block (rowBlock_some h0) (hl h0)
      rw [World.cell?_of_block (w := w) (a := a.add j) (by rw [add_block]; exact hk)]
      exact hc j u hj
theorem BRow.below {w w' : World} {v : Value} {bs : List UInt8} (h : BRow w v bs) (hb : Below w.heap.size w w') : BRow w' v bs := h.kept hb.size fun k _ hk => hb.block k hk
theorem BRow.lt {w : World} {v : Value} {bs : List UInt8} (h : BRow w v bs) {k : Nat} (hk : Value.rowBlock v = some k) : k < w.heap.size := by
  rcases h with ⟨rfl, _⟩ | ⟨a, cap, rfl, hl, _⟩
  · cases hk
  · by_cases h0 : bs = []
    · subst h0
      rw [show ([] : List UInt8).length = 0 from rfl, rowBlock_nil] at hk
      cases hk
    · rw [rowBlock_some h0] at hk
      cases hk
      exact hl h0

theorem row_bytes {w : World} {base : Nat} {v : Value} {bs : List UInt8} (h : w.ownsRow base 5 1 v bs.length (bytesV bs)) : BRow w v bs := by
  rcases h.2 with ⟨rfl, hn⟩ | ⟨g, cap, cur, rfl, _, hg, _⟩
  · exact .inl ⟨rfl, List.eq_nil_of_length_eq_zero hn⟩
  · exact .inr ⟨_, _, rfl, fun _ => lt_of_some hg, h.cells rfl⟩

theorem info5 : (Tryz.prog.info? 5).map (fun i => (i.zero, i.size, i.bytes)) = some (some (.int .u8 0), 1, 1) := by kernel_rfl
theorem one_bytes (l : List UInt8) : ∀ u ∈ bytesV l, u.oneCell' = true := by
  intro u hu
  obtain ⟨x, _, rfl⟩ := List.mem_map.1 hu
  rfl

set_option maxHeartbeats 2000000 in
/-- bytes.Clone -/
theorem bclone_c {w : World} {v : Value} {bs : List UInt8} (h : BRow w v bs) (hl : bs.length ≤ 1000000000) :
    Calls Tryz.prog 66 #[v] w fun e w' => ∃ v', e = .returned v' ∧ w'.ownsRow w.heap.size 5 1 v' bs.length (bytesV bs) ∧ Below w.heap.size w w' := by
  have q22 : ∀ (w : World) (a : Option Addr) (n c n' c' : Nat), (binOp .eql 31 (.slice a n c) (.slice none n' c')).run Tryz.prog w = .ok (.bool a.isNone) w := fun w a n c n' c' => Lib.run_eql_slice_nil w _ _ a n c n' c' Tryz.underlying31
  rcases h with ⟨rfl, rfl⟩ | ⟨a, cap, rfl, hlt, hc⟩
  · go_enter Tryz.func66, Tryz.ntmps66
    go_wp2
    go_ret
    exact ⟨_, rfl, World.ownsRow_nil _ _ _ _, Below.refl _ _⟩
  · obtain ⟨i0, hi, hz0, hz1, hz2⟩ := info_parts info5
    have HC := Lib.hid hc
    have hlt : 0 < bs.length → a.block < w.heap.size := fun h0 => hlt (fun e => by rw [e] at h0; cases h0)
    have HLT := Lib.hid hlt
    clear hlt
    have HL := bytesV_length bs
    have H1 := one_bytes bs
    clear hc
    generalize hbv : bytesV bs = xs at *
    generalize hbl : bs.length = n at *
    have HV := Lib.hid hbv
    have HBL := Lib.hid hbl
    have HXL := Lib.hid HL
    have HO := Lib.hid H1
    clear hbv hbl HL H1
    go_enter Tryz.func66, Tryz.ntmps66
    go_wp2_with (at_builtin; refine wpList_append_own _ rfl _ _ 31 rfl w.heap.size 5 i0 (.int .u8 0) 1 1 Tryz.underlying31 hi hz0 hz1 hz2 rfl (by decide) _ _ _ rfl (World.ownsRow_made w #[] 0 (Nat.le_refl _) (Nat.zero_le _) rfl) a n cap xs rfl ?qc1 ?qc2 ?qc3 ?qc4 ?qc5 ?qc6 ?_)
    case qc1 => have := HXL.out; omega
    case qc2 =>
      intro j u hj
      refine (World.cell?_of_block (w := w) (a := a.add j) ?_).trans (HC.out j u hj)
      exact Below.heap_alloc _ _ _ (by rw [add_block]; exact HLT.out (by have h1 := (List.getElem?_eq_some_iff.1 hj).1; have h2 := HXL.out; omega))
    case qc3 => exact HO.out
    case qc4 => unfold maxLen; omega
    case qc5 => omega
    case qc6 => simp
    intro v' w1 hown hgrow hnil
    go_wp2
    go_ret
    refine ⟨v', rfl, by simpa using hown, ?_⟩
    exact ((Below.refl _ w).alloc (Nat.le_refl _) _).grown hgrow (by simp) (by intro k hk; simp [Value.ownBlock] at hk; omega)
end Go.Proofs.YtfmelhcpccghdaaGreat
