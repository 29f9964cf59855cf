/-
  ONE FILE THAT IS APPENDED TO, SYNCED ONCE, AND LOST IN PART.
-/
import Derived.Test.YtkgipabcgbneoaaArmedW
import Derived.Test.YtkgipabcgbneoaaLed
namespace Go.Proofs.Ytkgipabcgbneoaa
open Go.RowKit Go.Maps

variable {X : Nat → Prop} {K : Nat} {w : World} {p : Nat} {q : Pl} {d : Ds}

theorem turn_one (l : List UInt8) (i : Nat) (x : List UInt8) : turn1 (fun _ => none) ⟨[], l, some i⟩ x = if x = l then some i else none := by
  rw [turn1_file rfl]
  by_cases h : x = l
  · rw [h, upd_same, if_pos rfl]
  · rw [upd_other _ _ h, if_neg h]
    by_cases h2 : x = []
    · rw [h2]; exact upd_same _ _ _
    · exact upd_other _ _ h2

/-- f alone is there, with these bytes; s: what is sure of it, if it and the directory are synced -/
def One (bs : List UInt8) (s : Option Nat) (id : Nat) (d : Ds) : Prop :=
  d.up = true ∧ d.left = -1 ∧ d.quota = 16777216 ∧ (∀ x, d.now x = if x = [102] then some id else none) ∧ (d.files id).bytes = bs ∧ (d.files id).time < d.clock ∧
  match s with
  | none => d.sure = (fun _ => none) ∧ d.changes = [⟨[], [102], some id⟩]
  | some n => d.changes = [] ∧ (∀ x, d.sure x = if x = [102] then some id else none) ∧ (d.files id).sure = n
def Cur (bs : List UInt8) (s : Option Nat) (d : Ds) : Prop := (d = newD 16777216 ∧ bs = [] ∧ s = none) ∨ ∃ id, One bs s id d

theorem one_first (r : List UInt8) (id : Nat) : One r none id (written (spent (newD 16777216)) [102] r id) := by
  have hf : (written (spent (newD 16777216)) [102] r id).files id = ⟨r, 0, 1⟩ := upd_same _ _ _
  refine ⟨rfl, rfl, rfl, fun x => written_none [102] r id x, by rw [hf], ?_, rfl, rfl⟩
  rw [hf]
  show 1 < 1 + 1
  decide
theorem one_next {bs r : List UInt8} {s : Option Nat} {id : Nat} (h : One bs s id d) : One (bs ++ r) s id (appended (spent d) id r) := by
  obtain ⟨h1, h2, h3, h4, h5, h6, h7⟩ := h
  have hf : (appended (spent d) id r).files id = ⟨bs ++ r, (d.files id).sure, d.clock⟩ := by
    show upd d.files id ⟨(d.files id).bytes ++ r, (d.files id).sure, d.clock⟩ id = _
    rw [upd_same, h5]
  refine ⟨h1, ?_, h3, h4, by rw [hf], ?_, ?_⟩
  · show (if 0 < d.left then d.left - 1 else d.left) = _
    rw [if_neg (by omega), h2]
  · rw [hf]
    show d.clock < d.clock + 1
    omega
  · cases s with
    | none => exact h7
    | some n => exact ⟨h7.1, h7.2.1, by rw [hf]; exact h7.2.2⟩
theorem one_sync {bs : List UInt8} {id : Nat} (h : One bs none id d) :
    One bs (some bs.length) id (settled (spent (synced (spent d) id)) (spent (synced (spent d) id)).changes.length) := by
  obtain ⟨h1, h2, h3, h4, h5, h6, h7, h8⟩ := h
  have hf : (settled (spent (synced (spent d) id)) (spent (synced (spent d) id)).changes.length).files id = ⟨bs, bs.length, (d.files id).time⟩ := by
    show upd d.files id ⟨(d.files id).bytes, (d.files id).bytes.length, (d.files id).time⟩ id = _
    rw [upd_same, h5]
  refine ⟨h1, ?_, h3, h4, by rw [hf], by rw [hf]; exact h6, rfl, fun x => ?_, by rw [hf]⟩
  · show (if 0 < (if 0 < d.left then d.left - 1 else d.left) then (if 0 < d.left then d.left - 1 else d.left) - 1 else (if 0 < d.left then d.left - 1 else d.left)) = _
    rw [h2]; rfl
  · show turns d.sure (d.changes.take d.changes.length) x = _
    rw [List.take_length, h7, h8]
    exact turn_one [102] id x

theorem one_step {bs r : List UInt8} {s : Option Nat} (h : Dk X K w p d) (hK : K ≤ 100) (hc : Cur bs s d) {v : Value} (hv : BRow w v r) (hvX : ∀ k, Value.rowBlock v = some k → X k) (hl : bs.length + r.length ≤ 6000) :
    Calls Try.prog 24 #[.pointer (some ⟨p, 0, none⟩), .string ⟨#[102]⟩, v] w fun e w' => e = .returned (.int .i64 0) ∧ Same X w w' ∧ ∃ d', Dk X (K + 3) w' p d' ∧ ∃ id, One (bs ++ r) s id d' := by
  rcases hc with ⟨rfl, rfl, rfl⟩ | ⟨id, hO⟩
  · have hl' : r.length ≤ 6000 := by simpa using hl
    refine (appendNew_ok (M := 0) (l := [102]) (bs := r) h (by omega) (by omega) (fun l i hi => by cases hi) (by simp) hv hvX (by omega) (by rw [Nat.mul_zero, Nat.zero_add]; exact Nat.le_trans hl' (by decide)) rfl (by show (-1 : Int) ≠ 0; decide) right_f (by rfl)).mono ?_
    rintro e w' ⟨rfl, hs, d', hd, i, _, rfl⟩
    exact ⟨rfl, hs, _, hd, i, one_first r i⟩
  · have hO' := hO
    obtain ⟨h1, h2, h3, h4, h5, _⟩ := hO'
    have hi : d.now [102] = some id := by rw [h4, if_pos rfl]
    have hM : (K + 1) * 6000 ≤ 101 * 6000 := Nat.mul_le_mul_right _ (by omega)
    refine (append_ok (M := 6000) (l := [102]) (bs := r) h (by omega) (by omega) (all_one h4 (by rw [h5]; exact Nat.le_trans (Nat.le_add_right _ _) hl)) (by simp) hv hvX hi (by rw [h5]; exact Nat.le_trans hl (by decide)) (by rw [h3, h5]; exact Nat.le_trans (Nat.add_le_add hM hl) (by decide)) h1 (by rw [h2]; decide) right_f).mono ?_
    rintro e w' ⟨rfl, hs, d', hd, rfl⟩
    exact ⟨rfl, hs, _, hd, id, one_next hO⟩
theorem one_sync_c {bs : List UInt8} {id : Nat} (h : Dk X K w p d) (hK : K ≤ 100) (hO : One bs none id d) :
    Calls Try.prog 22 #[.pointer (some ⟨p, 0, none⟩), .string ⟨#[102]⟩] w fun e w' => e = .returned (.int .i64 0) ∧ Same X w w' ∧ Dk X (K + 1) w' p (synced (spent d) id) := by
  obtain ⟨h1, h2, h3, h4, h5, _⟩ := hO
  refine (sync_ok (l := [102]) (i := id) h (by omega) (by simp) (by rw [h4, if_pos rfl]) h1 (by rw [h2]; decide) right_f).mono ?_
  rintro e w' ⟨rfl, hs, d', hd, rfl⟩
  exact ⟨rfl, hs, hd⟩
theorem one_dir_c {bs : List UInt8} {id : Nat} (h : Dk X K w p (synced (spent d) id)) (hK : K ≤ 100) (hO : One bs none id d) :
    Calls Try.prog 23 #[.pointer (some ⟨p, 0, none⟩)] w fun e w' => e = .returned (.int .i64 0) ∧ Same X w w' ∧ ∃ d', Dk X (K + 1) w' p d' ∧ ∃ id, One bs (some bs.length) id d' := by
  refine (syncDir_ok h (by omega) hO.1 ?_).mono ?_
  · show (if 0 < d.left then d.left - 1 else d.left) ≠ 0
    rw [hO.2.1]; decide
  rintro e w' ⟨rfl, hs, d', hd, rfl⟩
  exact ⟨rfl, hs, _, hd, id, one_sync hO⟩

/-- how much is there behind the restart -/
def stay (n : Nat) (t : Int) (len : Nat) : Nat := n + min (max t 0).toNat (len - n)

theorem one_back {bs : List UInt8} {n id : Nat} (h : One bs (some n) id d) (hn : n ≤ bs.length) (t : Int) {ns : List (List UInt8)} (hnd : ns.Nodup) (hmem : ∀ x, x ∈ ns ↔ ((back d 0).now x).isSome = true) :
    (lostAll [t] 0 ns (back d 0)).up = true ∧ (lostAll [t] 0 ns (back d 0)).now [102] = some id ∧ ((lostAll [t] 0 ns (back d 0)).files id).bytes = bs.take (stay n t bs.length) ∧ stay n t bs.length ≤ bs.length ∧
    ((stay n t bs.length = bs.length ∧ ((lostAll [t] 0 ns (back d 0)).files id).time = (d.files id).time) ∨ (stay n t bs.length ≠ bs.length ∧ (d.files id).time < ((lostAll [t] 0 ns (back d 0)).files id).time)) := by
  obtain ⟨h1, h2, h3, h4, h5, h6, h7, h8, h9⟩ := h
  have hnow : ∀ x, (back d 0).now x = if x = [102] then some id else none := h8
  have : ns = [[102]] := one_name hnd fun x => by
    rw [hmem x, hnow]
    split
    · simp_all
    · simp_all
  subst this
  have hi : (back d 0).now [102] = some id := by rw [hnow, if_pos rfl]
  have hf : (back d 0).files id = d.files id := rfl
  have ht : tailOf [t] 0 = max 0 t := by simp [tailOf]
  have hkl : stay n t bs.length ≤ bs.length := by unfold stay; omega
  rw [lostAll_cons hi, lostAll_nil, ht]
  by_cases hc : max 0 t < (bs.length : Int) - n
  · have hk : stay n t bs.length = n + (max 0 t).toNat := by unfold stay; omega
    rw [lost_lt (by rw [hf, h5, h9]; exact hc)]
    refine ⟨rfl, hi, ?_, hkl, .inr ⟨by omega, ?_⟩⟩
    · show (upd (back d 0).files id ⟨((back d 0).files id).bytes.take (((back d 0).files id).sure + (max 0 t).toNat), _, _⟩ id).bytes = _
      rw [upd_same, hf, h5, h9, hk]
    · show _ < (upd (back d 0).files id ⟨_, _, d.clock⟩ id).time
      rw [upd_same]
      exact h6
  · have hk : stay n t bs.length = bs.length := by unfold stay; omega
    rw [lost_ge (by rw [hf, h5, h9]; exact hc)]
    refine ⟨rfl, hi, ?_, hkl, .inl ⟨hk, ?_⟩⟩
    · show (upd (back d 0).files id ⟨((back d 0).files id).bytes, _, _⟩ id).bytes = _
      rw [upd_same, hf, h5, hk, List.take_length]
    · show (upd (back d 0).files id ⟨_, _, ((back d 0).files id).time⟩ id).time = _
      rw [upd_same]
      rfl
end Go.Proofs.Ytkgipabcgbneoaa
