/-
  WHERE A NAME LEADS, WHATEVER PART OF THE CHANGES IS KEPT: the files it may lead to are whole and sure; the law DiskRenames's deeds.
-/
import Derived.Test.YtfmelhcpccghdaaGreatOks
namespace Go.Proofs.YtfmelhcpccghdaaGreat
open Go.RowKit Go.Maps

variable {X : Nat → Prop} {K : Nat} {w : World} {p : Nat} {q : Pl} {d : Ds}

/-- a file whose bytes are all sure, and are ones that V takes -/
def Whole (V : List UInt8 → Prop) (d : Ds) (i : Nat) : Prop := (d.files i).sure = (d.files i).bytes.length ∧ V (d.files i).bytes
/-- l leads to such a file, whatever part of the changes is kept -/
def Led (l : List UInt8) (V : List UInt8 → Prop) (d : Ds) : Prop := ∀ n, ∃ i, turns d.sure (d.changes.take n) l = some i ∧ Whole V d i

theorem Led.weak {l : List UInt8} {V V' : List UInt8 → Prop} (h : Led l V d) (hV : ∀ x, V x → V' x) : Led l V' d := fun n => by
  obtain ⟨i, h1, h2, h3⟩ := h n
  exact ⟨i, h1, h2, hV _ h3⟩
theorem led_ref {l : List UInt8} {n i : Nat} (h : turns d.sure (d.changes.take n) l = some i) : Ref d i := by
  rcases turns_some h with h | ⟨c, hc, h⟩
  · exact .inr (.inl ⟨l, h⟩)
  · exact .inr (.inr ⟨c, List.mem_of_mem_take hc, h⟩)
theorem Led.files {l : List UInt8} {V : List UInt8 → Prop} {d' : Ds} (h : Led l V d) (hs : d'.sure = d.sure) (hc : d'.changes = d.changes) (hf : ∀ i, Ref d i → Whole V d i → Whole V d' i) : Led l V d' := by
  intro n
  obtain ⟨i, h1, h2⟩ := h n
  refine ⟨i, by rw [hs, hc]; exact h1, hf i (led_ref h1) h2⟩
theorem Led.changed {l : List UInt8} {V : List UInt8 → Prop} {c : Ch} (h : Led l V d) (hc : ∀ f, turn1 f c l = f l ∨ ∃ i, turn1 f c l = some i ∧ Whole V d i) : Led l V (changed d c) := by
  intro n
  show ∃ i, turns d.sure ((d.changes ++ [c]).take n) l = some i ∧ Whole V d i
  by_cases hn : n ≤ d.changes.length
  · rw [List.take_append_of_le_length hn]
    exact h n
  · rw [List.take_of_length_le (by simp; omega), turns_snoc]
    rcases hc (turns d.sure d.changes) with h1 | h1
    · rw [h1]
      have := h d.changes.length
      rw [List.take_length] at this
      exact this
    · exact h1
theorem turn1_off {f : List UInt8 → Option Nat} {c : Ch} {l : List UInt8} (h1 : l ≠ c.src) (h2 : l ≠ c.dst) : turn1 f c l = f l := by
  cases hc : c.file with
  | none => rw [turn1_none hc, upd_other _ _ h1]
  | some j => rw [turn1_file hc, upd_other _ _ h2, upd_other _ _ h1]
theorem turn1_dst {f : List UInt8 → Option Nat} {c : Ch} {i : Nat} (h : c.file = some i) : turn1 f c c.dst = some i := by rw [turn1_file h, upd_same]

/-! ### a restart leaves whole files as they are -/
theorem lost_whole {i j : Nat} {t : Int} (ht : 0 ≤ t) (h : (d.files i).sure = (d.files i).bytes.length) : (lost d j t).files i = d.files i := by
  by_cases e : i = j
  · subst e
    rw [lost_ge (by omega)]
    show upd d.files i _ i = _
    rw [upd_same, ← h]
  · unfold lost
    dsimp only
    split
    · show upd d.files j _ i = _
      rw [upd_other _ _ e]
      try rfl
    · show upd d.files j _ i = _
      rw [upd_other _ _ e]
theorem lost_up (i : Nat) (t : Int) : (lost d i t).up = d.up := by unfold lost; dsimp only; split <;> rfl
theorem lostAll_whole {ts : List Int} {i : Nat} : ∀ (ns : List (List UInt8)) (k : Nat) (d : Ds), (d.files i).sure = (d.files i).bytes.length →
    (lostAll ts k ns d).files i = d.files i ∧ (lostAll ts k ns d).now = d.now ∧ (lostAll ts k ns d).up = d.up ∧ (lostAll ts k ns d).sure = d.sure ∧ (lostAll ts k ns d).changes = d.changes
  | [], k, d, h => ⟨rfl, rfl, rfl, rfl, rfl⟩
  | n :: ns, k, d, h => by
    show (lostAll ts (k + 1) ns _).files i = _ ∧ (lostAll ts (k + 1) ns _).now = _ ∧ (lostAll ts (k + 1) ns _).up = _ ∧ (lostAll ts (k + 1) ns _).sure = _ ∧ (lostAll ts (k + 1) ns _).changes = _
    cases hn : d.now n with
    | none => exact lostAll_whole ns (k + 1) d h
    | some j =>
      have hw := lost_whole (d := d) (j := j) (tailOf_nn ts k) h
      obtain ⟨h1, h2, h3, h4, h5⟩ := lostAll_whole ns (k + 1) (lost d j (tailOf ts k)) (by rw [hw]; exact h)
      exact ⟨h1.trans hw, h2.trans (lost_now _ _ _), h3.trans (lost_up _ _), h4.trans (lost_sure _ _ _), h5.trans (lost_changes _ _ _)⟩
theorem led_back {l : List UInt8} {V : List UInt8 → Prop} (h : Led l V d) (n : Nat) (ts : List Int) (ns : List (List UInt8)) :
    (lostAll ts 0 ns (back d n)).up = true ∧ ∃ i, (lostAll ts 0 ns (back d n)).now l = some i ∧ V ((lostAll ts 0 ns (back d n)).files i).bytes := by
  obtain ⟨i, h1, h2, h3⟩ := h n
  obtain ⟨e1, e2, e3, _, _⟩ := lostAll_whole (ts := ts) ns 0 (back d n) (i := i) h2
  refine ⟨e3, i, by rw [e2]; exact h1, by rw [e1]; exact h3⟩

/-! ### the deeds of DiskRenames -/
theorem g_ne_f : ([102] : List UInt8) ≠ [103] := by decide
theorem f_ne_nil : ([102] : List UInt8) ≠ [] := by decide

theorem write_g {V : List UInt8 → Prop} (h : Dk X K w p d) (hK : K + 3 ≤ 1000) (hi : Led [102] V d) {v : Value} {bs : List UInt8} (hv : BRow w v bs) (hvX : ∀ k, Value.rowBlock v = some k → X k) (hbs : bs.length ≤ 65536) :
    Calls Tryz.prog 18 #[.pointer (some ⟨p, 0, none⟩), .string ⟨#[103]⟩, v] w fun e w' => ∃ n d', e = .returned (.int .i64 n) ∧ Same X w w' ∧ Dk X (K + 3) w' p d' ∧ Led [102] V d' ∧ (n = 0 → ∃ i, d'.now [103] = some i ∧ (d'.files i).bytes = bs) := by
  obtain ⟨q, h⟩ := h
  refine (Write_c h hK (M := 65536) (Nat.le_refl _) (fun l i hi => (h.file i (ref_now hi)).len) (l := [103]) (by simp) hv hvX (by omega)).mono ?_
  rintro e w' ⟨n, d', rfl, hs, hd, hq⟩
  refine ⟨n, d', rfl, hs, hd, ?_⟩
  rcases hq with ⟨_, rfl, rfl⟩ | ⟨_, _, rfl, rfl⟩ | ⟨_, _, _, rfl, rfl⟩ | ⟨_, _, _, hQ, _⟩
  · exact ⟨hi, fun h => by omega⟩
  · exact ⟨hi, fun h => by omega⟩
  · exact ⟨hi, fun h => by omega⟩
  · rcases hQ with ⟨rfl, _, i, hr, rfl⟩ | ⟨h3, rfl⟩
    · refine ⟨Led.changed (d := setF (ticked (spent d)) i ⟨bs, 0, (spent d).clock⟩) (Led.files (d' := setF (ticked (spent d)) i ⟨bs, 0, (spent d).clock⟩) hi rfl rfl fun j hj hg => ?_) fun f => .inl (turn1_off f_ne_nil g_ne_f), fun _ => ⟨i, ?_, ?_⟩⟩
      · have : j ≠ i := fun e => hr (by rw [← e]; exact hj)
        have e2 : (setF (ticked (spent d)) i ⟨bs, 0, (spent d).clock⟩).files j = d.files j := upd_other _ _ this
        unfold Whole
        rw [e2]
        exact hg
      · exact turn1_dst (f := d.now) (c := ⟨[], [103], some i⟩) rfl
      · show (upd d.files i ⟨bs, 0, _⟩ i).bytes = bs
        rw [upd_same]
    · exact ⟨hi, fun h => by omega⟩

theorem sync_g {V : List UInt8 → Prop} {bs : List UInt8} (h : Dk X K w p d) (hK : K < 1000) (hi : Led [102] V d) (hV : V bs) (hg : ∃ i, d.now [103] = some i ∧ (d.files i).bytes = bs) :
    Calls Tryz.prog 30 #[.pointer (some ⟨p, 0, none⟩), .string ⟨#[103]⟩] w fun e w' => ∃ n d', e = .returned (.int .i64 n) ∧ Same X w w' ∧ Dk X (K + 1) w' p d' ∧ Led [102] V d' ∧ (n = 0 → ∃ i, d'.now [103] = some i ∧ Whole (· = bs) d' i) := by
  obtain ⟨q, h⟩ := h
  obtain ⟨i, hn, hb⟩ := hg
  refine (Sync_c h hK (l := [103]) (by simp)).mono ?_
  rintro e w' ⟨n, d', rfl, hs, hd, hq⟩
  refine ⟨n, d', rfl, hs, hd, ?_⟩
  rcases hq with ⟨_, rfl, rfl⟩ | ⟨_, _, rfl, rfl⟩ | ⟨_, _, _, rfl, rfl⟩ | ⟨_, _, _, hQ⟩
  · exact ⟨hi, fun h => by omega⟩
  · exact ⟨hi, fun h => by omega⟩
  · exact ⟨hi, fun h => by omega⟩
  · obtain ⟨rfl, rfl⟩ := onQ_of (i := i) hQ hn
    have hself : (synced (spent d) i).files i = ⟨bs, bs.length, (d.files i).time⟩ := by
      show upd d.files i ⟨(d.files i).bytes, (d.files i).bytes.length, (d.files i).time⟩ i = _
      rw [upd_same, hb]
    refine ⟨Led.files hi rfl rfl fun j hj hg => ?_, fun _ => ⟨i, hn, ?_⟩⟩
    · by_cases e : j = i
      · subst e
        unfold Whole
        rw [hself]
        exact ⟨rfl, hV⟩
      · have e2 : (synced (spent d) i).files j = d.files j := upd_other _ _ e
        unfold Whole
        rw [e2]
        exact hg
    · unfold Whole
      rw [hself]
      exact ⟨rfl, rfl⟩

theorem rename_g {V : List UInt8 → Prop} {bs : List UInt8} (h : Dk X K w p d) (hK : K + 2 ≤ 1000) (hi : Led [102] V d) (hV : V bs) (hg : ∃ i, d.now [103] = some i ∧ Whole (· = bs) d i) :
    Calls Tryz.prog 36 #[.pointer (some ⟨p, 0, none⟩), .string ⟨#[103]⟩, .string ⟨#[102]⟩] w fun e w' => ∃ n d', e = .returned (.int .i64 n) ∧ Same X w w' ∧ Dk X (K + 2) w' p d' ∧ Led [102] V d' ∧ (n = 0 → ∃ i, turns d'.sure d'.changes [102] = some i ∧ Whole (· = bs) d' i) := by
  obtain ⟨q, h⟩ := h
  obtain ⟨i, hn, hb⟩ := hg
  refine (Rename_c h hK (l := [103]) (m := [102]) (by simp) (by simp)).mono ?_
  rintro e w' ⟨n, d', rfl, hs, hd, hq⟩
  refine ⟨n, d', rfl, hs, hd, ?_⟩
  rcases hq with ⟨_, rfl, rfl⟩ | ⟨_, _, rfl, rfl⟩ | ⟨_, _, _, rfl, rfl⟩ | ⟨_, _, _, hQ⟩
  · exact ⟨hi, fun h => by omega⟩
  · exact ⟨hi, fun h => by omega⟩
  · exact ⟨hi, fun h => by omega⟩
  · obtain ⟨rfl, rfl⟩ := onQ_of (Q := fun i n d' => n = 0 ∧ d' = changed (spent d) ⟨[103], [102], some i⟩) (i := i) hQ hn
    have ht : ∀ f, turn1 f ⟨[103], [102], some i⟩ [102] = some i := fun f => turn1_dst (f := f) (c := ⟨[103], [102], some i⟩) rfl
    refine ⟨Led.changed (d := spent d) (c := ⟨[103], [102], some i⟩) hi fun f => .inr ⟨i, ht f, hb.1, by rw [show ((spent d).files i).bytes = bs from hb.2]; exact hV⟩, fun _ => ⟨i, ?_, hb⟩⟩
    show turns d.sure (d.changes ++ [_]) [102] = _
    rw [turns_snoc]
    exact ht _

theorem syncDir_g {V : List UInt8 → Prop} {bs : List UInt8} (h : Dk X K w p d) (hK : K < 1000) (hi : Led [102] V d) (hV : V bs) (hg : ∃ i, turns d.sure d.changes [102] = some i ∧ Whole (· = bs) d i) :
    Calls Tryz.prog 19 #[.pointer (some ⟨p, 0, none⟩)] w fun e w' => ∃ n d', e = .returned (.int .i64 n) ∧ Same X w w' ∧ Dk X (K + 1) w' p d' ∧ Led [102] V d' ∧ (n = 0 → Led [102] (· = bs) d') := by
  obtain ⟨q, h⟩ := h
  obtain ⟨i, hn, hb⟩ := hg
  refine (SyncDir_c h hK).mono ?_
  rintro e w' ⟨n, d', rfl, hs, hd, hq⟩
  refine ⟨n, d', rfl, hs, hd, ?_⟩
  rcases hq with ⟨_, rfl, rfl⟩ | ⟨_, _, rfl, rfl⟩ | ⟨_, _, _, rfl, rfl⟩ | ⟨_, _, _, rfl, rfl⟩
  · exact ⟨hi, fun h => by omega⟩
  · exact ⟨hi, fun h => by omega⟩
  · exact ⟨hi, fun h => by omega⟩
  · have ht : ∀ n, turns (settled (spent d) (spent d).changes.length).sure ((settled (spent d) (spent d).changes.length).changes.take n) [102] = some i := by
      intro n
      show turns (turns d.sure (d.changes.take d.changes.length)) (([] : List Ch).take n) [102] = some i
      rw [List.take_length, List.take_nil, turns_nil]
      exact hn
    exact ⟨fun n => ⟨i, ht n, hb.1, by rw [show ((settled (spent d) (spent d).changes.length).files i).bytes = bs from hb.2]; exact hV⟩, fun _ n => ⟨i, ht n, hb⟩⟩

theorem written_none (l bs : List UInt8) (i : Nat) (x : List UInt8) : (written (spent (newD 16777216)) l bs i).now x = if x = l then some i else none := by
  show turn1 (fun _ => none) ⟨[], l, some i⟩ x = _
  rw [turn1_file rfl]
  by_cases h : x = l
  · rw [h, upd_same, if_pos rfl]
  · rw [upd_other _ _ h, if_neg h]
    by_cases h2 : x = []
    · rw [h2]; exact upd_same _ _ _
    · exact upd_other _ _ h2
/-- what is written first, synced, and the directory behind it -/
def dS (l bs : List UInt8) (i : Nat) : Ds := settled (spent (synced (spent (written (spent (newD 16777216)) l bs i)) i)) (spent (synced (spent (written (spent (newD 16777216)) l bs i)) i)).changes.length
theorem dS_now (l bs : List UInt8) (i : Nat) (x : List UInt8) : (dS l bs i).now x = if x = l then some i else none := written_none l bs i x
theorem dS_sure (l bs : List UInt8) (i : Nat) (x : List UInt8) : (dS l bs i).sure x = if x = l then some i else none := written_none l bs i x
theorem dS_file (l bs : List UInt8) (i : Nat) : (dS l bs i).files i = ⟨bs, bs.length, 1⟩ := by
  show upd (written (spent (newD 16777216)) l bs i).files i ⟨((written (spent (newD 16777216)) l bs i).files i).bytes, ((written (spent (newD 16777216)) l bs i).files i).bytes.length, ((written (spent (newD 16777216)) l bs i).files i).time⟩ i = _
  have : (written (spent (newD 16777216)) l bs i).files i = ⟨bs, 0, 1⟩ := upd_same _ _ _
  rw [upd_same, this]
theorem dS_led (l bs : List UInt8) (i : Nat) : Led l (· = bs) (dS l bs i) := by
  intro n
  refine ⟨i, ?_, by unfold Whole; rw [dS_file]; exact ⟨rfl, rfl⟩⟩
  show turns (dS l bs i).sure (([] : List Ch).take n) l = _
  rw [List.take_nil, turns_nil, dS_sure, if_pos rfl]
end Go.Proofs.YtfmelhcpccghdaaGreat
