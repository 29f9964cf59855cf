/-
  NO TWO CONTENTS WITH ONE TIME: what was recorded of times that files had agrees with the files that are there.
-/
import Derived.Test.YtdgfnhgkncfmpaaLawDeed
import Derived.Test.YtdgfnhgkncfmpaaLed
namespace Go.Proofs.Ytdgfnhgkncfmpaa

variable {d : Ds} {R : Nat → Option (List UInt8)}

structure Timed (R : Nat → Option (List UInt8)) (d : Ds) : Prop where
  one : 1 ≤ d.clock
  time : ∀ i, Ref d i → 1 ≤ (d.files i).time ∧ (d.files i).time < d.clock
  none : ∀ t, d.clock ≤ t → R t = none
  has : ∀ i, Ref d i → ∀ x, R (d.files i).time = some x → x = (d.files i).bytes
  apart : ∀ i j, Ref d i → Ref d j → (d.files i).time = (d.files j).time → i = j

/-- no file has a time that it had not -/
theorem Timed.calm (h : Timed R d) {d' : Ds} (hr : ∀ i, Ref d' i → Ref d i) (hc : d'.clock = d.clock) (hf : ∀ i, Ref d i → (d'.files i).time = (d.files i).time ∧ (d'.files i).bytes = (d.files i).bytes) : Timed R d' := by
  refine ⟨by rw [hc]; exact h.one, fun i hi => ?_, by rw [hc]; exact h.none, fun i hi x hx => ?_, fun i j hi hj e => ?_⟩
  · rw [(hf i (hr i hi)).1, hc]; exact h.time i (hr i hi)
  · rw [(hf i (hr i hi)).1] at hx
    rw [(hf i (hr i hi)).2]
    exact h.has i (hr i hi) x hx
  · rw [(hf i (hr i hi)).1, (hf j (hr j hj)).1] at e
    exact h.apart i j (hr i hi) (hr j hj) e
/-- one file has the clock's time -/
theorem Timed.stamp (h : Timed R d) {d' : Ds} {i : Nat} {x : List UInt8} {s : Nat} (hr : ∀ j, Ref d' j → j = i ∨ Ref d j) (hc : d'.clock = d.clock + 1) (hf : d'.files = upd d.files i ⟨x, s, d.clock⟩) : Timed R d' := by
  have hi : d'.files i = ⟨x, s, d.clock⟩ := by rw [hf, upd_same]
  have hj : ∀ j, j ≠ i → d'.files j = d.files j := fun j e => by rw [hf, upd_other _ _ e]
  have hold : ∀ j, Ref d' j → j ≠ i → Ref d j := fun j h1 h2 => (hr j h1).resolve_left h2
  refine ⟨by rw [hc]; omega, fun j h1 => ?_, fun t ht => h.none t (by rw [hc] at ht; omega), fun j h1 y hy => ?_, fun j k h1 h2 e => ?_⟩
  · by_cases e : j = i
    · subst e
      rw [hi, hc]
      have := h.one
      exact ⟨this, Nat.lt_succ_self _⟩
    · have := h.time j (hold j h1 e)
      rw [hj j e, hc]
      omega
  · by_cases e : j = i
    · subst e
      rw [hi] at hy
      rw [h.none d.clock (Nat.le_refl _)] at hy
      cases hy
    · rw [hj j e] at hy ⊢
      exact h.has j (hold j h1 e) y hy
  · by_cases ej : j = i
    · by_cases ek : k = i
      · rw [ej, ek]
      · have := (h.time k (hold k h2 ek)).2
        rw [ej, hi, hj k ek] at e
        simp only at e
        omega
    · by_cases ek : k = i
      · have := (h.time j (hold j h1 ej)).2
        rw [ek, hi, hj j ej] at e
        simp only at e
        omega
      · rw [hj j ej, hj k ek] at e
        exact h.apart j k (hold j h1 ej) (hold k h2 ek) e

theorem Timed.spent (h : Timed R d) : Timed R (spent d) := h.calm (fun _ hi => hi) rfl fun _ _ => ⟨rfl, rfl⟩
theorem Timed.settled (h : Timed R d) (n : Nat) : Timed R (settled d n) := h.calm (fun _ hi => ref_settled hi) rfl fun _ _ => ⟨rfl, rfl⟩
theorem Timed.back (h : Timed R d) (n : Nat) : Timed R (back d n) := h.calm (fun _ hi => ref_back hi) rfl fun _ _ => ⟨rfl, rfl⟩
theorem Timed.lost (h : Timed R d) (i : Nat) (t : Int) (hi : Ref d i) : Timed R (lost d i t) := by
  by_cases hc : t < ((d.files i).bytes.length : Int) - (d.files i).sure
  · have e := lost_lt hc
    exact h.stamp (i := i) (fun j hj => .inr (ref_lost.1 hj)) (by rw [e]; rfl) (by rw [e]; rfl)
  · have e := lost_ge hc
    refine h.calm (fun j hj => ref_lost.1 hj) (by rw [e]; rfl) fun j _ => ?_
    by_cases ej : j = i
    · subst ej
      have e2 : (Ytdgfnhgkncfmpaa.lost d j t).files j = ⟨(d.files j).bytes, (d.files j).bytes.length, (d.files j).time⟩ := by rw [e]; exact upd_same _ _ _
      rw [e2]
      exact ⟨rfl, rfl⟩
    · have e2 : (Ytdgfnhgkncfmpaa.lost d i t).files j = d.files j := by rw [e]; exact upd_other _ _ ej
      rw [e2]
      exact ⟨rfl, rfl⟩
theorem Timed.lostAll {ts : List Int} : ∀ (ns : List (List UInt8)) (k : Nat) (d : Ds), Timed R d → Timed R (lostAll ts k ns d)
  | [], _, _, h => h
  | n :: ns, k, d, h => by
    show Timed R (Ytdgfnhgkncfmpaa.lostAll ts (k + 1) ns _)
    cases hn : d.now n with
    | none => exact Timed.lostAll ns (k + 1) d h
    | some j => exact Timed.lostAll ns (k + 1) _ (h.lost j _ (ref_now hn))

theorem ref_spent {i : Nat} (h : Ref (spent d) i) : Ref d i := h

theorem timed_deed {K what : Nat} {N : Int} {s t x : List UInt8} {n : Int} {d' : Ds} (h : Timed R d) (hq : DeedR K what N s t x d n d') : Timed R d' := by
  have key : ∀ {ns : List (List UInt8)} {Q : Int → Ds → Prop}, (Q n d' → Timed R d') → DeedQ d ns Q n d' → Timed R d' := by
    intro ns Q hQ hd
    rcases hd with ⟨_, _, rfl⟩ | ⟨_, _, _, rfl⟩ | ⟨_, _, _, _, rfl⟩ | ⟨_, _, _, hd⟩
    · exact h
    · exact h.calm (fun _ hi => hi) rfl fun _ _ => ⟨rfl, rfl⟩
    · exact h.spent
    · exact hQ hd
  have hw : ∀ {K M : Nat}, WriteQ K M (Ytdgfnhgkncfmpaa.spent d) s x n d' → Timed R d' := by
    rintro K M ⟨⟨_, _, i, _, rfl⟩ | ⟨_, rfl⟩, _⟩
    · refine h.spent.stamp (i := i) (x := x) (s := 0) (fun j hj => ?_) rfl rfl
      rcases ref_changed (d := setF (ticked (Ytdgfnhgkncfmpaa.spent d)) i ⟨x, 0, d.clock⟩) hj with h1 | h1
      · exact .inr h1
      · exact .inl (by cases h1; rfl)
    · exact h.spent
  have hon : ∀ {Q : Nat → Int → Ds → Prop}, (∀ i, d.now s = some i → Q i n d' → Timed R d') → OnQ (Ytdgfnhgkncfmpaa.spent d) s Q n d' → Timed R d' := by
    rintro Q hQ (⟨_, _, rfl⟩ | ⟨i, hi, hq⟩)
    · exact h.spent
    · exact hQ i hi hq
  match what, hq with
  | 0, hq => exact key hw hq
  | 1, hq =>
    refine key ?_ hq
    rintro (⟨_, hq⟩ | ⟨i, hi, ⟨_, _, rfl⟩ | ⟨_, rfl⟩, _⟩)
    · exact hw hq
    · exact h.spent.stamp (i := i) (fun j hj => .inr hj) rfl rfl
    · exact h.spent
  | 2, hq =>
    refine key (hon ?_) hq
    rintro i hi (⟨_, _, rfl⟩ | ⟨_, _, _, rfl⟩)
    · exact h.spent
    · exact h.spent.stamp (i := i) (fun j hj => .inr hj) rfl rfl
  | 3, hq =>
    refine key (hon ?_) hq
    rintro i hi ⟨_, rfl⟩
    refine h.spent.calm (fun j hj => ?_) rfl fun _ _ => ⟨rfl, rfl⟩
    rcases ref_changed hj with h1 | h1
    · exact h1
    · cases h1; exact ref_now (d := Ytdgfnhgkncfmpaa.spent d) hi
  | 4, hq =>
    refine key (hon ?_) hq
    rintro i hi ⟨_, rfl⟩
    refine h.spent.calm (fun j hj => ?_) rfl fun _ _ => ⟨rfl, rfl⟩
    rcases ref_changed hj with h1 | h1
    · exact h1
    · cases h1
  | 5, hq =>
    refine key (hon ?_) hq
    rintro i hi ⟨_, rfl⟩
    refine h.spent.calm (fun j hj => hj) rfl fun j _ => ?_
    by_cases e : j = i
    · subst e
      have e2 : (synced (Ytdgfnhgkncfmpaa.spent d) j).files j = ⟨(d.files j).bytes, (d.files j).bytes.length, (d.files j).time⟩ := upd_same _ _ _
      rw [e2]
      exact ⟨rfl, rfl⟩
    · have e2 : (synced (Ytdgfnhgkncfmpaa.spent d) i).files j = d.files j := upd_other _ _ e
      rw [e2]
      exact ⟨rfl, rfl⟩
  | k + 6, hq =>
    have hq' : DeedQ d [] (fun n d' => n = 0 ∧ d' = Ytdgfnhgkncfmpaa.settled (Ytdgfnhgkncfmpaa.spent d) (Ytdgfnhgkncfmpaa.spent d).changes.length) n d' := hq
    refine key ?_ hq'
    rintro ⟨_, rfl⟩
    exact h.spent.settled _

/-- a file that is there is recorded -/
theorem Timed.note (h : Timed R d) {i : Nat} (hi : Ref d i) : Timed (upd R (d.files i).time (some (d.files i).bytes)) d := by
  refine ⟨h.one, h.time, fun t ht => ?_, fun j hj x hx => ?_, h.apart⟩
  · rw [upd_other _ _ (by have := (h.time i hi).2; omega)]
    exact h.none t ht
  · by_cases e : (d.files j).time = (d.files i).time
    · rw [e, upd_same] at hx
      cases hx
      rw [h.apart j i hj hi e]
    · rw [upd_other _ _ e] at hx
      exact h.has j hj x hx
end Go.Proofs.Ytdgfnhgkncfmpaa
