/-
  A FILE THAT IS SURE, AND THAT NOBODY ELSE NAMES: it stays as it is, whatever is done with other names.
-/
import Derived.Test.YtdgfnhgkncfmpaaLawDeed
import Derived.Test.YtdgfnhgkncfmpaaLed
namespace Go.Proofs.Ytdgfnhgkncfmpaa

variable {d : Ds}

structure Own (own bs : List UInt8) (id T : Nat) (d : Ds) : Prop where
  file : d.files id = ⟨bs, bs.length, T⟩
  now : d.now own = some id
  sure : d.sure own = some id
  now1 : ∀ l, d.now l = some id → l = own
  sure1 : ∀ l, d.sure l = some id → l = own
  chg : ∀ c ∈ d.changes, c.file ≠ some id ∧ own ≠ c.src ∧ own ≠ c.dst

variable {own bs : List UInt8} {id T : Nat}

theorem Own.ref (h : Own own bs id T d) : Ref d id := ref_now h.now
theorem Own.like (h : Own own bs id T d) {d' : Ds} (hf : d'.files id = d.files id) (hn : d'.now = d.now) (hs : d'.sure = d.sure) (hc : d'.changes = d.changes) : Own own bs id T d' :=
  ⟨hf.trans h.file, by rw [hn]; exact h.now, by rw [hs]; exact h.sure, by rw [hn]; exact h.now1, by rw [hs]; exact h.sure1, by rw [hc]; exact h.chg⟩
theorem Own.changed (h : Own own bs id T d) {c : Ch} (h1 : c.file ≠ some id) (h2 : own ≠ c.src) (h3 : own ≠ c.dst) : Own own bs id T (changed d c) := by
  refine ⟨h.file, ?_, h.sure, fun l hl => ?_, h.sure1, fun x hx => ?_⟩
  · show turn1 d.now c own = _
    rw [turn1_off h2 h3]
    exact h.now
  · rcases turn1_some (f := d.now) (c := c) hl with h4 | h4
    · exact h.now1 l h4
    · exact absurd h4 h1
  · rcases List.mem_append.1 hx with hx | hx
    · exact h.chg x hx
    · rw [List.mem_singleton] at hx
      subst hx
      exact ⟨h1, h2, h3⟩
theorem turns_own : ∀ {cs : List Ch} {f : List UInt8 → Option Nat}, (∀ c ∈ cs, c.file ≠ some id ∧ own ≠ c.src ∧ own ≠ c.dst) → turns f cs own = f own ∧ ∀ l, turns f cs l = some id → f l = some id
  | [], f, _ => ⟨rfl, fun _ h => h⟩
  | c :: cs, f, h => by
    obtain ⟨h1, h2, h3⟩ := h c (by simp)
    obtain ⟨k1, k2⟩ := turns_own (cs := cs) (f := turn1 f c) fun x hx => h x (by simp [hx])
    refine ⟨k1.trans (turn1_off h2 h3), fun l hl => ?_⟩
    rcases turn1_some (k2 l hl) with h4 | h4
    · exact h4
    · exact absurd h4 h1
theorem Own.settled (h : Own own bs id T d) (n : Nat) : Own own bs id T (settled d n) := by
  obtain ⟨k1, k2⟩ := turns_own (id := id) (own := own) (cs := d.changes.take n) (f := d.sure) fun c hc => h.chg c (List.mem_of_mem_take hc)
  exact ⟨h.file, h.now, k1.trans h.sure, h.now1, fun l hl => h.sure1 l (k2 l hl), fun c hc => by cases hc⟩
theorem Own.back (h : Own own bs id T d) (n : Nat) : Own own bs id T (back d n) := by
  have k := h.settled n
  exact ⟨k.file, k.sure, k.sure, k.sure1, k.sure1, fun c hc => by cases hc⟩
theorem Own.lostAll (h : Own own bs id T d) (ts : List Int) (k : Nat) (ns : List (List UInt8)) : Own own bs id T (lostAll ts k ns d) := by
  obtain ⟨e1, e2, _, e4, e5⟩ := lostAll_whole (ts := ts) (i := id) ns k d (by rw [h.file])
  exact h.like e1 e2 e4 e5

theorem Own.spent (h : Own own bs id T d) : Own own bs id T (spent d) := h.like rfl rfl rfl rfl
theorem Own.write (h : Own own bs id T d) {s x : List UInt8} {i : Nat} (hi : ¬ Ref d i) (h0 : own ≠ []) (hs : own ≠ s) : Own own bs id T (written d s x i) := by
  have hne : id ≠ i := fun e => hi (e ▸ h.ref)
  refine Own.changed (d := setF (ticked d) i ⟨x, 0, d.clock⟩) (h.like (upd_other _ _ hne) rfl rfl rfl) ?_ h0 hs
  intro e
  exact hne (by cases e; rfl)
theorem Own.other (h : Own own bs id T d) {s : List UInt8} {i : Nat} (hi : d.now s = some i) (hs : own ≠ s) : id ≠ i := fun e => hs (h.now1 s (e ▸ hi)).symm

/-- a deed with other names -/
theorem own_deed {K what : Nat} {N : Int} {s t x : List UInt8} {n : Int} {d' : Ds} (h : Own own bs id T d) (h0 : own ≠ []) (hs : own ≠ s) (ht : own ≠ t) (hq : DeedR K what N s t x d n d') : Own own bs id T d' := by
  have key : ∀ {ns : List (List UInt8)} {Q : Int → Ds → Prop}, (Q n d' → Own own bs id T d') → DeedQ d ns Q n d' → Own own bs id T d' := by
    intro ns Q hQ hd
    rcases hd with ⟨_, _, rfl⟩ | ⟨_, _, _, rfl⟩ | ⟨_, _, _, _, rfl⟩ | ⟨_, _, _, hd⟩
    · exact h
    · exact h.like rfl rfl rfl rfl
    · exact h.spent
    · exact hQ hd
  have hw : ∀ {K M : Nat}, WriteQ K M (Ytdgfnhgkncfmpaa.spent d) s x n d' → Own own bs id T d' := by
    rintro K M ⟨⟨_, _, i, hi, rfl⟩ | ⟨_, rfl⟩, _⟩
    · exact h.spent.write hi h0 hs
    · exact h.spent
  have hon : ∀ {Q : Nat → Int → Ds → Prop}, (∀ i, d.now s = some i → id ≠ i → Q i n d' → Own own bs id T d') → OnQ (Ytdgfnhgkncfmpaa.spent d) s Q n d' → Own own bs id T d' := by
    rintro Q hQ (⟨_, _, rfl⟩ | ⟨i, hi, hq⟩)
    · exact h.spent
    · exact hQ i hi (h.other hi hs) hq
  match what, hq with
  | 0, hq => exact key hw hq
  | 1, hq =>
    refine key ?_ hq
    rintro (⟨_, hq⟩ | ⟨i, hi, ⟨_, _, rfl⟩ | ⟨_, rfl⟩, _⟩)
    · exact hw hq
    · exact h.spent.like (upd_other _ _ (h.other hi hs)) rfl rfl rfl
    · exact h.spent
  | 2, hq =>
    refine key (hon ?_) hq
    rintro i hi hne (⟨_, _, rfl⟩ | ⟨_, _, _, rfl⟩)
    · exact h.spent
    · exact h.spent.like (upd_other _ _ hne) rfl rfl rfl
  | 3, hq =>
    refine key (hon ?_) hq
    rintro i hi hne ⟨_, rfl⟩
    exact h.spent.changed (c := ⟨s, t, some i⟩) (fun e => hne (by cases e; rfl)) hs ht
  | 4, hq =>
    refine key (hon ?_) hq
    rintro i hi hne ⟨_, rfl⟩
    exact h.spent.changed (c := ⟨s, [], none⟩) (fun e => by cases e) hs h0
  | 5, hq =>
    refine key (hon ?_) hq
    rintro i hi hne ⟨_, rfl⟩
    exact h.spent.like (upd_other _ _ hne) rfl rfl rfl
  | k + 6, hq =>
    have hq' : DeedQ d [] (fun n d' => n = 0 ∧ d' = Ytdgfnhgkncfmpaa.settled (Ytdgfnhgkncfmpaa.spent d) (Ytdgfnhgkncfmpaa.spent d).changes.length) n d' := hq
    refine key ?_ hq'
    rintro ⟨_, rfl⟩
    exact h.spent.settled _
end Go.Proofs.Ytdgfnhgkncfmpaa
