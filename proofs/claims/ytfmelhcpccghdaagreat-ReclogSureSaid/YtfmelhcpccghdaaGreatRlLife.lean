/-
  A LOG'S DEEDS, AS ITS STATE TELLS THEM: what is appended, synced, rewritten, and opened anew.
-/
import Derived.Test.YtfmelhcpccghdaaGreatRlRew
namespace Go.Proofs.YtfmelhcpccghdaaGreat.Rl
open Go.RowKit Go.Maps

variable {K M : Nat} {d d' : Ds} {nm sp : List UInt8} {k : UInt8} {rs o : List (List UInt8)} {s id : Nat} {n m : Int}

/-- few numbers have turned -/
structure Nr (a : Nat) (d d' : Ds) : Prop where
  quota : d'.quota = d.quota
  clock : d'.clock ≤ d.clock + a
  deeds : d'.deeds ≤ d.deeds + a
theorem Nr.trans {a b : Nat} {c : Ds} (h : Nr a d c) (k : Nr b c d') : Nr (a + b) d d' := ⟨k.quota.trans h.quota, by have := h.clock; have := k.clock; omega, by have := h.deeds; have := k.deeds; omega⟩
theorem Nr.refl (d : Ds) : Nr 0 d d := ⟨rfl, Nat.le_refl _, Nat.le_refl _⟩
theorem Nr.mono {a b : Nat} (h : Nr a d d') (hab : a ≤ b) : Nr b d d' := ⟨h.quota, by have := h.clock; omega, by have := h.deeds; omega⟩
theorem nr_spent (d : Ds) : Nr 1 d (spent d) := ⟨rfl, Nat.le_succ _, Nat.le_refl _⟩
theorem deed_nr {ns : List (List UInt8)} {Q : Int → Ds → Prop} (h : DeedQ d ns Q n d') (hQ : ∀ n e, Q n e → Nr 1 d e) : Nr 1 d d' := by
  rcases deed_like h with ⟨_, hl⟩ | ⟨_, _, hq⟩
  · exact ⟨hl.quota, by have := hl.clock; omega, hl.deeds⟩
  · exact hQ _ _ hq
theorem on_nr {l : List UInt8} {Q : Nat → Int → Ds → Prop} (hQ : ∀ i n e, Q i n e → Nr 1 d e) : ∀ n e, OnQ (spent d) l Q n e → Nr 1 d e := fun n e h => by
  rcases h with ⟨_, _, rfl⟩ | ⟨i, _, hq⟩
  · exact nr_spent d
  · exact hQ i n e hq
theorem write_nr {l bs : List UInt8} : ∀ n e, WriteQ K M (spent d) l bs n e → Nr 1 d e := fun n e h => by
  rcases h.1 with ⟨_, _, i, _, rfl⟩ | ⟨_, rfl⟩
  · exact ⟨rfl, Nat.le_refl _, Nat.le_refl _⟩
  · exact nr_spent d
theorem app_nr {l bs : List UInt8} : ∀ n e, AppendQ K M (spent d) l bs n e → Nr 1 d e := fun n e h => by
  rcases h with ⟨_, h⟩ | ⟨i, _, h, _⟩
  · exact write_nr n e h
  · rcases h with ⟨_, _, rfl⟩ | ⟨_, rfl⟩
    · exact ⟨rfl, Nat.le_refl _, Nat.le_refl _⟩
    · exact nr_spent d
theorem syncF_nr {l : List UInt8} (h : syncF l d n d') : Nr 1 d d' := deed_nr h (on_nr fun i n e ⟨_, h⟩ => by subst h; exact ⟨rfl, Nat.le_succ _, Nat.le_refl _⟩)
theorem dirF_nr (h : dirF d n d') : Nr 1 d d' := deed_nr h fun n e ⟨_, h⟩ => by subst h; exact ⟨rfl, Nat.le_succ _, Nat.le_refl _⟩
theorem writeF_nr {l bs : List UInt8} (h : writeF K l bs d n d') : Nr 1 d d' := deed_nr h write_nr
theorem renameF_nr {a b : List UInt8} (h : renameF a b d n d') : Nr 1 d d' := deed_nr h (on_nr fun i n e ⟨_, h⟩ => by subst h; exact ⟨rfl, Nat.le_succ _, Nat.le_refl _⟩)
theorem removeF_nr {a : List UInt8} (h : removeF a d n d') : Nr 1 d d' := deed_nr h (on_nr fun i n e ⟨_, h⟩ => by subst h; exact ⟨rfl, Nat.le_succ _, Nat.le_refl _⟩)
theorem cutF_nr {a : List UInt8} {z : Int} (h : cutDF a z d n d') : Nr 1 d d' := deed_nr h (on_nr fun i n e h => by
  rcases h with ⟨_, _, rfl⟩ | ⟨_, _, _, rfl⟩
  · exact nr_spent d
  · exact ⟨rfl, Nat.le_refl _, Nat.le_refl _⟩)
theorem ran_nr {Q : Nat → Ds → Int → Ds → Prop} (hQ : ∀ j c m e, Q j c m e → Nr 1 c e) : ∀ {j : Nat} {e : Ds}, Ran Q d j e → Nr j d e
  | 0, e, h => by rw [show e = d from h]; exact Nr.refl d
  | j + 1, e, ⟨c, hc, hq⟩ => (ran_nr hQ hc).trans (hQ _ _ _ _ hq)
theorem turn_nr {Q : Nat → Ds → Int → Ds → Prop} (hQ : ∀ j c m e, Q j c m e → Nr 1 c e) {n : Nat} (h : TurnQ Q n d m d') : Nr n d d' := by
  rcases h with ⟨_, hr⟩ | ⟨_, j, c, hj, hr, hq⟩
  · exact ran_nr hQ hr
  · exact ((ran_nr hQ hr).trans (hQ _ _ _ _ hq)).mono (by omega)
theorem syncT_nr (h : TurnQ (syncTF nm) 2 d m d') : Nr 2 d d' := turn_nr (fun j c m e h => by
  unfold syncTF at h
  split at h
  · exact syncF_nr h
  · exact dirF_nr h) h
theorem rewT_nr {bs : List UInt8} (h : TurnQ (rewTF K nm bs) 4 d m d') : Nr 4 d d' := turn_nr (fun j c m e h => by
  unfold rewTF at h
  split at h
  · exact writeF_nr h
  · split at h
    · exact syncF_nr h
    · split at h
      · exact renameF_nr h
      · exact dirF_nr h) h
theorem openF_nr (h : openF K nm sp k d n d' rs) : Nr 2 d d' := by
  have hd : ∀ n e, dropF sp d n e → Nr 1 d e := fun n e h => by
    rcases h with ⟨_, _, _, rfl⟩ | ⟨_, h⟩
    · exact (Nr.refl _).mono (by omega)
    · exact removeF_nr h
  rcases h with ⟨_, h⟩ | ⟨c, h1, h2, _⟩
  · exact (hd _ _ h).mono (by omega)
  · refine Nr.trans (a := 1) (b := 1) (hd _ _ h1) ?_
    rcases h2 with ⟨_, _, rfl⟩ | ⟨_, h | ⟨_, _, h⟩ | ⟨_, _, _, h⟩ | ⟨_, _, _, _, rfl⟩⟩
    · exact (Nr.refl _).mono (by omega)
    · rw [h.2.2]; exact (Nr.refl _).mono (by omega)
    · exact writeF_nr h
    · exact cutF_nr h
    · exact (Nr.refl _).mono (by omega)

theorem lv_append {r : List UInt8} (h : Lv nm sp k rs s d id) (hr : r.length ≤ 4096) (hq : DeedQ d [nm] (AppendQ K M (spent d) nm (frame r)) n d') : (n = 0 ∧ Lv nm sp k (rs ++ [r]) s d' id) ∨ (n ≠ 0 ∧ Lv nm sp k rs s d' id) := by
  rcases deed_like hq with ⟨hn, hl⟩ | ⟨_, _, hq⟩
  · exact .inr ⟨hn, h.like hl⟩
  · rcases hq with ⟨h1, _⟩ | ⟨i, h1, h2, _⟩
    · have : d.now nm = none := h1
      rw [h.now] at this; cases this
    · have h1' : d.now nm = some i := h1
      rw [h.now] at h1'
      cases h1'
      rcases h2 with ⟨hn, _, rfl⟩ | ⟨hn, rfl⟩
      · exact .inl ⟨hn, h.append hr⟩
      · exact .inr ⟨by omega, h.like (like_spent d)⟩

theorem sync_like (h : Lv nm sp k rs s d id) (hq : syncF nm d n d') : (n = 0 ∧ d' = synced (spent d) id) ∨ (n ≠ 0 ∧ Like d d') := by
  rcases deed_like hq with ⟨hn, hl⟩ | ⟨_, _, hq⟩
  · exact .inr ⟨hn, hl⟩
  · exact .inl (onQ_of hq h.now)
theorem dir_like (hq : dirF d n d') : (n = 0 ∧ d' = settled (spent d) (spent d).changes.length) ∨ (n ≠ 0 ∧ Like d d') := by
  rcases deed_like hq with ⟨hn, hl⟩ | ⟨_, _, hq⟩
  · exact .inr ⟨hn, hl⟩
  · exact .inl hq
theorem lv_sync (h : Lv nm sp k rs s d id) (hq : TurnQ (syncTF nm) 2 d m d') : (m = 0 ∧ Lv nm sp k rs rs.length d' id) ∨ (m ≠ 0 ∧ Lv nm sp k rs s d' id) := by
  rcases hq with ⟨hm, c, ⟨_, rfl, h1⟩, h2⟩ | ⟨hm, j, c, hj, hr, h1⟩
  · rcases sync_like h h1 with ⟨_, rfl⟩ | ⟨h0, _⟩
    · rcases dir_like h2 with ⟨_, rfl⟩ | ⟨h0, _⟩
      · obtain ⟨hL, hF⟩ := h.synced
        exact .inl ⟨hm, settled_lv hL.eq hL.now hL.spare hF hL.short hL.two⟩
      · exact absurd rfl h0
    · exact absurd rfl h0
  · match j, hj with
    | 0, _ =>
      rw [show c = d from hr] at h1
      rcases sync_like h h1 with ⟨h0, _⟩ | ⟨_, hl⟩
      · exact absurd h0 hm
      · exact .inr ⟨hm, h.like hl⟩
    | 1, _ =>
      obtain ⟨_, rfl, h2⟩ := hr
      rcases sync_like h h2 with ⟨_, rfl⟩ | ⟨h0, _⟩
      · rcases dir_like h1 with ⟨h0, _⟩ | ⟨_, hl⟩
        · exact absurd h0 hm
        · exact .inr ⟨hm, h.synced.1.like hl⟩
      · exact absurd rfl h0

/-- the deeds of a rewriting, one by one -/
theorem rew_write (h : Lv nm (newN nm) k rs s d id) (ho : Shorts o) (h0 : nm ≠ []) (hne : nm ≠ newN nm) (hq : writeF K (newN nm) (body k o) d n d') : (n = 0 ∧ ∃ i, Md nm (newN nm) k rs s o d' i ∧ d'.changes.length ≤ 2) ∨ (n ≠ 0 ∧ My nm (newN nm) k rs s o d') := by
  rcases deed_like hq with ⟨hn, hl⟩ | ⟨_, _, hq⟩
  · exact .inr ⟨hn, (h.my ho).like hl⟩
  · rcases hq.1 with ⟨hn, _, i, hi, rfl⟩ | ⟨hn, rfl⟩
    · exact .inl ⟨hn, i, h.write ho hi hne h0⟩
    · exact .inr ⟨by omega, (h.my ho).like (like_spent d)⟩
theorem rew_sync {i : Nat} (h : Md nm (newN nm) k rs s o d i) (h2 : d.changes.length ≤ 2) (hq : syncF (newN nm) d n d') : (n = 0 ∧ Md nm (newN nm) k rs s o d' i ∧ Full k o (d'.files i) ∧ d'.changes.length ≤ 2) ∨ (n ≠ 0 ∧ My nm (newN nm) k rs s o d') := by
  rcases deed_like hq with ⟨hn, hl⟩ | ⟨_, _, hq⟩
  · exact .inr ⟨hn, h.my.like hl⟩
  · obtain ⟨hn, rfl⟩ := onQ_of (Q := fun i n d' => n = 0 ∧ d' = synced (spent d) i) hq h.spare
    exact .inl ⟨hn, h.sync.1, h.sync.2, h2⟩
theorem rew_rename {i : Nat} (h : Md nm (newN nm) k rs s o d i) (hF : Full k o (d.files i)) (h2 : d.changes.length ≤ 2) (hne : nm ≠ newN nm) (hq : renameF (newN nm) nm d n d') :
    (n = 0 ∧ My nm (newN nm) k rs s o d' ∧ d'.now = turns d'.sure d'.changes ∧ d'.now nm = some i ∧ d'.now (newN nm) = none ∧ Full k o (d'.files i)) ∨ (n ≠ 0 ∧ My nm (newN nm) k rs s o d') := by
  rcases deed_like hq with ⟨hn, hl⟩ | ⟨_, _, hq⟩
  · exact .inr ⟨hn, h.my.like hl⟩
  · obtain ⟨hn, rfl⟩ := onQ_of (Q := fun i n d' => n = 0 ∧ d' = changed (spent d) ⟨newN nm, nm, some i⟩) hq h.spare
    exact .inl ⟨hn, h.rename hF h2 hne⟩
theorem lv_rewrite (h : Lv nm (newN nm) k rs s d id) (ho : Shorts o) (h0 : nm ≠ []) (hne : nm ≠ newN nm) (hq : TurnQ (rewTF K nm (body k o)) 4 d m d') : (m = 0 ∧ ∃ i, Lv nm (newN nm) k o o.length d' i) ∨ (m ≠ 0 ∧ My nm (newN nm) k rs s o d') := by
  have r1 : ∀ c, Ran (rewTF K nm (body k o)) d 1 c → ∃ i, Md nm (newN nm) k rs s o c i ∧ c.changes.length ≤ 2 := by
    rintro c ⟨_, rfl, h1⟩
    rcases rew_write h ho h0 hne h1 with ⟨_, h2⟩ | ⟨h2, _⟩
    · exact h2
    · exact absurd rfl h2
  have r2 : ∀ c, Ran (rewTF K nm (body k o)) d 2 c → ∃ i, Md nm (newN nm) k rs s o c i ∧ Full k o (c.files i) ∧ c.changes.length ≤ 2 := by
    rintro c ⟨c1, hc1, h1⟩
    obtain ⟨i, hM, h2⟩ := r1 c1 hc1
    rcases rew_sync hM h2 h1 with ⟨_, h3⟩ | ⟨h3, _⟩
    · exact ⟨i, h3⟩
    · exact absurd rfl h3
  have r3 : ∀ c, Ran (rewTF K nm (body k o)) d 3 c → ∃ i, My nm (newN nm) k rs s o c ∧ c.now = turns c.sure c.changes ∧ c.now nm = some i ∧ c.now (newN nm) = none ∧ Full k o (c.files i) := by
    rintro c ⟨c1, hc1, h1⟩
    obtain ⟨i, hM, hF, h2⟩ := r2 c1 hc1
    rcases rew_rename hM hF h2 hne h1 with ⟨_, h3⟩ | ⟨h3, _⟩
    · exact ⟨i, h3⟩
    · exact absurd rfl h3
  rcases hq with ⟨hm, c, hr, h1⟩ | ⟨hm, j, c, hj, hr, h1⟩
  · obtain ⟨i, hMy, e1, e2, e3, hF⟩ := r3 c hr
    rcases dir_like h1 with ⟨_, rfl⟩ | ⟨h2, _⟩
    · exact .inl ⟨hm, i, settled_lv e1 e2 e3 hF ho hMy.two⟩
    · exact absurd rfl h2
  · right
    refine ⟨hm, ?_⟩
    have h4 : j = 0 ∨ j = 1 ∨ j = 2 ∨ j = 3 := by omega
    rcases h4 with rfl | rfl | rfl | rfl
    · rw [show c = d from hr] at h1
      rcases rew_write h ho h0 hne h1 with ⟨h2, _⟩ | ⟨_, h2⟩
      · exact absurd h2 hm
      · exact h2
    · obtain ⟨i, hM, h2⟩ := r1 c hr
      rcases rew_sync hM h2 h1 with ⟨h3, _⟩ | ⟨_, h3⟩
      · exact absurd h3 hm
      · exact h3
    · obtain ⟨i, hM, hF, h2⟩ := r2 c hr
      rcases rew_rename hM hF h2 hne h1 with ⟨h3, _⟩ | ⟨_, h3⟩
      · exact absurd h3 hm
      · exact h3
    · obtain ⟨i, hMy, e1, e2, e3, hF⟩ := r3 c hr
      rcases dir_like h1 with ⟨h2, _⟩ | ⟨_, hl⟩
      · exact absurd h2 hm
      · exact hMy.like hl
end Go.Proofs.YtfmelhcpccghdaaGreat.Rl
