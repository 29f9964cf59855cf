/-
  A LOG ON A DISK THAT IS UP; what is found behind a restart.
-/
import Derived.Test.YtfmelhcpccghdaaGreatRlLife
import Derived.Test.YtfmelhcpccghdaaGreatRlShrink
import Derived.Test.YtfmelhcpccghdaaGreatNoneW2
namespace Go.Proofs.YtfmelhcpccghdaaGreat.Rl
open Go.RowKit Go.Maps

variable {K M : Nat} {d d' : Ds} {nm sp : List UInt8} {k : UInt8} {rs o : List (List UInt8)} {s id : Nat} {n m : Int}

/-- up, and not armed -/
structure Al (d : Ds) : Prop where
  up : d.up = true
  left : d.left = -1
theorem Al.left0 (h : Al d) : d.left ≠ 0 := by rw [h.left]; decide
theorem one_right {l : List UInt8} (h : rightL l = true) : ∀ x ∈ [l], rightL x = true := by intro x hx; simp at hx; subst hx; exact h
theorem two_right {a b : List UInt8} (h : rightL a = true) (h' : rightL b = true) : ∀ x ∈ [a, b], rightL x = true := by
  intro x hx
  simp at hx
  rcases hx with rfl | rfl
  · exact h
  · exact h'
theorem al_write {l bs : List UInt8} (ha : Al d) (hr : rightL l = true) (hK : K + 2 ≤ 200) (hb : bs.length ≤ 65536) (hq : (K + 1) * 65536 + bs.length ≤ d.quota) (h : writeF K l bs d n d') : n = 0 ∧ Al d' := by
  have hQ := deed_runs h ha.up ha.left0 (one_right hr)
  have h0 := hQ.2 hb (by omega) hq
  refine ⟨h0, ?_⟩
  rcases hQ.1 with ⟨_, _, i, _, rfl⟩ | ⟨h3, _⟩
  · exact ⟨ha.up, spent_left ha.left⟩
  · omega
theorem al_append {l bs : List UInt8} {i : Nat} (ha : Al d) (hr : rightL l = true) (hi : d.now l = some i) (hK : K + 1 ≤ 200) (hb : (d.files i).bytes.length + bs.length ≤ 65536) (hq : K * 65536 + ((d.files i).bytes.length + bs.length) ≤ d.quota) (h : DeedQ d [l] (AppendQ K 65536 (spent d) l bs) n d') : n = 0 ∧ Al d' := by
  rcases deed_runs h ha.up ha.left0 (one_right hr) with ⟨h1, _⟩ | ⟨j, h1, h2, h3⟩
  · have h1' : d.now l = none := h1
    rw [hi] at h1'; cases h1'
  · have h1' : d.now l = some j := h1
    rw [hi] at h1'
    cases h1'
    have h0 := h3 hb hK hq
    refine ⟨h0, ?_⟩
    rcases h2 with ⟨_, _, rfl⟩ | ⟨h4, _⟩
    · exact ⟨ha.up, spent_left ha.left⟩
    · omega
theorem al_sync {l : List UInt8} {i : Nat} (ha : Al d) (hr : rightL l = true) (hi : d.now l = some i) (h : syncF l d n d') : n = 0 ∧ Al d' := by
  obtain ⟨h0, rfl⟩ := onQ_of (Q := fun i n d' => n = 0 ∧ d' = synced (spent d) i) (deed_runs h ha.up ha.left0 (one_right hr)) hi
  exact ⟨h0, ha.up, spent_left ha.left⟩
theorem al_rename {l l2 : List UInt8} {i : Nat} (ha : Al d) (hr : rightL l = true) (hr2 : rightL l2 = true) (hi : d.now l = some i) (h : renameF l l2 d n d') : n = 0 ∧ Al d' := by
  obtain ⟨h0, rfl⟩ := onQ_of (Q := fun i n d' => n = 0 ∧ d' = changed (spent d) ⟨l, l2, some i⟩) (deed_runs h ha.up ha.left0 (two_right hr hr2)) hi
  exact ⟨h0, ha.up, spent_left ha.left⟩
theorem al_dir (ha : Al d) (h : dirF d n d') : n = 0 ∧ Al d' ∧ d' = settled (spent d) (spent d).changes.length := by
  obtain ⟨h0, rfl⟩ := deed_runs h ha.up ha.left0 (by intro x hx; cases hx)
  exact ⟨h0, ⟨ha.up, spent_left ha.left⟩, rfl⟩

theorem sync_ok2 (ha : Al d) (hr : rightL nm = true) (h : Lv nm sp k rs s d id) (hq : TurnQ (syncTF nm) 2 d m d') : m = 0 ∧ Al d' := by
  have r1 : ∀ c, Ran (syncTF nm) d 1 c → Al c := by
    rintro c ⟨_, rfl, h1⟩
    exact (al_sync ha hr h.now h1).2
  rcases hq with ⟨hm, c, hc, h2⟩ | ⟨hm, j, c, hj, hc, h1⟩
  · exact ⟨hm, (al_dir (r1 c hc) h2).2.1⟩
  · exfalso
    have h4 : j = 0 ∨ j = 1 := by omega
    rcases h4 with rfl | rfl
    · rw [show c = d from hc] at h1
      exact hm (al_sync ha hr h.now h1).1
    · exact hm (al_dir (r1 c hc) h1).1
/-- the same of a file that is only known to be there -/
theorem sync_opd (hO : Opd nm sp k rs d id) (hr : rightL nm = true) (hq : TurnQ (syncTF nm) 2 d m d') : m = 0 ∧ Al d' ∧ Lv nm sp k rs rs.length d' id := by
  have ha : Al d := ⟨hO.up, hO.left⟩
  have hs : ∀ c, syncF nm d 0 c → c = synced (spent d) id := fun c h => (onQ_of (Q := fun i n d' => n = 0 ∧ d' = synced (spent d) i) (deed_runs h ha.up ha.left0 (one_right hr)) hO.now).2
  have r1 : ∀ c, Ran (syncTF nm) d 1 c → Al c ∧ c = synced (spent d) id := by
    rintro c ⟨_, rfl, h1⟩
    exact ⟨(al_sync ha hr hO.now h1).2, hs c h1⟩
  rcases hq with ⟨hm, c, hc, h2⟩ | ⟨hm, j, c, hj, hc, h1⟩
  · obtain ⟨hc1, rfl⟩ := r1 c hc
    obtain ⟨_, hal, rfl⟩ := al_dir hc1 h2
    have hF : Full k rs ((synced (spent d) id).files id) := by rw [synced_file]; exact ⟨hO.bytes, rfl⟩
    exact ⟨hm, hal, settled_lv hO.eq hO.now hO.spare hF hO.short hO.two⟩
  · exfalso
    have h4 : j = 0 ∨ j = 1 := by omega
    rcases h4 with rfl | rfl
    · rw [show c = d from hc] at h1
      exact hm (al_sync ha hr hO.now h1).1
    · exact hm (al_dir (r1 c hc).1 h1).1

theorem rew_ok (ha : Al d) (h : Lv nm (newN nm) k rs s d id) (ho : Shorts o) (h0 : nm ≠ []) (hne : nm ≠ newN nm) (hr : rightL nm = true) (hr2 : rightL (newN nm) = true) (hK : K + 2 ≤ 200) (hb : (body k o).length ≤ 65536) (hq0 : (K + 1) * 65536 + (body k o).length ≤ d.quota)
    (hq : TurnQ (rewTF K nm (body k o)) 4 d m d') : m = 0 ∧ Al d' ∧ d'.changes = [] := by
  have r1 : ∀ c, Ran (rewTF K nm (body k o)) d 1 c → Al c ∧ ∃ i, Md nm (newN nm) k rs s o c i ∧ c.changes.length ≤ 2 := by
    rintro c ⟨_, rfl, h1⟩
    refine ⟨(al_write ha hr2 hK hb hq0 h1).2, ?_⟩
    rcases rew_write h ho h0 hne h1 with ⟨_, h2⟩ | ⟨h2, _⟩
    · exact h2
    · exact absurd rfl h2
  have r2 : ∀ c, Ran (rewTF K nm (body k o)) d 2 c → Al c ∧ ∃ i, Md nm (newN nm) k rs s o c i := by
    rintro c ⟨c1, hc1, h1⟩
    obtain ⟨ha1, i, hM, h2⟩ := r1 c1 hc1
    refine ⟨(al_sync ha1 hr2 hM.spare h1).2, ?_⟩
    rcases rew_sync hM h2 h1 with ⟨_, h3⟩ | ⟨h3, _⟩
    · exact ⟨i, h3.1⟩
    · exact absurd rfl h3
  have r3 : ∀ c, Ran (rewTF K nm (body k o)) d 3 c → Al c := by
    rintro c ⟨c1, hc1, h1⟩
    obtain ⟨ha1, i, hM⟩ := r2 c1 hc1
    exact (al_rename ha1 hr2 hr hM.spare h1).2
  rcases hq with ⟨hm, c, hc, h1⟩ | ⟨hm, j, c, hj, hc, h1⟩
  · obtain ⟨_, hal, rfl⟩ := al_dir (r3 c hc) h1
    exact ⟨hm, hal, rfl⟩
  · exfalso
    have h4 : j = 0 ∨ j = 1 ∨ j = 2 ∨ j = 3 := by omega
    rcases h4 with rfl | rfl | rfl | rfl
    · rw [show c = d from hc] at h1
      exact hm (al_write ha hr2 hK hb hq0 h1).1
    · obtain ⟨ha1, i, hM, _⟩ := r1 c hc
      exact hm (al_sync ha1 hr2 hM.spare h1).1
    · obtain ⟨ha1, i, hM⟩ := r2 c hc
      exact hm (al_rename ha1 hr2 hr hM.spare h1).1
    · exact hm (al_dir (r3 c hc) h1).1

/-- the first opening -/
theorem open_new {q : Nat} (hne : nm ≠ sp) (h0 : sp ≠ []) (hr : rightL nm = true) (hK : K + 2 ≤ 200) (hq : (K + 1) * 65536 + 8 ≤ q) (h : openF K nm sp k (newD q) n d' rs) : n = 0 ∧ rs = [] ∧ Al d' ∧ ∃ id, Lv nm sp k [] 0 d' id := by
  have hd : ∀ n e, dropF sp (newD q) n e → n = 0 ∧ e = newD q := fun n e h => by
    rcases h with ⟨_, _, h1, h2⟩ | ⟨h1, _⟩
    · exact ⟨h1, h2⟩
    · exact absurd ⟨rfl, rfl⟩ h1
  rcases h with ⟨h1, h2⟩ | ⟨d1, h1, h2, h3⟩
  · exact absurd (hd _ _ h2).1 h1
  · obtain ⟨_, rfl⟩ := hd _ _ h1
    have hb : bytesOf (newD q) nm = [] := rfl
    rw [hb] at h3
    have hsc := scan_short (okHead_nil k) (show ([] : List UInt8).length < 8 by simp)
    have hw : writeF K nm (head k) (newD q) n d' := by
      rcases h2 with ⟨h1, _⟩ | ⟨_, h⟩
      · cases h1
      rw [hb, hsc.2.1, hsc.2.2] at h
      rcases h with ⟨h1, _⟩ | ⟨_, _, h1⟩ | ⟨_, h1, _⟩ | ⟨_, h1, _⟩
      · exact absurd rfl h1
      · exact h1
      · exact absurd rfl h1
      · exact absurd rfl h1
    have ha : Al (newD q) := ⟨rfl, rfl⟩
    obtain ⟨hn, hal⟩ := al_write ha hr hK (by rw [head_length]; omega) (by rw [head_length]; exact hq) hw
    have hQ := deed_runs hw ha.up ha.left0 (one_right hr)
    rcases hQ.1 with ⟨_, _, i, hi, rfl⟩ | ⟨h5, _⟩
    · have hf : (written (spent (newD q)) nm (head k) i).files i = ⟨head k, 0, 1⟩ := upd_same _ _ _
      have hbd : head k = body k [] := by rw [body, all_nil, List.append_nil]
      refine ⟨hn, by rw [h3 hn, hsc.1], hal, i, ⟨rfl, turn1_dst (f := fun _ => none) (c := ⟨[], nm, some i⟩) rfl, ?_, ⟨by rw [hf]; exact hbd, .inl rfl⟩, Nat.le_refl _, (fun r hr => by cases hr), fun n => ?_, fun n => ?_, Nat.le_refl _⟩⟩
      · show turn1 (fun _ => none) ⟨[], nm, some i⟩ sp = none
        rw [turn1_off h0 (fun e => hne e.symm)]
      · cases n with
        | zero => exact .inr ⟨rfl, rfl⟩
        | succ n =>
          left
          show turns (fun _ => none) ([(⟨[], nm, some i⟩ : Ch)].take (n + 1)) nm = some i
          rw [List.take_of_length_le (by simp)]
          exact turn1_dst (f := fun _ => none) (c := ⟨[], nm, some i⟩) rfl
      · cases n with
        | zero => intro l hl; exact absurd rfl hl
        | succ n =>
          show Two nm sp (turns (fun _ => none) ([(⟨[], nm, some i⟩ : Ch)].take (n + 1)))
          rw [List.take_of_length_le (by simp)]
          exact Two.turn1 (f := fun _ => none) (c := ⟨[], nm, some i⟩) (fun l hl => absurd rfl hl) (.inl rfl)
    · omega

/-- what is found -/
theorem Fnd.rdy (h : Fnd nm sp k rs s o d) : Rdy nm sp d := by
  have hl : ∀ n, lead d n = d.now := fun n => by unfold lead; rw [h.noCh, List.take_nil, h.eq]; rfl
  exact ⟨h.up, h.left, by rw [h.noCh, h.eq]; rfl, fun n => by rw [hl]; exact h.two, by rw [h.noCh]; exact Nat.zero_le _⟩
theorem fnd_recs (h : Fnd nm sp k rs s o d) : okHead k (bytesOf d nm) ∧ ((∃ t, s ≤ t ∧ t ≤ rs.length ∧ scanRecs k (bytesOf d nm) = rs.take t) ∨ scanRecs k (bytesOf d nm) = o) := by
  rcases h.has with ⟨h1, h2⟩ | ⟨i, h1, h2⟩
  · have hb : bytesOf d nm = [] := by unfold bytesOf; rw [h1]
    rw [hb]
    refine ⟨okHead_nil k, .inl ⟨0, by omega, Nat.zero_le _, ?_⟩⟩
    rw [(scan_short (okHead_nil k) (by simp)).1]
    rfl
  · have hb : bytesOf d nm = (d.files i).bytes := by unfold bytesOf; rw [h1]
    rw [hb]
    rcases h2 with ⟨m, h3, h4⟩ | h3
    · rw [h3]
      have ho := okHead_body k rs m
      refine ⟨ho, .inl ?_⟩
      obtain ⟨t, h5, h6, h7⟩ := got_cut (k := k) h.short.1 m
      refine ⟨t, h7 s h.le h4, h5, ?_⟩
      unfold scanRecs
      rw [if_pos ho, h6]
    · rw [h3]
      have ho : okHead k (body k o) := by have := okHead_body k o (body k o).length; rwa [List.take_length] at this
      refine ⟨ho, .inr ?_⟩
      unfold scanRecs
      rw [if_pos ho, got_body h.short.2]

/-- opening where the file is whole and the disk may be armed -/
theorem whole_load (hb : bytesOf d nm = body k rs) (hs : Shorts rs) (h : loadF K nm k d n d') : d' = d := by
  have ho : okHead k (body k rs) := by have := okHead_body k rs (body k rs).length; rwa [List.take_length] at this
  have he : scanErr k (body k rs) = 0 := by unfold scanErr; rw [if_pos ho]
  have hn : scanEnd k (body k rs) = (body k rs).length := by
    unfold scanEnd
    rw [if_pos ⟨ho, by rw [body_length]; omega⟩, got_body hs, body_length]
  rcases h with ⟨_, _, h⟩ | ⟨_, h⟩
  · exact h
  rw [hb, he, hn] at h
  rcases h with ⟨h1, _⟩ | ⟨_, h1, _⟩ | ⟨_, _, h1, _⟩ | ⟨_, _, _, _, h1⟩
  · exact absurd rfl h1
  · rw [body_length] at h1; omega
  · exact absurd h1 (Nat.lt_irrefl _)
  · exact h1
theorem my_drop (h : My nm sp k rs s o d) (h2 : d.changes.length ≤ 2) (hne : nm ≠ sp) (hb : bytesOf d nm = body k rs) (hq : dropF sp d n d') : My nm sp k rs s o d' ∧ bytesOf d' nm = body k rs := by
  rcases hq with ⟨_, _, _, rfl⟩ | ⟨_, hq⟩
  · exact ⟨h, hb⟩
  · rcases deed_like hq with ⟨_, hl⟩ | ⟨_, _, hq⟩
    · exact ⟨h.like hl, by unfold bytesOf; rw [hl.now, hl.files]; exact hb⟩
    · rcases hq with ⟨_, _, rfl⟩ | ⟨i, _, _, rfl⟩
      · exact ⟨h.like (like_spent d), hb⟩
      · have hled := fun n => lead_changed (spent d) ⟨sp, [], none⟩ n
        refine ⟨⟨fun n => ?_, fun n => ?_, ?_, h.le, h.short⟩, ?_⟩
        · rcases hled n with e | e
          · rw [e]; exact h.led n
          · rw [e, turn1_none rfl]
            have h5 := h.led d.changes.length
            rw [lead_all] at h5
            have h6 : upd (turns (spent d).sure (spent d).changes) sp none nm = turns d.sure d.changes nm := upd_other _ _ hne
            rw [show (upd (turns (spent d).sure (spent d).changes) (⟨sp, [], none⟩ : Ch).src none) nm = turns d.sure d.changes nm from h6]
            exact h5
        · rcases hled n with e | e
          · rw [e]; exact h.two n
          · rw [e]
            refine Two.turn1 ?_ (.inr (.inr rfl))
            have := h.two d.changes.length
            rw [lead_all] at this
            exact this
        · show (d.changes ++ [(⟨sp, [], none⟩ : Ch)]).length ≤ 3
          simp; omega
        · unfold bytesOf at hb ⊢
          rw [show (changed (spent d) ⟨sp, [], none⟩).now nm = d.now nm from by show turn1 d.now ⟨sp, [], none⟩ nm = _; rw [turn1_none rfl]; exact upd_other _ _ hne]
          exact hb
theorem my_open (h : My nm sp k rs s o d) (h2 : d.changes.length ≤ 2) (hne : nm ≠ sp) (hb : bytesOf d nm = body k rs) {rs' : List (List UInt8)} (hq : openF K nm sp k d n d' rs') : My nm sp k rs s o d' := by
  rcases hq with ⟨_, hq⟩ | ⟨d1, hq, hl, _⟩
  · exact (my_drop h h2 hne hb hq).1
  · obtain ⟨h3, h4⟩ := my_drop h h2 hne hb hq
    rw [whole_load h4 h.short.1 hl]
    exact h3

theorem lv_shrink {X : Nat → Prop} {w : World} {p : Nat} (h : Dk X K w p d) (hL : Lv nm sp k rs s d id) (hc : d.clock ≤ 6001) (hd : d.deeds ≤ 6000) : Dk X 6 w p d := by
  have h1 : lead d 0 = d.sure := by unfold lead; rw [List.take_zero]; rfl
  have h2 := hL.two d.changes.length
  rw [lead_all, ← hL.eq] at h2
  exact shrink h h2 (h1 ▸ hL.two 0) (by have := hL.few; omega) (Nat.le_refl _) hc hd
theorem fnd_shrink {X : Nat → Prop} {w : World} {p : Nat} (h : Dk X K w p d) (hF : Fnd nm sp k rs s o d) (hc : d.clock ≤ 6001) (hd : d.deeds ≤ 6000) : Dk X 6 w p d :=
  shrink h hF.two (hF.eq ▸ hF.two) (by rw [hF.noCh]; exact Nat.zero_le _) (Nat.le_refl _) hc hd
/-- a spare file that was left, and made sure -/
theorem after_spare {bs : List UInt8} {j : Nat} (hL : Lv nm sp k rs rs.length d id) (h0 : nm ≠ []) (hne : nm ≠ sp) (hj : ¬ Ref (spent d) j) :
    My nm sp k rs rs.length rs (settled (spent (written (spent d) sp bs j)) (spent (written (spent d) sp bs j)).changes.length) ∧ bytesOf (settled (spent (written (spent d) sp bs j)) (spent (written (spent d) sp bs j)).changes.length) nm = body k rs := by
  obtain ⟨e, he⟩ : ∃ e, written (spent d) sp bs j = e := ⟨_, rfl⟩
  have e1 : e.sure = d.sure := by rw [← he]; rfl
  have e2 : e.changes = d.changes ++ [⟨[], sp, some j⟩] := by rw [← he]; rfl
  have e3 : e.files = upd d.files j ⟨bs, 0, d.clock⟩ := by rw [← he]; rfl
  have e4 : e.now = turn1 d.now ⟨[], sp, some j⟩ := by rw [← he]; rfl
  rw [he]
  have hl : ∀ n, lead (settled (spent e) (spent e).changes.length) n = turn1 d.now ⟨[], sp, some j⟩ := fun n => by
    rw [lead_settled]
    show turns e.sure (e.changes.take e.changes.length) = _
    rw [List.take_length, e1, e2, turns_snoc, ← hL.eq]
  have hn : turn1 d.now ⟨[], sp, some j⟩ nm = some id := by rw [turn1_off h0 hne]; exact hL.now
  have hij : id ≠ j := fun x => hj (by rw [← x]; exact ref_now (d := spent d) hL.now)
  have hf : (settled (spent e) (spent e).changes.length).files id = d.files id := by
    show e.files id = _
    rw [e3]
    exact upd_other _ _ hij
  refine ⟨⟨fun n => .inr ⟨id, by rw [hl]; exact hn, .inl (by rw [hf]; exact hL.part)⟩, fun n => ?_, Nat.zero_le _, Nat.le_refl _, hL.short, hL.short⟩, ?_⟩
  · rw [hl]
    refine Two.turn1 ?_ (.inr (.inl rfl))
    have h2 := hL.two d.changes.length
    rw [lead_all, ← hL.eq] at h2
    exact h2
  · unfold bytesOf
    rw [show (settled (spent e) (spent e).changes.length).now nm = some id from by show e.now nm = _; rw [e4]; exact hn]
    show ((settled (spent e) (spent e).changes.length).files id).bytes = _
    rw [hf]
    exact hL.part.bytes
end Go.Proofs.YtfmelhcpccghdaaGreat.Rl
