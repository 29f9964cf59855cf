/-
  A LOG ON A DISK: where its name leads to, whatever part of the changes is kept, and what of it is there.
-/
import Derived.Test.YtfmelhcpccghdaaGreatLog
import Derived.Test.YtfmelhcpccghdaaGreatLed
namespace Go.Proofs.YtfmelhcpccghdaaGreat.Rl
open Go.Proofs.YtfmelhcpccghdaaGreat

variable {d d' : Ds} {nm sp : List UInt8} {k : UInt8} {rs o : List (List UInt8)} {s id : Nat}

def body (k : UInt8) (rs : List (List UInt8)) : List UInt8 := head k ++ all rs
theorem body_length (k : UInt8) (rs : List (List UInt8)) : (body k rs).length = 8 + (all rs).length := by rw [body, List.length_append, head_length]
theorem body_snoc (k : UInt8) (rs : List (List UInt8)) (r : List UInt8) : body k (rs ++ [r]) = body k rs ++ frame r := by rw [body, body, all_append, all_one, List.append_assoc]

/-- a file that has these records, the first s of them sure -/
structure Part (k : UInt8) (rs : List (List UInt8)) (s : Nat) (f : Fl) : Prop where
  bytes : f.bytes = body k rs
  sure : s = 0 ∨ 8 + (all (rs.take s)).length ≤ f.sure
/-- a file that has these records, all sure -/
def Full (k : UInt8) (o : List (List UInt8)) (f : Fl) : Prop := f.bytes = body k o ∧ f.sure = f.bytes.length

theorem Full.part {f : Fl} (h : Full k o f) : Part k o o.length f := ⟨h.1, .inr (by rw [List.take_length, h.2, h.1, body_length]; exact Nat.le_refl _)⟩

def Two (nm sp : List UInt8) (f : List UInt8 → Option Nat) : Prop := ∀ l, f l ≠ none → l = nm ∨ l = sp
theorem Two.turn1 {f : List UInt8 → Option Nat} (h : Two nm sp f) {c : Ch} (hc : c.dst = nm ∨ c.dst = sp ∨ c.file = none) : Two nm sp (turn1 f c) := by
  intro l hl
  cases hf : c.file with
  | none =>
    rw [turn1_none hf] at hl
    by_cases e : l = c.src
    · rw [e, upd_same] at hl; exact absurd rfl hl
    · rw [upd_other _ _ e] at hl; exact h l hl
  | some i =>
    rw [turn1_file hf] at hl
    by_cases e : l = c.dst
    · rw [e]
      rcases hc with h1 | h1 | h1
      · exact .inl h1
      · exact .inr h1
      · rw [hf] at h1; cases h1
    · rw [upd_other _ _ e] at hl
      by_cases e : l = c.src
      · rw [e, upd_same] at hl; exact absurd rfl hl
      · rw [upd_other _ _ e] at hl; exact h l hl

/-- nothing of the files and names is another one -/
structure Like (d d' : Ds) : Prop where
  files : d'.files = d.files
  now : d'.now = d.now
  sure : d'.sure = d.sure
  changes : d'.changes = d.changes
  quota : d'.quota = d.quota
  clock : d'.clock = d.clock
  deeds : d'.deeds ≤ d.deeds + 1
theorem like_spent (d : Ds) : Like d (spent d) := ⟨rfl, rfl, rfl, rfl, rfl, rfl, Nat.le_refl _⟩
theorem like_arm (d : Ds) (n : Int) : Like d { d with left := n } := ⟨rfl, rfl, rfl, rfl, rfl, rfl, Nat.le_succ _⟩
theorem deed_like {ns : List (List UInt8)} {Q : Int → Ds → Prop} {n : Int} (h : DeedQ d ns Q n d') : (n ≠ 0 ∧ Like d d') ∨ (d.up = true ∧ d.left ≠ 0 ∧ Q n d') := by
  rcases h with ⟨_, h1, rfl⟩ | ⟨_, _, h1, rfl⟩ | ⟨_, _, _, h1, rfl⟩ | ⟨hu, hl, _, hQ⟩
  · exact .inl ⟨by omega, ⟨rfl, rfl, rfl, rfl, rfl, rfl, Nat.le_succ _⟩⟩
  · exact .inl ⟨by omega, ⟨rfl, rfl, rfl, rfl, rfl, rfl, Nat.le_succ _⟩⟩
  · exact .inl ⟨by omega, like_spent d⟩
  · exact .inr ⟨hu, hl, hQ⟩
theorem Like.trans {a b c : Ds} (h : Like a b) (k : Like b c) : c.files = a.files ∧ c.now = a.now ∧ c.sure = a.sure ∧ c.changes = a.changes :=
  ⟨k.files.trans h.files, k.now.trans h.now, k.sure.trans h.sure, k.changes.trans h.changes⟩

/-- where names lead, once n changes more are sure -/
def lead (d : Ds) (n : Nat) : List UInt8 → Option Nat := turns d.sure (d.changes.take n)
theorem lead_like (h : Like d d') (n : Nat) : lead d' n = lead d n := by unfold lead; rw [h.sure, h.changes]
theorem lead_changed (d : Ds) (c : Ch) (n : Nat) : lead (changed d c) n = lead d n ∨ (lead (changed d c) n = turn1 (turns d.sure d.changes) c) := by
  show turns d.sure ((d.changes ++ [c]).take n) = _ ∨ turns d.sure ((d.changes ++ [c]).take n) = _
  by_cases hn : n ≤ d.changes.length
  · left; rw [List.take_append_of_le_length hn]; rfl
  · right; rw [List.take_of_length_le (by simp; omega), turns_snoc]
theorem lead_all (d : Ds) : lead d d.changes.length = turns d.sure d.changes := by unfold lead; rw [List.take_length]
theorem lead_ref {l : List UInt8} {n i : Nat} (h : lead d n l = some i) : Ref d i := led_ref h

/-- THE LOG IS THERE: its records rs, the first s of them sure; its spare file is not. -/
structure Lv (nm sp : List UInt8) (k : UInt8) (rs : List (List UInt8)) (s : Nat) (d : Ds) (id : Nat) : Prop where
  eq : d.now = turns d.sure d.changes
  now : d.now nm = some id
  spare : d.now sp = none
  part : Part k rs s (d.files id)
  le : s ≤ rs.length
  short : Shorts rs
  led : ∀ n, lead d n nm = some id ∨ (lead d n nm = none ∧ s = 0)
  two : ∀ n, Two nm sp (lead d n)
  few : d.changes.length ≤ 1

/-- WHAT MAY BE THERE behind a restart: those records, or other ones. -/
structure My (nm sp : List UInt8) (k : UInt8) (rs : List (List UInt8)) (s : Nat) (o : List (List UInt8)) (d : Ds) : Prop where
  led : ∀ n, (lead d n nm = none ∧ s = 0) ∨ ∃ i, lead d n nm = some i ∧ (Part k rs s (d.files i) ∨ Full k o (d.files i))
  two : ∀ n, Two nm sp (lead d n)
  few : d.changes.length ≤ 3
  le : s ≤ rs.length
  short : Shorts rs ∧ Shorts o

theorem Lv.like (h : Lv nm sp k rs s d id) (hl : Like d d') : Lv nm sp k rs s d' id :=
  ⟨by rw [hl.now, hl.sure, hl.changes]; exact h.eq, by rw [hl.now]; exact h.now, by rw [hl.now]; exact h.spare, by rw [hl.files]; exact h.part, h.le, h.short, fun n => by rw [lead_like hl]; exact h.led n, fun n => by rw [lead_like hl]; exact h.two n, by rw [hl.changes]; exact h.few⟩
theorem Lv.my (h : Lv nm sp k rs s d id) (ho : Shorts o) : My nm sp k rs s o d := by
  refine ⟨fun n => ?_, h.two, by have := h.few; omega, h.le, h.short, ho⟩
  rcases h.led n with h1 | h1
  · exact .inr ⟨id, h1, .inl h.part⟩
  · exact .inl h1
theorem My.like (h : My nm sp k rs s o d) (hl : Like d d') : My nm sp k rs s o d' :=
  ⟨fun n => by rw [lead_like hl, hl.files]; exact h.led n, fun n => by rw [lead_like hl]; exact h.two n, by rw [hl.changes]; exact h.few, h.le, h.short⟩

/-- a record more -/
theorem Lv.append (h : Lv nm sp k rs s d id) {r : List UInt8} (hr : r.length ≤ 4096) : Lv nm sp k (rs ++ [r]) s (appended (spent d) id (frame r)) id := by
  have hf : (appended (spent d) id (frame r)).files id = ⟨(d.files id).bytes ++ frame r, (d.files id).sure, d.clock⟩ := upd_same _ _ _
  refine ⟨h.eq, h.now, h.spare, ⟨?_, ?_⟩, by have := h.le; simp; omega, h.short.append (fun x hx => by simp at hx; subst hx; exact hr), h.led, h.two, h.few⟩
  · rw [hf, body_snoc]
    show (d.files id).bytes ++ _ = _
    rw [h.part.bytes]
  · rw [hf, List.take_append_of_le_length h.le]
    exact h.part.sure
/-- the file is sure -/
theorem synced_file (d : Ds) (i : Nat) : (synced (spent d) i).files i = ⟨(d.files i).bytes, (d.files i).bytes.length, (d.files i).time⟩ := upd_same _ _ _
theorem Lv.synced (h : Lv nm sp k rs s d id) : Lv nm sp k rs s (synced (spent d) id) id ∧ Full k rs ((synced (spent d) id).files id) := by
  have hf := synced_file d id
  have hF : Full k rs ((Go.Proofs.YtfmelhcpccghdaaGreat.synced (spent d) id).files id) := by rw [hf]; exact ⟨h.part.bytes, rfl⟩
  refine ⟨⟨h.eq, h.now, h.spare, ⟨hF.1, ?_⟩, h.le, h.short, h.led, h.two, h.few⟩, hF⟩
  right
  rw [hF.2, hF.1, body_length]
  have : (all rs).length = (all (rs.take s)).length + (all (rs.drop s)).length := by rw [← List.length_append, ← all_append, List.take_append_drop]
  omega
theorem lead_settled (d : Ds) (m n : Nat) : lead (settled d m) n = lead d m := by
  show turns (turns d.sure (d.changes.take m)) (List.take n []) = _
  rw [List.take_nil]
  rfl
/-- .. and the directory -/
theorem settled_lv (heq : d.now = turns d.sure d.changes) (hnow : d.now nm = some id) (hsp : d.now sp = none) (hF : Full k rs (d.files id)) (hs : Shorts rs) (h2 : ∀ n, Two nm sp (lead d n)) : Lv nm sp k rs rs.length (settled (spent d) (spent d).changes.length) id := by
  have hl : ∀ n, lead (settled (spent d) (spent d).changes.length) n = d.now := fun n => by
    rw [lead_settled]
    show turns d.sure (d.changes.take d.changes.length) = _
    rw [List.take_length, heq]
  refine ⟨?_, hnow, hsp, hF.part, Nat.le_refl _, hs, fun n => ?_, fun n => ?_, Nat.zero_le _⟩
  · show d.now = turns (turns d.sure (d.changes.take d.changes.length)) []
    rw [List.take_length, ← heq]
    rfl
  · rw [hl]; exact .inl hnow
  · rw [hl, heq, ← lead_all]; exact h2 _

/-! ### rewriting -/
/-- the spare file is written (its bytes are the other ones), or sure too -/
structure Md (nm sp : List UInt8) (k : UInt8) (rs : List (List UInt8)) (s : Nat) (o : List (List UInt8)) (d : Ds) (i : Nat) : Prop where
  my : My nm sp k rs s o d
  eq : d.now = turns d.sure d.changes
  spare : d.now sp = some i
  bytes : (d.files i).bytes = body k o
theorem Lv.write (h : Lv nm sp k rs s d id) (ho : Shorts o) {i : Nat} (hi : ¬ Ref (spent d) i) (hne : nm ≠ sp) (h0 : nm ≠ []) : Md nm sp k rs s o (written (spent d) sp (body k o) i) i ∧ (written (spent d) sp (body k o) i).changes.length ≤ 2 := by
  have hf : (written (spent d) sp (body k o) i).files = upd d.files i ⟨body k o, 0, d.clock⟩ := rfl
  have hm := h.my ho
  have hled := fun n => lead_changed (setF (ticked (spent d)) i ⟨body k o, 0, (spent d).clock⟩) ⟨[], sp, some i⟩ n
  refine ⟨⟨⟨fun n => ?_, fun n => ?_, ?_, h.le, h.short, ho⟩, ?_, ?_, ?_⟩, ?_⟩
  · have hk : lead (written (spent d) sp (body k o) i) n nm = lead d n nm ∨ lead (written (spent d) sp (body k o) i) n nm = lead d d.changes.length nm := by
      rcases hled n with e | e
      · left; exact congrFun e nm
      · right
        rw [lead_all]
        exact (congrFun e nm).trans (turn1_off h0 hne)
    have key : ∀ m, lead (written (spent d) sp (body k o) i) n nm = lead d m nm → ((lead (written (spent d) sp (body k o) i) n nm = none ∧ s = 0) ∨ ∃ j, lead (written (spent d) sp (body k o) i) n nm = some j ∧ (Part k rs s ((written (spent d) sp (body k o) i).files j) ∨ Full k o ((written (spent d) sp (body k o) i).files j))) := fun m e => by
      rcases h.led m with h1 | h1
      · refine Or.inr ⟨id, e.trans h1, .inl ?_⟩
        have : id ≠ i := fun e2 => hi (e2 ▸ ref_now (d := d) h.now)
        rw [hf, upd_other _ _ this]
        exact h.part
      · exact Or.inl ⟨e.trans h1.1, h1.2⟩
    rcases hk with e | e
    · exact key _ e
    · exact key _ e
  · rcases hled n with e | e
    · exact e ▸ h.two n
    · refine e ▸ Two.turn1 ?_ (.inr (.inl rfl))
      exact lead_all d ▸ h.two d.changes.length
  · have := h.few
    show (d.changes ++ [_]).length ≤ 3
    simp; omega
  · show turn1 d.now ⟨[], sp, some i⟩ = turns d.sure (d.changes ++ [⟨[], sp, some i⟩])
    rw [turns_snoc, h.eq]
  · exact turn1_dst (f := d.now) (c := ⟨[], sp, some i⟩) rfl
  · rw [hf, upd_same]
  · have := h.few
    show (d.changes ++ [_]).length ≤ 2
    simp; omega
theorem Md.sync {i : Nat} (h : Md nm sp k rs s o d i) : Md nm sp k rs s o (synced (spent d) i) i ∧ Full k o ((synced (spent d) i).files i) := by
  have hF : Full k o ((Go.Proofs.YtfmelhcpccghdaaGreat.synced (spent d) i).files i) := by rw [synced_file]; exact ⟨h.bytes, rfl⟩
  refine ⟨⟨⟨fun n => ?_, h.my.two, h.my.few, h.my.le, h.my.short⟩, h.eq, h.spare, hF.1⟩, hF⟩
  rcases h.my.led n with h1 | ⟨j, h1, h2⟩
  · exact .inl h1
  · refine .inr ⟨j, h1, ?_⟩
    by_cases e : j = i
    · rw [e]; exact .inr hF
    · have e2 : (Go.Proofs.YtfmelhcpccghdaaGreat.synced (spent d) i).files j = d.files j := upd_other _ _ e
      rw [e2]; exact h2
theorem Md.rename {i : Nat} (h : Md nm sp k rs s o d i) (hF : Full k o (d.files i)) (h2 : d.changes.length ≤ 2) (hne : nm ≠ sp) :
    My nm sp k rs s o (changed (spent d) ⟨sp, nm, some i⟩) ∧ (changed (spent d) ⟨sp, nm, some i⟩).now = turns (changed (spent d) ⟨sp, nm, some i⟩).sure (changed (spent d) ⟨sp, nm, some i⟩).changes ∧
    (changed (spent d) ⟨sp, nm, some i⟩).now nm = some i ∧ (changed (spent d) ⟨sp, nm, some i⟩).now sp = none ∧ Full k o ((changed (spent d) ⟨sp, nm, some i⟩).files i) := by
  have hled := fun n => lead_changed (spent d) ⟨sp, nm, some i⟩ n
  refine ⟨⟨fun n => ?_, fun n => ?_, ?_, h.my.le, h.my.short⟩, ?_, turn1_dst (f := d.now) (c := ⟨sp, nm, some i⟩) rfl, ?_, hF⟩
  · rcases hled n with e | e
    · rw [e]; exact h.my.led n
    · rw [e]
      exact .inr ⟨i, turn1_dst (c := ⟨sp, nm, some i⟩) rfl, .inr hF⟩
  · rcases hled n with e | e
    · exact e ▸ h.my.two n
    · refine e ▸ Two.turn1 ?_ (.inl rfl)
      exact lead_all d ▸ h.my.two d.changes.length
  · show (d.changes ++ [_]).length ≤ 3
    simp; omega
  · show turn1 d.now ⟨sp, nm, some i⟩ = turns d.sure (d.changes ++ [⟨sp, nm, some i⟩])
    rw [turns_snoc, h.eq]
  · show turn1 d.now ⟨sp, nm, some i⟩ sp = none
    rw [turn1_file rfl, upd_other _ _ (fun e => hne e.symm), upd_same]

/-! ### a restart -/
theorem lost_part (i j : Nat) (t : Int) (_ht : 0 ≤ t) (b0 : List UInt8) (s0 : Nat) (hs : s0 ≤ b0.length) (h : ∃ m, (d.files i).bytes = b0.take m ∧ s0 ≤ m ∧ s0 ≤ (d.files i).sure) : ∃ m, ((lost d j t).files i).bytes = b0.take m ∧ s0 ≤ m ∧ s0 ≤ ((lost d j t).files i).sure := by
  obtain ⟨m, h1, h2, h3⟩ := h
  by_cases e : i = j
  · subst e
    by_cases hc : t < ((d.files i).bytes.length : Int) - (d.files i).sure
    · rw [lost_lt hc]
      have hf : (setF (ticked d) i ⟨(d.files i).bytes.take ((d.files i).sure + t.toNat), (d.files i).sure + t.toNat, d.clock⟩).files i = ⟨(d.files i).bytes.take ((d.files i).sure + t.toNat), (d.files i).sure + t.toNat, d.clock⟩ := upd_same _ _ _
      rw [hf]
      refine ⟨min ((d.files i).sure + t.toNat) m, ?_, by omega, ?_⟩
      · show (d.files i).bytes.take _ = _
        rw [h1, List.take_take]
      · show s0 ≤ _ + _
        omega
    · rw [lost_ge hc]
      have hf : (setF d i ⟨(d.files i).bytes, (d.files i).bytes.length, (d.files i).time⟩).files i = ⟨(d.files i).bytes, (d.files i).bytes.length, (d.files i).time⟩ := upd_same _ _ _
      rw [hf]
      refine ⟨m, h1, h2, ?_⟩
      show s0 ≤ (d.files i).bytes.length
      rw [h1, List.length_take]
      omega
  · have hf : (lost d j t).files i = d.files i := by
      unfold lost
      dsimp only
      split
      · exact upd_other _ _ e
      · exact upd_other _ _ e
    rw [hf]
    exact ⟨m, h1, h2, h3⟩
theorem lostAll_part {ts : List Int} (i : Nat) (b0 : List UInt8) (s0 : Nat) (hs : s0 ≤ b0.length) : ∀ (ns : List (List UInt8)) (c : Nat) (d : Ds), (∃ m, (d.files i).bytes = b0.take m ∧ s0 ≤ m ∧ s0 ≤ (d.files i).sure) → ∃ m, ((lostAll ts c ns d).files i).bytes = b0.take m ∧ s0 ≤ m ∧ s0 ≤ ((lostAll ts c ns d).files i).sure
  | [], _, _, h => h
  | n :: ns, c, d, h => by
    cases hn : d.now n with
    | none =>
      have e : lostAll ts c (n :: ns) d = lostAll ts (c + 1) ns d := by show lostAll ts (c + 1) ns _ = _; rw [hn]
      rw [e]
      exact lostAll_part i b0 s0 hs ns (c + 1) d h
    | some j =>
      rw [lostAll_cons hn]
      exact lostAll_part i b0 s0 hs ns (c + 1) _ (lost_part i j _ (tailOf_nn ts c) b0 s0 hs h)
theorem lost_rest (d : Ds) (i : Nat) (t : Int) : (lost d i t).left = d.left ∧ (lost d i t).quota = d.quota ∧ (lost d i t).deeds = d.deeds := by unfold lost; dsimp only; split <;> exact ⟨rfl, rfl, rfl⟩
theorem lostAll_rest {ts : List Int} : ∀ (ns : List (List UInt8)) (c : Nat) (d : Ds), (lostAll ts c ns d).left = d.left ∧ (lostAll ts c ns d).quota = d.quota ∧ (lostAll ts c ns d).deeds = d.deeds ∧ (lostAll ts c ns d).clock ≤ d.clock + ns.length ∧ (lostAll ts c ns d).now = d.now ∧ (lostAll ts c ns d).sure = d.sure ∧ (lostAll ts c ns d).changes = d.changes ∧ (lostAll ts c ns d).up = d.up
  | [], _, d => ⟨rfl, rfl, rfl, Nat.le_refl _, rfl, rfl, rfl, rfl⟩
  | n :: ns, c, d => by
    have key : ∀ e : Ds, e.left = d.left → e.quota = d.quota → e.deeds = d.deeds → e.clock ≤ d.clock + 1 → e.now = d.now → e.sure = d.sure → e.changes = d.changes → e.up = d.up → (lostAll ts (c + 1) ns e).left = d.left ∧ (lostAll ts (c + 1) ns e).quota = d.quota ∧ (lostAll ts (c + 1) ns e).deeds = d.deeds ∧ (lostAll ts (c + 1) ns e).clock ≤ d.clock + (n :: ns).length ∧ (lostAll ts (c + 1) ns e).now = d.now ∧ (lostAll ts (c + 1) ns e).sure = d.sure ∧ (lostAll ts (c + 1) ns e).changes = d.changes ∧ (lostAll ts (c + 1) ns e).up = d.up := by
      intro e k1 k2 k3 k4 k5 k6 k7 k8
      obtain ⟨h1, h2, h3, h4, h5, h6, h7, h8⟩ := lostAll_rest (ts := ts) ns (c + 1) e
      exact ⟨h1.trans k1, h2.trans k2, h3.trans k3, by simp; omega, h5.trans k5, h6.trans k6, h7.trans k7, h8.trans k8⟩
    show (lostAll ts (c + 1) ns _).left = _ ∧ (lostAll ts (c + 1) ns _).quota = _ ∧ (lostAll ts (c + 1) ns _).deeds = _ ∧ (lostAll ts (c + 1) ns _).clock ≤ _ ∧ (lostAll ts (c + 1) ns _).now = _ ∧ (lostAll ts (c + 1) ns _).sure = _ ∧ (lostAll ts (c + 1) ns _).changes = _ ∧ (lostAll ts (c + 1) ns _).up = _
    cases hn : d.now n with
    | none => exact key d rfl rfl rfl (Nat.le_succ _) rfl rfl rfl rfl
    | some j =>
      obtain ⟨a, b, e⟩ := lost_rest d j (tailOf ts c)
      exact key _ a b e (lost_clock _ _ _) (lost_now _ _ _) (lost_sure _ _ _) (lost_changes _ _ _) (lost_up _ _)

/-- what is found behind a restart -/
structure Fnd (nm sp : List UInt8) (k : UInt8) (rs : List (List UInt8)) (s : Nat) (o : List (List UInt8)) (d : Ds) : Prop where
  up : d.up = true
  left : d.left = -1
  eq : d.now = d.sure
  noCh : d.changes = []
  two : Two nm sp d.now
  has : (d.now nm = none ∧ s = 0) ∨ ∃ i, d.now nm = some i ∧ ((∃ m, (d.files i).bytes = (body k rs).take m ∧ (s = 0 ∨ 8 + (all (rs.take s)).length ≤ m)) ∨ (d.files i).bytes = body k o)
  le : s ≤ rs.length
  short : Shorts rs ∧ Shorts o

theorem all_take_le (rs : List (List UInt8)) (s : Nat) : (all (rs.take s)).length ≤ (all rs).length := by
  have : (all rs).length = (all (rs.take s)).length + (all (rs.drop s)).length := by rw [← List.length_append, ← all_append, List.take_append_drop]
  omega
theorem My.restart (h : My nm sp k rs s o d) (n : Nat) (ts : List Int) (ns : List (List UInt8)) : Fnd nm sp k rs s o (lostAll ts 0 ns (back d n)) := by
  obtain ⟨r1, _, _, _, r5, r6, r7, r8⟩ := lostAll_rest (ts := ts) ns 0 (back d n)
  have hb : (back d n).now = lead d n := rfl
  refine ⟨r8, r1, by rw [r5, r6]; rfl, r7, by rw [r5]; exact h.two n, ?_, h.le, h.short⟩
  rw [r5, hb]
  rcases h.led n with h1 | ⟨i, h1, h2⟩
  · exact .inl h1
  · refine .inr ⟨i, h1, ?_⟩
    rcases h2 with h2 | h2
    · left
      by_cases h0 : s = 0
      · obtain ⟨m, e1, _, _⟩ := lostAll_part (ts := ts) i (body k rs) 0 (Nat.zero_le _) ns 0 (back d n) ⟨(body k rs).length, by rw [List.take_length]; exact h2.bytes, Nat.zero_le _, Nat.zero_le _⟩
        exact ⟨m, e1, .inl h0⟩
      · have hs := h2.sure.resolve_left h0
        have hle : 8 + (all (rs.take s)).length ≤ (body k rs).length := by rw [body_length]; have := all_take_le rs s; omega
        obtain ⟨m, e1, e2, _⟩ := lostAll_part (ts := ts) i (body k rs) (8 + (all (rs.take s)).length) hle ns 0 (back d n) ⟨(body k rs).length, by rw [List.take_length]; exact h2.bytes, hle, hs⟩
        exact ⟨m, e1, .inr e2⟩
    · right
      obtain ⟨e1, _, _, _, _⟩ := lostAll_whole (ts := ts) (i := i) ns 0 (back d n) h2.2
      rw [e1]
      exact h2.1

/-! ### what is opened -/
/-- the bytes that a name's file has -/
def bytesOf (d : Ds) (nm : List UInt8) : List UInt8 := match d.now nm with | none => [] | some i => (d.files i).bytes
/-- what is left of a file's bytes, and its records -/
def gotOf (b : List UInt8) : List (List UInt8) := if b.length < 8 then [] else recs (b.drop 8)

theorem got_body (h : Shorts rs) : gotOf (body k rs) = rs := by
  unfold gotOf
  rw [if_neg (by rw [body_length]; omega), body, List.drop_left' (head_length k), recs_whole h]
theorem got_cut (h : Shorts rs) (m : Nat) : ∃ n, n ≤ rs.length ∧ gotOf ((body k rs).take m) = rs.take n ∧ (∀ t, t ≤ rs.length → t = 0 ∨ 8 + (all (rs.take t)).length ≤ m → t ≤ n) := by
  unfold gotOf
  by_cases hm : ((body k rs).take m).length < 8
  · refine ⟨0, Nat.zero_le _, by rw [if_pos hm]; rfl, fun t ht h2 => ?_⟩
    rcases h2 with h2 | h2
    · omega
    · rw [List.length_take, body_length] at hm
      have := all_take_le rs t
      omega
  · rw [if_neg hm]
    rw [List.length_take, body_length] at hm
    obtain ⟨n, h1, h2, _, h4⟩ := recs_cut h (m - 8)
    refine ⟨n, h1, ?_, fun t ht h5 => ?_⟩
    · rw [body, List.take_append, head_length, List.take_of_length_le (by rw [head_length]; omega), List.drop_left' (head_length k), h2]
    · rcases h5 with h5 | h5
      · omega
      · exact h4 t ht (by omega)
end Go.Proofs.YtfmelhcpccghdaaGreat.Rl
