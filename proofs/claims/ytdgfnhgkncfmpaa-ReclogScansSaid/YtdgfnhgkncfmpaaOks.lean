/-
  DEEDS THAT ARE DONE, one by one; what a restart leaves of one file.
-/
import Derived.Test.YtdgfnhgkncfmpaaSteps
namespace Go.Proofs.Ytdgfnhgkncfmpaa
open Go.RowKit Go.Maps

variable {X : Nat → Prop} {K : Nat} {w : World} {p : Nat} {q : Pl} {d : Ds}

theorem write_ok (h : Dk X K w p d) (hK : K + 2 ≤ 200) {M : Nat} (hM : M ≤ 65536) (hall : ∀ l i, d.now l = some i → (d.files i).bytes.length ≤ M) {l : List UInt8} (hl : l.length ≤ 1000000) {v : Value} {bs : List UInt8} (hv : BRow w v bs) (hvX : ∀ k, Value.rowBlock v = some k → X k)
    (hbs : bs.length ≤ 65536) (hq : (K + 1) * M + bs.length ≤ d.quota) (hu : d.up = true) (hf : d.left ≠ 0) (hr : rightL l = true) :
    Calls Try.prog 12 #[.pointer (some ⟨p, 0, none⟩), .string (mk l), v] w fun e w' => e = .returned (.int .i64 0) ∧ Same X w w' ∧ ∃ d', Dk X (K + 3) w' p d' ∧ ∃ i, ¬ Ref (spent d) i ∧ d' = written (spent d) l bs i := by
  obtain ⟨q, h⟩ := h
  refine (Write_c h (by omega) hM hall hl hv hvX (by omega)).mono fun e w' hT => told_zero hT fun n d' hq' => ?_
  have hQ := deed_runs hq' hu hf (by intro x hx; simp at hx; subst hx; exact hr)
  have h0 := hQ.2 hbs (by omega) hq
  refine ⟨h0, ?_⟩
  rcases hQ.1 with ⟨_, _, i, hi, he⟩ | ⟨h3, _⟩
  · exact ⟨i, hi, he⟩
  · omega

theorem appendNew_ok (h : Dk X K w p d) (hK : K + 2 ≤ 200) {M : Nat} (hM : M ≤ 65536) (hall : ∀ l i, d.now l = some i → (d.files i).bytes.length ≤ M) {l : List UInt8} (hl : l.length ≤ 1000000) {v : Value} {bs : List UInt8} (hv : BRow w v bs) (hvX : ∀ k, Value.rowBlock v = some k → X k)
    (hbs : bs.length ≤ 65536) (hq : (K + 1) * M + bs.length ≤ d.quota) (hu : d.up = true) (hf : d.left ≠ 0) (hr : rightL l = true) (hi : d.now l = none) :
    Calls Try.prog 48 #[.pointer (some ⟨p, 0, none⟩), .string (mk l), v] w fun e w' => e = .returned (.int .i64 0) ∧ Same X w w' ∧ ∃ d', Dk X (K + 3) w' p d' ∧ ∃ i, ¬ Ref (spent d) i ∧ d' = written (spent d) l bs i := by
  obtain ⟨q, h⟩ := h
  refine (Append_c h (by omega) hM hall hl hv hvX (by omega)).mono fun e w' hT => told_zero hT fun n d' hq' => ?_
  have hQ := deed_runs hq' hu hf (by intro x hx; simp at hx; subst hx; exact hr)
  rcases hQ with ⟨_, hQ⟩ | ⟨i, hi', _⟩
  · have h0 := hQ.2 hbs (by omega) hq
    refine ⟨h0, ?_⟩
    rcases hQ.1 with ⟨_, _, i, hi, he⟩ | ⟨h3, _⟩
    · exact ⟨i, hi, he⟩
    · omega
  · have : d.now l = some i := hi'
    rw [hi] at this
    cases this

theorem append_ok (h : Dk X K w p d) (hK : K + 2 ≤ 200) {M : Nat} (hM : M ≤ 65536) (hall : ∀ l i, d.now l = some i → (d.files i).bytes.length ≤ M) {l : List UInt8} (hl : l.length ≤ 1000000) {v : Value} {bs : List UInt8} (hv : BRow w v bs) (hvX : ∀ k, Value.rowBlock v = some k → X k)
    {i : Nat} (hi : d.now l = some i) (hbs : (d.files i).bytes.length + bs.length ≤ 65536) (hq : (K + 1) * M + ((d.files i).bytes.length + bs.length) ≤ d.quota) (hu : d.up = true) (hf : d.left ≠ 0) (hr : rightL l = true) :
    Calls Try.prog 48 #[.pointer (some ⟨p, 0, none⟩), .string (mk l), v] w fun e w' => e = .returned (.int .i64 0) ∧ Same X w w' ∧ ∃ d', Dk X (K + 3) w' p d' ∧ d' = appended (spent d) i bs := by
  obtain ⟨q, h⟩ := h
  refine (Append_c h (by omega) hM hall hl hv hvX (by omega)).mono fun e w' hT => told_zero hT fun n d' hq' => ?_
  have hQ := deed_runs hq' hu hf (by intro x hx; simp at hx; subst hx; exact hr)
  rcases hQ with ⟨hn, _⟩ | ⟨j, hj, hQ⟩
  · have : d.now l = none := hn
    rw [hi] at this
    cases this
  · have hj' : d.now l = some j := hj
    rw [hi] at hj'
    cases hj'
    have h0 := hQ.2 hbs (by omega) hq
    refine ⟨h0, ?_⟩
    rcases hQ.1 with ⟨_, _, he⟩ | ⟨h3, _⟩
    · exact he
    · omega

theorem sync_ok (h : Dk X K w p d) (hK : K + 2 ≤ 200) {l : List UInt8} (hl : l.length ≤ 1000000) {i : Nat} (hi : d.now l = some i) (hu : d.up = true) (hf : d.left ≠ 0) (hr : rightL l = true) :
    Calls Try.prog 13 #[.pointer (some ⟨p, 0, none⟩), .string (mk l)] w fun e w' => e = .returned (.int .i64 0) ∧ Same X w w' ∧ ∃ d', Dk X (K + 1) w' p d' ∧ d' = synced (spent d) i := by
  obtain ⟨q, h⟩ := h
  refine (Sync_c h (by omega) hl).mono fun e w' hT => told_zero hT fun n d' hq' => ?_
  exact onQ_of (deed_runs hq' hu hf (by intro x hx; simp at hx; subst hx; exact hr)) (i := i) hi

theorem syncDir_ok (h : Dk X K w p d) (hK : K + 2 ≤ 200) (hu : d.up = true) (hf : d.left ≠ 0) :
    Calls Try.prog 14 #[.pointer (some ⟨p, 0, none⟩)] w fun e w' => e = .returned (.int .i64 0) ∧ Same X w w' ∧ ∃ d', Dk X (K + 1) w' p d' ∧ d' = settled (spent d) (spent d).changes.length := by
  obtain ⟨q, h⟩ := h
  refine (SyncDir_c h (by omega)).mono fun e w' hT => told_zero hT fun n d' hq' => ?_
  exact deed_runs hq' hu hf (by intro x hx; cases hx)

theorem rename_ok (h : Dk X K w p d) (hK : K + 2 ≤ 200) {l m : List UInt8} (hl : l.length ≤ 1000000) (hm : m.length ≤ 1000000) {i : Nat} (hi : d.now l = some i) (hu : d.up = true) (hf : d.left ≠ 0) (hr : rightL l = true) (hr2 : rightL m = true) :
    Calls Try.prog 50 #[.pointer (some ⟨p, 0, none⟩), .string (mk l), .string (mk m)] w fun e w' => e = .returned (.int .i64 0) ∧ Same X w w' ∧ ∃ d', Dk X (K + 2) w' p d' ∧ d' = changed (spent d) ⟨l, m, some i⟩ := by
  obtain ⟨q, h⟩ := h
  refine (Rename_c h (by omega) hl hm).mono fun e w' hT => told_zero hT fun n d' hq' => ?_
  exact onQ_of (Q := fun i n d' => n = 0 ∧ d' = changed (spent d) ⟨l, m, some i⟩) (deed_runs hq' hu hf (by intro x hx; simp at hx; rcases hx with rfl | rfl; exact hr; exact hr2)) (i := i) hi

theorem restart_ok (h : Dk X K w p d) (hK : K + 1 ≤ 1000) (n : Int) {tv : Value} {ts : List Int} (htv : TRow w tv ts) (htX : ∀ k, Value.rowBlock tv = some k → X k) (hts : ts.length ≤ 1000000) :
    Calls Try.prog 17 #[.pointer (some ⟨p, 0, none⟩), .agg #[.int .i64 n, tv]] w fun e w' => (∃ x, e = .returned x) ∧ Same X w w' ∧
      ∃ ns : List (List UInt8), (ns.Nodup ∧ (∀ x, x ∈ ns ↔ ((back d n.toNat).now x).isSome = true) ∧ ns.length ≤ K) ∧ Dk X (K + 1) w' p (lostAll ts 0 ns (back d n.toNat)) := by
  obtain ⟨q, h⟩ := h
  exact restart_at h hK n htv htX hts

theorem one_name {a : List UInt8} {ns : List (List UInt8)} (hn : ns.Nodup) (h : ∀ x, x ∈ ns ↔ x = a) : ns = [a] := by
  match ns with
  | [] => have := (h a).2 rfl; cases this
  | [b] => rw [(h b).1 (by simp)]
  | b :: c :: r =>
    have h1 := (h b).1 (by simp)
    have h2 := (h c).1 (by simp)
    rw [h1, h2] at hn
    simp at hn
theorem no_name {ns : List (List UInt8)} (h : ∀ x, ¬ x ∈ ns) : ns = [] := by
  match ns with
  | [] => rfl
  | b :: r => exact absurd (by simp) (h b)

theorem tnil (w : World) : TRow w (.slice none 0 0) [] := ⟨none, 0, rfl, .inl rfl⟩

/-- string(b) -/
theorem conv_b {w : World} {v : Value} {bs : List UInt8} (h : BRow w v bs) : (convert 23 9 v).run Try.prog w = .ok (.string (mk bs)) w := by
  rcases h with ⟨rfl, rfl⟩ | ⟨a, cap, rfl, _, hc⟩
  · exact run_convert_bytes_nil w 23 5 Try.underlying23 Try.underlying5 0 0 9 Try.underlying9
  · exact run_convert_bytes_back (P := Try.prog) w 23 9 5 a cap bs Try.underlying23 Try.underlying5 Try.underlying9 (fun j hj => hc j _ (by simp [bytesV, hj]))
end Go.Proofs.Ytdgfnhgkncfmpaa
