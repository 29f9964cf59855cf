/-
  A NEW DISK; DEEDS THAT ARE DONE.
-/
import Derived.Test.YtfmelhcpccghdaaGreatRestart
import Derived.Lib.SlBytesConst
namespace Go.Proofs.YtfmelhcpccghdaaGreat
open Go.RowKit Go.Maps

variable {X : Nat → Prop} {K : Nat} {w : World} {p : Nat} {q : Pl} {d : Ds}

def newD (n : Nat) : Ds := ⟨n, 1, 0, true, -1, fun _ => none, fun _ => none, [], fun _ => ⟨[], 0, 0⟩⟩

theorem new_ref (n i : Nat) : ¬ Ref (newD n) i := by
  rintro (⟨l, h⟩ | ⟨l, h⟩ | ⟨c, h, _⟩)
  · cases h
  · cases h
  · cases h

set_option maxHeartbeats 2000000 in
theorem new_c (n : Nat) (hn : n ≤ 16777216) (w : World) :
    Calls Tryz.prog 6 #[.int .i64 n] w fun e w' => ∃ p, e = .returned (.tuple #[.pointer (some ⟨p, 0, none⟩), .int .i64 0]) ∧ w.heap.size ≤ p ∧ Below w.heap.size w w' ∧ Dk (fun k => k < w.heap.size) 0 w' p (newD n) := by
  have h0 : ¬ (n : Int) < 0 := by omega
  have h1 : ¬ (16777216 : Int) < (n : Int) := by omega
  have hm := @run_makeMap Tryz.prog
  obtain ⟨w1, hw1⟩ : ∃ W, w.alloc (.map #[] 0) = W := ⟨_, rfl⟩
  obtain ⟨w2, hw2⟩ : ∃ W, w1.alloc (.map #[] 0) = W := ⟨_, rfl⟩
  obtain ⟨w3, hw3⟩ : ∃ W, w2.alloc (.cells #[.int .i64 n, .int .i64 1, .int .i64 0, .bool true, .int .i64 (-1), .map (some w.heap.size), .map (some (w.heap.size + 1)), .slice none 0 0] 58) = W := ⟨_, rfl⟩
  have z1 : w1.heap.size = w.heap.size + 1 := by subst hw1; simp
  have z2 : w2.heap.size = w.heap.size + 1 + 1 := by subst hw2; simp [z1]
  have z3 : w3.heap.size = w.heap.size + 1 + 1 + 1 := by subst hw3; simp [z2]
  have m1 : Dir w1 0 w.heap.size (fun _ => none) := by subst hw1; exact Dir.made w
  have m2 : Dir w2 0 w1.heap.size (fun _ => none) := by subst hw2; exact Dir.made w1
  have b1 : ∀ k, k < w1.heap.size → w2.heap[k]? = w1.heap[k]? := by subst hw2; exact fun k hk => Below.heap_alloc _ _ _ hk
  have b2 : ∀ k, k < w2.heap.size → w3.heap[k]? = w2.heap[k]? := by subst hw3; exact fun k hk => Below.heap_alloc _ _ _ hk
  have hr : w3.heap[w2.heap.size]? = some (.cells #[.int .i64 n, .int .i64 1, .int .i64 0, .bool true, .int .i64 (-1), .map (some w.heap.size), .map (some w1.heap.size), .slice none 0 0] 58 (0, 0)) := by rw [z1]; subst hw3; exact heap_alloc_new _ _
  have hB : Below w.heap.size w w3 := by
    subst hw3 hw2 hw1
    exact ((below_alloc w _).alloc (by simp) _).alloc (by simp; omega) _
  have hd : DkAt (fun k => k < w.heap.size) 0 w3 w2.heap.size ⟨w.heap.size, w1.heap.size, .slice none 0 0, fun _ => .slice none 0 0⟩ (newD n) := by
    refine ⟨fun k hk => by omega, by show ¬ w2.heap.size < _; omega, by show ¬ w.heap.size < w.heap.size; omega, by show ¬ w1.heap.size < w.heap.size; omega, fun k hk => by simp [Value.ownBlock] at hk, by show w.heap.size ≠ w1.heap.size; omega, hr, ⟨0, Nat.le_refl _, (m1.kept (b1 _ (by omega))).kept (b2 _ (by omega))⟩, ⟨0, Nat.le_refl _, m2.kept (b2 _ (by omega))⟩, World.ownsRow_nil _ _ _ _, (fun c hc => (by cases hc)), fun i hi => (new_ref n i hi).elim, fun i j k hi => (new_ref n i hi).elim, Nat.le_refl _, Nat.le_refl _, ⟨hn, by show -9223372036854775808 ≤ (-1 : Int) ∧ (-1 : Int) ≤ 9223372036854775807; omega⟩⟩
  have HB := Lib.hid hB
  have HDD := Lib.hid hd
  have HW1 := Lib.hid hw1
  have HW2 := Lib.hid hw2
  have HW3 := Lib.hid hw3
  have HZ2 := Lib.hid z2
  clear hw1 hw2 hw3 z1 z2 z3 m1 m2 b1 b2 hr hB hd
  go_enter Tryz.func6, Tryz.ntmps6
  go_wp2
  go_ret2
  rw [HW1.out, HW2.out, HW3.out]
  refine ⟨w2.heap.size, ?_, by have := HZ2.out; omega, HB.out, ⟨_, HDD.out⟩⟩
  rw [HZ2.out]
  rfl

theorem deed_runs {ns : List (List UInt8)} {Q : Int → Ds → Prop} {n : Int} {d' : Ds} (h : DeedQ d ns Q n d') (hu : d.up = true) (hl : d.left ≠ 0) (hr : ∀ l ∈ ns, rightL l = true) : Q n d' := by
  rcases h with ⟨h1, _⟩ | ⟨_, h2, _⟩ | ⟨_, _, ⟨l, h3, h4⟩, _⟩ | ⟨_, _, _, h⟩
  · rw [hu] at h1; cases h1
  · exact absurd h2 hl
  · rw [hr l h3] at h4; cases h4
  · exact h
theorem deed_down {ns : List (List UInt8)} {Q : Int → Ds → Prop} {n : Int} {d' : Ds} (h : DeedQ d ns Q n d') (hu : d.up = false) : n = 8 ∧ d' = d := by
  rcases h with ⟨_, h1, h2⟩ | ⟨h1, _⟩ | ⟨h1, _⟩ | ⟨h1, _⟩
  · exact ⟨h1, h2⟩
  all_goals rw [hu] at h1; cases h1
theorem deed_falls {ns : List (List UInt8)} {Q : Int → Ds → Prop} {n : Int} {d' : Ds} (h : DeedQ d ns Q n d') (hu : d.up = true) (hl : d.left = 0) : n = 8 ∧ d' = { d with up := false } := by
  rcases h with ⟨h1, _⟩ | ⟨_, _, h1, h2⟩ | ⟨_, h1, _⟩ | ⟨_, h1, _⟩
  · rw [hu] at h1; cases h1
  · exact ⟨h1, h2⟩
  all_goals exact absurd hl h1

theorem onQ_of {l : List UInt8} {Q : Nat → Int → Ds → Prop} {n : Int} {d' : Ds} {i : Nat} (h : OnQ d l Q n d') (hi : d.now l = some i) : Q i n d' := by
  rcases h with ⟨h, _⟩ | ⟨j, h, hq⟩
  · rw [hi] at h; cases h
  · rw [hi] at h; cases h; exact hq

theorem told_zero {K : Nat} {Q : Int → Ds → Prop} {P : Ds → Prop} {e : Ending} {w' : World} (h : Told X K w p Q e w') (hQ : ∀ n d', Q n d' → n = 0 ∧ P d') : e = .returned (.int .i64 0) ∧ Same X w w' ∧ ∃ d', Dk X K w' p d' ∧ P d' := by
  obtain ⟨n, d', rfl, hs, hd, hq⟩ := h
  obtain ⟨rfl, hp⟩ := hQ n d' hq
  exact ⟨rfl, hs, d', hd, hp⟩

theorem right_f : rightL [102] = true := by decide +kernel
theorem right_g : rightL [103] = true := by decide +kernel
theorem right_own : rightL [111, 119, 110, 47, 102, 105, 108, 101] = true := by decide +kernel
end Go.Proofs.YtfmelhcpccghdaaGreat

/-! DEEDS THAT ARE DONE, one by one; what a restart leaves of one file. -/
namespace Go.Proofs.YtfmelhcpccghdaaGreat
open Go.RowKit Go.Maps

variable {X : Nat → Prop} {K : Nat} {w : World} {p : Nat} {q : Pl} {d : Ds}

theorem write_ok (h : Dk X K w p d) (hK : K + 2 ≤ 200) {M : Nat} (hM : M ≤ 65536) (hall : ∀ l i, d.now l = some i → (d.files i).bytes.length ≤ M) {l : List UInt8} (hl : l.length ≤ 1000000) {v : Value} {bs : List UInt8} (hv : BRow w v bs) (hvX : ∀ k, Value.rowBlock v = some k → X k)
    (hbs : bs.length ≤ 65536) (hq : (K + 1) * M + bs.length ≤ d.quota) (hu : d.up = true) (hf : d.left ≠ 0) (hr : rightL l = true) :
    Calls Tryz.prog 18 #[.pointer (some ⟨p, 0, none⟩), .string (mk l), v] w fun e w' => e = .returned (.int .i64 0) ∧ Same X w w' ∧ ∃ d', Dk X (K + 3) w' p d' ∧ ∃ i, ¬ Ref (spent d) i ∧ d' = written (spent d) l bs i := by
  obtain ⟨q, h⟩ := h
  refine (Write_c h (by omega) hM hall hl hv hvX (by omega)).mono fun e w' hT => told_zero hT fun n d' hq' => ?_
  have hQ := deed_runs hq' hu hf (by intro x hx; simp at hx; subst hx; exact hr)
  have h0 := hQ.2 hbs (by omega) hq
  refine ⟨h0, ?_⟩
  rcases hQ.1 with ⟨_, _, i, hi, he⟩ | ⟨h3, _⟩
  · exact ⟨i, hi, he⟩
  · omega

theorem appendNew_ok (h : Dk X K w p d) (hK : K + 2 ≤ 200) {M : Nat} (hM : M ≤ 65536) (hall : ∀ l i, d.now l = some i → (d.files i).bytes.length ≤ M) {l : List UInt8} (hl : l.length ≤ 1000000) {v : Value} {bs : List UInt8} (hv : BRow w v bs) (hvX : ∀ k, Value.rowBlock v = some k → X k)
    (hbs : bs.length ≤ 65536) (hq : (K + 1) * M + bs.length ≤ d.quota) (hu : d.up = true) (hf : d.left ≠ 0) (hr : rightL l = true) (hi : d.now l = none) :
    Calls Tryz.prog 28 #[.pointer (some ⟨p, 0, none⟩), .string (mk l), v] w fun e w' => e = .returned (.int .i64 0) ∧ Same X w w' ∧ ∃ d', Dk X (K + 3) w' p d' ∧ ∃ i, ¬ Ref (spent d) i ∧ d' = written (spent d) l bs i := by
  obtain ⟨q, h⟩ := h
  refine (Append_c h (by omega) hM hall hl hv hvX (by omega)).mono fun e w' hT => told_zero hT fun n d' hq' => ?_
  have hQ := deed_runs hq' hu hf (by intro x hx; simp at hx; subst hx; exact hr)
  rcases hQ with ⟨_, hQ⟩ | ⟨i, hi', _⟩
  · have h0 := hQ.2 hbs (by omega) hq
    refine ⟨h0, ?_⟩
    rcases hQ.1 with ⟨_, _, i, hi, he⟩ | ⟨h3, _⟩
    · exact ⟨i, hi, he⟩
    · omega
  · have : d.now l = some i := hi'
    rw [hi] at this
    cases this

theorem append_ok (h : Dk X K w p d) (hK : K + 2 ≤ 200) {M : Nat} (hM : M ≤ 65536) (hall : ∀ l i, d.now l = some i → (d.files i).bytes.length ≤ M) {l : List UInt8} (hl : l.length ≤ 1000000) {v : Value} {bs : List UInt8} (hv : BRow w v bs) (hvX : ∀ k, Value.rowBlock v = some k → X k)
    {i : Nat} (hi : d.now l = some i) (hbs : (d.files i).bytes.length + bs.length ≤ 65536) (hq : (K + 1) * M + ((d.files i).bytes.length + bs.length) ≤ d.quota) (hu : d.up = true) (hf : d.left ≠ 0) (hr : rightL l = true) :
    Calls Tryz.prog 28 #[.pointer (some ⟨p, 0, none⟩), .string (mk l), v] w fun e w' => e = .returned (.int .i64 0) ∧ Same X w w' ∧ ∃ d', Dk X (K + 3) w' p d' ∧ d' = appended (spent d) i bs := by
  obtain ⟨q, h⟩ := h
  refine (Append_c h (by omega) hM hall hl hv hvX (by omega)).mono fun e w' hT => told_zero hT fun n d' hq' => ?_
  have hQ := deed_runs hq' hu hf (by intro x hx; simp at hx; subst hx; exact hr)
  rcases hQ with ⟨hn, _⟩ | ⟨j, hj, hQ⟩
  · have : d.now l = none := hn
    rw [hi] at this
    cases this
  · have hj' : d.now l = some j := hj
    rw [hi] at hj'
    cases hj'
    have h0 := hQ.2 hbs (by omega) hq
    refine ⟨h0, ?_⟩
    rcases hQ.1 with ⟨_, _, he⟩ | ⟨h3, _⟩
    · exact he
    · omega

theorem sync_ok (h : Dk X K w p d) (hK : K + 2 ≤ 200) {l : List UInt8} (hl : l.length ≤ 1000000) {i : Nat} (hi : d.now l = some i) (hu : d.up = true) (hf : d.left ≠ 0) (hr : rightL l = true) :
    Calls Tryz.prog 30 #[.pointer (some ⟨p, 0, none⟩), .string (mk l)] w fun e w' => e = .returned (.int .i64 0) ∧ Same X w w' ∧ ∃ d', Dk X (K + 1) w' p d' ∧ d' = synced (spent d) i := by
  obtain ⟨q, h⟩ := h
  refine (Sync_c h (by omega) hl).mono fun e w' hT => told_zero hT fun n d' hq' => ?_
  exact onQ_of (deed_runs hq' hu hf (by intro x hx; simp at hx; subst hx; exact hr)) (i := i) hi

theorem syncDir_ok (h : Dk X K w p d) (hK : K + 2 ≤ 200) (hu : d.up = true) (hf : d.left ≠ 0) :
    Calls Tryz.prog 19 #[.pointer (some ⟨p, 0, none⟩)] w fun e w' => e = .returned (.int .i64 0) ∧ Same X w w' ∧ ∃ d', Dk X (K + 1) w' p d' ∧ d' = settled (spent d) (spent d).changes.length := by
  obtain ⟨q, h⟩ := h
  refine (SyncDir_c h (by omega)).mono fun e w' hT => told_zero hT fun n d' hq' => ?_
  exact deed_runs hq' hu hf (by intro x hx; cases hx)

theorem rename_ok (h : Dk X K w p d) (hK : K + 2 ≤ 200) {l m : List UInt8} (hl : l.length ≤ 1000000) (hm : m.length ≤ 1000000) {i : Nat} (hi : d.now l = some i) (hu : d.up = true) (hf : d.left ≠ 0) (hr : rightL l = true) (hr2 : rightL m = true) :
    Calls Tryz.prog 36 #[.pointer (some ⟨p, 0, none⟩), .string (mk l), .string (mk m)] w fun e w' => e = .returned (.int .i64 0) ∧ Same X w w' ∧ ∃ d', Dk X (K + 2) w' p d' ∧ d' = changed (spent d) ⟨l, m, some i⟩ := by
  obtain ⟨q, h⟩ := h
  refine (Rename_c h (by omega) hl hm).mono fun e w' hT => told_zero hT fun n d' hq' => ?_
  exact onQ_of (Q := fun i n d' => n = 0 ∧ d' = changed (spent d) ⟨l, m, some i⟩) (deed_runs hq' hu hf (by intro x hx; simp at hx; rcases hx with rfl | rfl; exact hr; exact hr2)) (i := i) hi

theorem restart_ok (h : Dk X K w p d) (hK : K + 1 ≤ 1000) (n : Int) {tv : Value} {ts : List Int} (htv : TRow w tv ts) (htX : ∀ k, Value.rowBlock tv = some k → X k) (hts : ts.length ≤ 1000000) :
    Calls Tryz.prog 12 #[.pointer (some ⟨p, 0, none⟩), .agg #[.int .i64 n, tv]] w fun e w' => (∃ x, e = .returned x) ∧ Same X w w' ∧
      ∃ ns : List (List UInt8), (ns.Nodup ∧ (∀ x, x ∈ ns ↔ ((back d n.toNat).now x).isSome = true) ∧ ns.length ≤ K) ∧ Dk X (K + 1) w' p (lostAll ts 0 ns (back d n.toNat)) := by
  obtain ⟨q, h⟩ := h
  exact restart_at h hK n htv htX hts

theorem one_name {a : List UInt8} {ns : List (List UInt8)} (hn : ns.Nodup) (h : ∀ x, x ∈ ns ↔ x = a) : ns = [a] := by
  match ns with
  | [] => have := (h a).2 rfl; cases this
  | [b] => rw [(h b).1 (by simp)]
  | b :: c :: r =>
    have h1 := (h b).1 (by simp)
    have h2 := (h c).1 (by simp)
    rw [h1, h2] at hn
    simp at hn
theorem no_name {ns : List (List UInt8)} (h : ∀ x, ¬ x ∈ ns) : ns = [] := by
  match ns with
  | [] => rfl
  | b :: r => exact absurd (by simp) (h b)

theorem tnil (w : World) : TRow w (.slice none 0 0) [] := ⟨none, 0, rfl, .inl rfl⟩

/-- string(b) -/
theorem conv_b {w : World} {v : Value} {bs : List UInt8} (h : BRow w v bs) : (convert 31 9 v).run Tryz.prog w = .ok (.string (mk bs)) w := by
  rcases h with ⟨rfl, rfl⟩ | ⟨a, cap, rfl, _, hc⟩
  · exact run_convert_bytes_nil w 31 5 Tryz.underlying31 Tryz.underlying5 0 0 9 Tryz.underlying9
  · exact run_convert_bytes_back (P := Tryz.prog) w 31 9 5 a cap bs Tryz.underlying31 Tryz.underlying5 Tryz.underlying9 (fun j hj => hc j _ (by simp [bytesV, hj]))
end Go.Proofs.YtfmelhcpccghdaaGreat

/-! WHAT THE CHAPTER's EXAMPLES SAY. -/
namespace Go.Proofs.YtfmelhcpccghdaaGreat
open Go.RowKit Go.Maps

def dA (i : Nat) : Ds := written (spent (newD 100)) [102] [97] i
def dB (i : Nat) : Ds := appended (spent (dA i)) i [98]
def dC (i : Nat) : Ds := synced (spent (dB i)) i

theorem dA_now (i : Nat) (x : List UInt8) : (dA i).now x = if x = [102] then some i else none := by
  show turn1 (fun _ => none) ⟨[], [102], some i⟩ x = _
  rw [turn1_file rfl]
  by_cases h : x = [102]
  · rw [h, upd_same, if_pos rfl]
  · rw [upd_other _ _ h, if_neg h]
    by_cases h2 : x = []
    · rw [h2]; exact upd_same _ _ _
    · exact upd_other _ _ h2
theorem dA_file (i : Nat) : (dA i).files i = ⟨[97], 0, 1⟩ := upd_same _ _ _
theorem dB_file (i : Nat) : (dB i).files i = ⟨[97, 98], 0, 2⟩ := by
  show upd (spent (dA i)).files i ⟨((dA i).files i).bytes ++ [98], ((dA i).files i).sure, (dA i).clock⟩ i = _
  rw [upd_same, dA_file]
  rfl
theorem dC_file (i : Nat) : (dC i).files i = ⟨[97, 98], 2, 2⟩ := by
  show upd (spent (dB i)).files i ⟨((dB i).files i).bytes, ((dB i).files i).bytes.length, ((dB i).files i).time⟩ i = _
  rw [upd_same, dB_file]
  rfl
theorem all_one {d : Ds} {i M : Nat} {l : List UInt8} (h : ∀ x, d.now x = if x = l then some i else none) (hl : (d.files i).bytes.length ≤ M) : ∀ x j, d.now x = some j → (d.files j).bytes.length ≤ M := by
  intro x j hj
  rw [h] at hj
  split at hj
  · cases hj; exact hl
  · cases hj

theorem dC_back0 (i : Nat) (x : List UInt8) : (back (dC i) 0).now x = none := rfl
theorem dC_back1 (i : Nat) (x : List UInt8) : (back (dC i) 1).now x = if x = [102] then some i else none := dA_now i x

theorem lostAll_nil (ts : List Int) (k : Nat) (d : Ds) : lostAll ts k [] d = d := rfl
theorem dC_lost (i : Nat) : (lostAll [] 0 [[102]] (back (dC i) 1)).now [102] = some i ∧ ((lostAll [] 0 [[102]] (back (dC i) 1)).files i).bytes = [97, 98] ∧ (lostAll [] 0 [[102]] (back (dC i) 1)).up = true := by
  have h1 : (back (dC i) 1).now [102] = some i := by rw [dC_back1, if_pos rfl]
  have hf : (back (dC i) 1).files i = ⟨[97, 98], 2, 2⟩ := dC_file i
  rw [lostAll_cons h1, lostAll_nil, lost_ge (by rw [hf]; decide), hf]
  refine ⟨h1, ?_, rfl⟩
  show (upd (back (dC i) 1).files i ⟨[97, 98], 2, 2⟩ i).bytes = _
  rw [upd_same]

theorem byte_row (w : World) (b : UInt8) (fz : Nat × Nat) : BRow (w.alloc (.cells #[.int .u8 b.toNat] 5 fz)) (.slice (some ⟨w.heap.size, 0, none⟩) 1 1) [b] := by
  refine .inr ⟨_, _, rfl, by simp, fun j u hj => ?_⟩
  have : bytesV [b] = [.int .u8 b.toNat] := rfl
  rw [this] at hj
  have hb : (w.alloc (.cells #[.int .u8 b.toNat] 5 fz)).heap[w.heap.size]? = some (.cells #[.int .u8 b.toNat] 5 fz) := heap_alloc_new w _
  exact World.news_of_block (cs := #[.int .u8 b.toNat]) hb j u hj

theorem Dk.up_frame {X : Nat → Prop} {K : Nat} {w : World} {p : Nat} {d : Ds} (h : Dk X K w p d) (o : Obj) : Dk (Since X w (w.alloc o)) K (w.alloc o) p d := h.since (below_alloc w o)

end Go.Proofs.YtfmelhcpccghdaaGreat

/-! A FRESH DISK; A DISK THAT IS DOWN. -/
namespace Go.Proofs.YtfmelhcpccghdaaGreat
open Go.RowKit Go.Maps

variable {X : Nat → Prop} {K : Nat} {w : World} {p : Nat} {q : Pl} {d : Ds}

theorem arm_ok (h : Dk X K w p d) (n : Int) (hn : -9223372036854775808 ≤ n ∧ n ≤ 9223372036854775807) : Calls Tryz.prog 11 #[.pointer (some ⟨p, 0, none⟩), .int .i64 n] w fun e w' => (∃ v, e = .returned v) ∧ Same X w w' ∧ Dk X K w' p { d with left := n } := by
  obtain ⟨q, h⟩ := h
  refine (arm_at h n hn).mono fun e w' ⟨h1, h2, h3⟩ => ⟨h1, h2, _, h3⟩
theorem down_ok (h : Dk X K w p d) : Calls Tryz.prog 13 #[.pointer (some ⟨p, 0, none⟩)] w fun e w' => e = .returned (.bool (!d.up)) ∧ w = w' := by
  obtain ⟨q, h⟩ := h; exact down_at h
/-- a deed of a disk that is down, or goes down -/
theorem append_no (h : Dk X K w p d) (hK : K + 3 ≤ 1000) {l : List UInt8} (hl : l.length ≤ 1000000) {v : Value} {bs : List UInt8} (hv : BRow w v bs) (hvX : ∀ k, Value.rowBlock v = some k → X k) (hbs : bs.length ≤ 65536) (hu : d.up = false ∨ d.left = 0) :
    Calls Tryz.prog 28 #[.pointer (some ⟨p, 0, none⟩), .string (mk l), v] w fun e w' => e = .returned (.int .i64 8) ∧ Same X w w' ∧ Dk X (K + 3) w' p { d with up := false } := by
  obtain ⟨q, h⟩ := h
  refine (Append_c h hK (M := 65536) (Nat.le_refl _) (fun l i hi => (h.file i (ref_now hi)).len) hl hv hvX (by omega)).mono ?_
  rintro e w' ⟨n, d', rfl, hs, hd, hq⟩
  cases hup : d.up with
  | false =>
    obtain ⟨rfl, he⟩ := deed_down hq hup
    refine ⟨rfl, hs, ?_⟩
    have e2 : ({ d with up := false } : Ds) = d := by rw [← hup]
    rw [e2, ← he]
    exact hd
  | true =>
    rcases hu with hu | hu
    · rw [hup] at hu; cases hu
    · obtain ⟨rfl, rfl⟩ := deed_falls hq hup hu
      exact ⟨rfl, hs, hd⟩
theorem syncDir_no (h : Dk X K w p d) (hK : K < 1000) (hu : d.up = false) : Calls Tryz.prog 19 #[.pointer (some ⟨p, 0, none⟩)] w fun e w' => e = .returned (.int .i64 8) ∧ Same X w w' ∧ Dk X (K + 1) w' p d := by
  obtain ⟨q, h⟩ := h
  refine (SyncDir_c h hK).mono ?_
  rintro e w' ⟨n, d', rfl, hs, hd, hq⟩
  obtain ⟨rfl, he⟩ := deed_down hq hu
  exact ⟨rfl, hs, by rw [← he]; exact hd⟩

end Go.Proofs.YtfmelhcpccghdaaGreat
