/-
  THE DOCUMENT's Read: what lies in memory, step by step.
-/
import Derived.Test.YtmhmoaokmfplpaaRefWr
import Derived.Test.YtmhmoaokmfplpaaRnTold
import Derived.Test.YtmhmoaokmfplpaaRnRead6
namespace Go.Proofs.Ytmhmoaokmfplpaa.Rn
open Go.RowKit
open Go.Proofs.Ytmhmoaokmfplpaa.Cr

/-- a time as the document keeps it -/
def dT (n : Nat) : Int := (n : Int) % 4611686018427387904
def dI (x : ByteArray × Nat) : In := ⟨x.1, dT x.2⟩

theorem dT_late {n : Nat} (h : lateB n = false) : dT n = (n : Int) := by
  have := lateB_lt h
  unfold dT
  omega

structure RP (w W : World) (q g b2 : Nat) (s : St) : Prop where
  rd : Pk.Rf W q g s.l s.bad
  lt : s.Lt
  b2c : W.heap[b2]? = some (.cells #[.string ⟨#[]⟩, .string ⟨#[]⟩, .int .i64 0, .int .i64 0, .slice Option.none 0 0, .slice Option.none 0 0] 25 (0, 0))
  ne : b2 ≠ q
  lo : w.heap.size ≤ b2 ∧ w.heap.size ≤ q
  bel : Below w.heap.size w W

theorem rf_bad {W : World} {q g : Nat} {l : List Nat} {bad : Bool} (h : Pk.Rf W q g l bad) : bad = true → l = [] := by
  obtain ⟨_, _, _, _, _, _, _, _, _, _, _, _, h1, _⟩ := h
  exact h1

theorem rf_q {W : World} {q g : Nat} {l : List Nat} {bad : Bool} (h : Pk.Rf W q g l bad) : q < W.heap.size ∧ W.cell? ⟨q, 2, Option.none⟩ = some (.bool bad) := by
  obtain ⟨_, _, _, _, _, _, _, hq, _⟩ := h
  exact ⟨lt_some hq, (Pk.cell_three hq).2.2.1⟩

theorem rf_kept {W W1 : World} {q g : Nat} {l : List Nat} {bad : Bool} (h : Pk.Rf W q g l bad) (h1 : W1.heap[q]? = W.heap[q]?) (h2 : W1.heap[g]? = W.heap[g]?) (hs : W.heap.size ≤ W1.heap.size) : Pk.Rf W1 q g l bad := by
  obtain ⟨hne, hlt, a, n, c, at', B, hq, hn, hat, hn1, hnc, e1, e2, hB⟩ := h
  refine ⟨hne, Nat.lt_of_lt_of_le hlt hs, a, n, c, at', B, h1.trans hq, hn, hat, hn1, hnc, e1, e2, ?_⟩
  rcases hB with h | ⟨off, e, hc⟩
  · exact .inl h
  · exact .inr ⟨off, e, fun i hi => (cell_of_block (j := off + i) h2).trans (hc i hi)⟩

section
variable {w W W1 : World} {q g b2 b7 : Nat} {s s' : St} {o c : ByteArray} {t m : Int} {vi vf : Value} {L : List In} {F : List Int}

theorem RP.step (h : RP w W q g b2 s) (hr : Pk.Rf W1 q g s'.l s'.bad) (ho : Pk.Only q W W1) (hl : s'.Lt) : RP w W1 q g b2 s' :=
  ⟨hr, hl, (ho.block b2 (lt_some h.b2c) h.ne).trans h.b2c, h.ne, h.lo, h.bel.trans (ho.below h.lo.2 h.bel.size)⟩

theorem RP.text (h : RP w W q g b2 s) : Calls Try.prog 50 #[.pointer (some ⟨q, 0, Option.none⟩)] W fun e W1 => e = .returned (.string s.tx) ∧ RP w W1 q g b2 s.text ∧ Pk.Only q W W1 :=
  (Pk.reftext_any q g s.l s.bad W h.rd (rf_bad h.rd) h.lt).mono fun _ _ ⟨he, hr, ho⟩ => ⟨he, h.step hr ho h.lt.text, ho⟩

theorem RP.time (h : RP w W q g b2 s) : Calls Try.prog 49 #[.pointer (some ⟨q, 0, Option.none⟩), .int .i64 8] W fun e W1 => e = .returned (.int .u64 (s.tm : Int)) ∧ RP w W1 q g b2 s.time ∧ Pk.Only q W W1 :=
  (Pk.number_any q g s.l s.bad 8 W h.rd (rf_bad h.rd) (by omega) (by omega) h.lt).mono fun _ _ ⟨he, hr, ho⟩ => ⟨he, h.step hr ho h.lt.time, ho⟩

theorem RP.count (h : RP w W q g b2 s) : Calls Try.prog 49 #[.pointer (some ⟨q, 0, Option.none⟩), .int .i64 4] W fun e W1 => e = .returned (.int .u64 (s.ct : Int)) ∧ RP w W1 q g b2 s.count ∧ Pk.Only q W W1 :=
  (Pk.number_any q g s.l s.bad 4 W h.rd (rf_bad h.rd) (by omega) (by omega) h.lt).mono fun _ _ ⟨he, hr, ho⟩ => ⟨he, h.step hr ho h.lt.count, ho⟩

structure RX (w W : World) (q g b2 b7 : Nat) (s : St) (o c : ByteArray) (t m : Int) (vi vf : Value) (L : List In) (F : List Int) : Prop where
  p : RP w W q g b2 s
  bx : W.heap[b7]? = some (.cells #[.string o, .string c, .int .i64 t, .int .i64 m, vi, vf] 25 (0, 0))
  ins : W.ownsRow (b7 + 1) 54 2 vi L.length (inV L)
  fds : W.ownsRow (b7 + 1) 3 1 vf F.length (tV F)
  ord : b2 < b7 ∧ q < b7 ∧ g < b7

theorem RX.keep (h : RX w W q g b2 b7 s o c t m vi vf L F) (hp : RP w W1 q g b2 s') (ho : Pk.Only q W W1) : RX w W1 q g b2 b7 s' o c t m vi vf L F := by
  have h7 := h.ord.2.1
  refine ⟨hp, (ho.block b7 (lt_some h.bx) (by omega)).trans h.bx, owns_kept h.ins fun k hk => ?_, owns_kept h.fds fun k hk => ?_, h.ord⟩
  · have := h.ins.lt k hk
    exact ho.block k (by omega) (by omega)
  · have := h.fds.lt k hk
    exact ho.block k (by omega) (by omega)

theorem RX.text (h : RX w W q g b2 b7 s o c t m vi vf L F) : Calls Try.prog 50 #[.pointer (some ⟨q, 0, Option.none⟩)] W fun e W1 => e = .returned (.string s.tx) ∧ RX w W1 q g b2 b7 s.text o c t m vi vf L F :=
  h.p.text.mono fun _ _ ⟨he, hp, ho⟩ => ⟨he, h.keep hp ho⟩
theorem RX.time (h : RX w W q g b2 b7 s o c t m vi vf L F) : Calls Try.prog 49 #[.pointer (some ⟨q, 0, Option.none⟩), .int .i64 8] W fun e W1 => e = .returned (.int .u64 (s.tm : Int)) ∧ RX w W1 q g b2 b7 s.time o c t m vi vf L F :=
  h.p.time.mono fun _ _ ⟨he, hp, ho⟩ => ⟨he, h.keep hp ho⟩
theorem RX.count (h : RX w W q g b2 b7 s o c t m vi vf L F) : Calls Try.prog 49 #[.pointer (some ⟨q, 0, Option.none⟩), .int .i64 4] W fun e W1 => e = .returned (.int .u64 (s.ct : Int)) ∧ RX w W1 q g b2 b7 s.count o c t m vi vf L F :=
  h.p.count.mono fun _ _ ⟨he, hp, ho⟩ => ⟨he, h.keep hp ho⟩

/-- the run's box is made -/
theorem RP.made (h : RP w W q g b2 s) (hg : g < W.heap.size) : RX w (W.alloc (.cells #[.string o, .string c, .int .i64 t, .int .i64 m, .slice Option.none 0 0, .slice Option.none 0 0] 25)) q g b2 W.heap.size s o c t m (.slice Option.none 0 0) (.slice Option.none 0 0) [] [] := by
  have hb2 := lt_some h.b2c
  have hq := (rf_q h.rd).1
  refine ⟨⟨rf_kept h.rd (Below.heap_alloc _ _ _ hq) (Below.heap_alloc _ _ _ hg) (by simp), h.lt, (Below.heap_alloc _ _ _ hb2).trans h.b2c, h.ne, h.lo, h.bel.alloc h.bel.size _⟩, heap_alloc_new _ _, World.ownsRow_nil _ _ _ _, World.ownsRow_nil _ _ _ _, ⟨hb2, hq, hg⟩⟩

/-- the box's two times are set -/
theorem RX.times (h : RX w W q g b2 b7 s o c t m vi vf L F) (t' m' : Int) : RX w ((W.setCell ⟨b7, 2, Option.none⟩ (.int .i64 t')).setCell ⟨b7, 3, Option.none⟩ (.int .i64 m')) q g b2 b7 s o c t' m' vi vf L F := by
  have ho := h.ord
  have hk : ∀ k, k ≠ b7 → ((W.setCell ⟨b7, 2, Option.none⟩ (.int .i64 t')).setCell ⟨b7, 3, Option.none⟩ (.int .i64 m')).heap[k]? = W.heap[k]? := fun k hk => (set_other hk).trans (set_other hk)
  have hs : ((W.setCell ⟨b7, 2, Option.none⟩ (.int .i64 t')).setCell ⟨b7, 3, Option.none⟩ (.int .i64 m')).heap.size = W.heap.size := by simp [World.setCell]
  refine ⟨⟨rf_kept h.p.rd (hk _ (by omega)) (hk _ (by omega)) (by omega), h.p.lt, (hk _ (by omega)).trans h.p.b2c, h.p.ne, h.p.lo, ?_⟩, ?_, owns_kept h.ins fun k hkk => hk k ?_, owns_kept h.fds fun k hkk => hk k ?_, ho⟩
  · have := h.p.lo
    exact h.p.bel.trans ⟨rfl, rfl, rfl, by omega, fun k hkk => hk k (by omega)⟩
  · have := Pk.set_block (j := 3) (u := .int .i64 m') (Pk.set_block (j := 2) (u := .int .i64 t') h.bx)
    simpa using this
  · have := h.ins.lt k hkk; omega
  · have := h.fds.lt k hkk; omega

/-- an input is put -/
theorem RX.putIn {ob : Obj} {vn : Value} {x : In} (h : RX w W q g b2 b7 s o c t m vi vf L F) (hg : (W.alloc ob).grownBy W1 vi.ownBlock) (hown : W1.ownsRow (b7 + 1) 54 2 vn (L.length + 1) (inV L ++ [.string x.name, .int .i64 x.time])) :
    RX w (W1.setCell ⟨b7, 4, Option.none⟩ vn) q g b2 b7 s o c t m vn vf (L ++ [x]) F := by
  have ho := h.ord
  have hb7 := lt_some h.bx
  have hz : (W.alloc ob).heap.size = W.heap.size + 1 := Array.size_push _
  have hk : ∀ k, k < W.heap.size → (vi.ownBlock ≠ some k) → W1.heap[k]? = W.heap[k]? := fun k hk hv => (hg.block k (by omega) fun e => hv e.symm).trans (Below.heap_alloc _ _ _ hk)
  have hlo : ∀ k, k ≤ b7 → W1.heap[k]? = W.heap[k]? := fun k hk7 => hk k (by omega) fun e => by have := (h.ins.lt k e).1; omega
  have hsz : W.heap.size ≤ W1.heap.size := by have := hg.size; omega
  have hs : (W1.setCell ⟨b7, 4, Option.none⟩ vn).heap.size = W1.heap.size := by simp [World.setCell]
  have hq : ∀ k, k < b7 → (W1.setCell ⟨b7, 4, Option.none⟩ vn).heap[k]? = W.heap[k]? := fun k hk => (set_other (by omega)).trans (hlo k (by omega))
  refine ⟨⟨rf_kept h.p.rd (hq _ ho.2.1) (hq _ ho.2.2) (by omega), h.p.lt, (hq _ ho.1).trans h.p.b2c, h.p.ne, h.p.lo, ?_⟩, ?_, ?_, owns_kept h.fds fun k hkk => ?_, ho⟩
  · have := h.p.lo
    exact h.p.bel.trans ⟨hg.os, hg.tape, hg.output, by omega, fun k hkk => hq k (by omega)⟩
  · have := Pk.set_block (j := 4) (u := vn) ((hlo b7 (by omega)).trans h.bx)
    simpa using this
  · have e : inV (L ++ [x]) = inV L ++ [.string x.name, .int .i64 x.time] := inV_snoc L x
    rw [e, List.length_append, List.length_singleton]
    exact owns_kept hown fun k hkk => set_other (by have := (hown.lt k hkk).1; omega)
  · have h1 := h.fds.lt k hkk
    refine (set_other (by omega)).trans (hk k h1.2 fun e => ?_)
    obtain ⟨_, c1, x1⟩ := owns_block h.ins e
    obtain ⟨_, c2, x2⟩ := owns_block h.fds hkk
    exact ne_type x1 x2 (by decide) rfl

/-- a time is put -/
theorem RX.putFd {ob : Obj} {vn : Value} {x : Int} (h : RX w W q g b2 b7 s o c t m vi vf L F) (hg : (W.alloc ob).grownBy W1 vf.ownBlock) (hown : W1.ownsRow (b7 + 1) 3 1 vn (F.length + 1) (tV F ++ [.int .i64 x])) :
    RX w (W1.setCell ⟨b7, 5, Option.none⟩ vn) q g b2 b7 s o c t m vi vn L (F ++ [x]) := by
  have ho := h.ord
  have hb7 := lt_some h.bx
  have hz : (W.alloc ob).heap.size = W.heap.size + 1 := Array.size_push _
  have hk : ∀ k, k < W.heap.size → (vf.ownBlock ≠ some k) → W1.heap[k]? = W.heap[k]? := fun k hk hv => (hg.block k (by omega) fun e => hv e.symm).trans (Below.heap_alloc _ _ _ hk)
  have hlo : ∀ k, k ≤ b7 → W1.heap[k]? = W.heap[k]? := fun k hk7 => hk k (by omega) fun e => by have := (h.fds.lt k e).1; omega
  have hsz : W.heap.size ≤ W1.heap.size := by have := hg.size; omega
  have hs : (W1.setCell ⟨b7, 5, Option.none⟩ vn).heap.size = W1.heap.size := by simp [World.setCell]
  have hq : ∀ k, k < b7 → (W1.setCell ⟨b7, 5, Option.none⟩ vn).heap[k]? = W.heap[k]? := fun k hk => (set_other (by omega)).trans (hlo k (by omega))
  refine ⟨⟨rf_kept h.p.rd (hq _ ho.2.1) (hq _ ho.2.2) (by omega), h.p.lt, (hq _ ho.1).trans h.p.b2c, h.p.ne, h.p.lo, ?_⟩, ?_, owns_kept h.ins fun k hkk => ?_, ?_, ho⟩
  · have := h.p.lo
    exact h.p.bel.trans ⟨hg.os, hg.tape, hg.output, by omega, fun k hkk => hq k (by omega)⟩
  · have := Pk.set_block (j := 5) (u := vn) ((hlo b7 (by omega)).trans h.bx)
    simpa using this
  · have h1 := h.ins.lt k hkk
    refine (set_other (by omega)).trans (hk k h1.2 fun e => ?_)
    obtain ⟨_, c1, x1⟩ := owns_block h.fds e
    obtain ⟨_, c2, x2⟩ := owns_block h.ins hkk
    exact ne_type x1 x2 (by decide) rfl
  · have e : tV (F ++ [x]) = tV F ++ [.int .i64 x] := by simp [tV]
    rw [e, List.length_append, List.length_singleton]
    exact owns_kept hown fun k hkk => set_other (by have := (hown.lt k hkk).1; omega)
end

theorem ct_lt {l : List Nat} (hl : ∀ n ∈ l, n < 256) : (s5 l).ct < 4294967296 := by
  have h1 : (s1 l).Lt := Pk.rdL_lt 8 hl
  have h2 : (s2 l).Lt := by unfold s2; exact h1.text
  have h3 : (s3 l).Lt := by unfold s3; exact h2.text
  have h4 : (s4 l).Lt := by unfold s4; exact h3.time
  have h5 : (s5 l).Lt := by unfold s5; exact h4.time
  have := Pk.rdN_lt 4 h5
  exact Nat.lt_of_lt_of_le this (by decide)

theorem insK_len (s : St) : ∀ k, (insK k s).1.length ≤ k := by
  intro k
  induction k with
  | zero => simp [insK]
  | succ k ih =>
    simp only [insK]
    split
    · show (insK k s).1.length ≤ k + 1
      omega
    · simp; omega
theorem fdsK_len (s : St) : ∀ k, (fdsK k s).1.length ≤ k := by
  intro k
  induction k with
  | zero => simp [fdsK]
  | succ k ih =>
    simp only [fdsK]
    split
    · show (fdsK k s).1.length ≤ k + 1
      omega
    · simp; omega

theorem fd_newsD (W : World) (t : Int) : (∀ j u, [Value.int .i64 t][j]? = some u → (W.alloc (.cells #[.int .i64 t] 3)).cell? ((⟨W.heap.size, 0, Option.none⟩ : Addr).add j) = some u) ∧ (∀ u ∈ [Value.int .i64 t], u.oneCell' = true) :=
  ⟨fun j u hu => World.news_of_block (w := W.alloc (.cells #[.int .i64 t] 3)) (cs := #[.int .i64 t]) (t := 3) (fr := (0, 0)) (heap_alloc_new W _) j u hu, by
    intro u hu
    simp at hu
    subst hu
    rfl⟩

theorem text_late (s : St) : s.text.late = s.late := rfl
theorem time_late (s : St) : s.time.late = (s.late || lateB s.tm) := rfl
theorem count_late (s : St) : s.count.late = s.late := rfl
theorem s1_late (l : List Nat) : (s1 l).late = false := by unfold s1; rfl

theorem late5 (l : List Nat) : (s5 l).count.late = (lateB (s3 l).tm || lateB (s4 l).tm) := by
  rw [count_late, show s5 l = (s4 l).time from by unfold s5; rfl, time_late]
  rw [show (s4 l).late = ((s3 l).late || lateB (s3 l).tm) from by rw [show s4 l = (s3 l).time from by unfold s4; rfl, time_late]]
  rw [show (s3 l).late = (s2 l).late from by rw [show s3 l = (s2 l).text from by unfold s3; rfl, text_late]]
  rw [show (s2 l).late = (s1 l).late from by rw [show s2 l = (s1 l).text from by unfold s2; rfl, text_late]]
  rw [s1_late, Bool.false_or]

theorem RX.box5 {w W W1 : World} {q g b2 b7 : Nat} {s : St} {o c : ByteArray} {t m : Int} {vi vf : Value} {L : List In} {F : List Int} {ob : Obj} (h : RX w W q g b2 b7 s o c t m vi vf L F) (hg : (W.alloc ob).grownBy W1 vi.ownBlock) :
    W1.heap[b7]? = some (.cells #[.string o, .string c, .int .i64 t, .int .i64 m, vi, vf] 25 (0, 0)) := by
  have hb7 := lt_some h.bx
  have hz : (W.alloc ob).heap.size = W.heap.size + 1 := Array.size_push _
  exact ((hg.block b7 (by omega) fun e => by have := (h.ins.lt b7 e.symm).1; omega).trans (Below.heap_alloc _ _ _ hb7)).trans h.bx
theorem RX.box6 {w W W1 : World} {q g b2 b7 : Nat} {s : St} {o c : ByteArray} {t m : Int} {vi vf : Value} {L : List In} {F : List Int} {ob : Obj} (h : RX w W q g b2 b7 s o c t m vi vf L F) (hg : (W.alloc ob).grownBy W1 vf.ownBlock) :
    W1.heap[b7]? = some (.cells #[.string o, .string c, .int .i64 t, .int .i64 m, vi, vf] 25 (0, 0)) := by
  have hb7 := lt_some h.bx
  have hz : (W.alloc ob).heap.size = W.heap.size + 1 := Array.size_push _
  exact ((hg.block b7 (by omega) fun e => by have := (h.fds.lt b7 e.symm).1; omega).trans (Below.heap_alloc _ _ _ hb7)).trans h.bx

theorem isK_end {S T : St} {I : List (ByteArray × Nat)} {j K : Nat} (hj : j ≤ K) (hT : insK j S = (I, T)) (h : ¬ (decide (j < K) && !T.bad) = true) : insK K S = (I, T) := by
  by_cases e : j = K
  · rw [← e]; exact hT
  · have hb : T.bad = true := by
      have hlt : j < K := by omega
      simpa [hlt] using h
    rw [insK_bad (k := j) (by rw [hT]; exact hb) K hj, hT]
theorem fsK_end {S T : St} {I : List Nat} {j K : Nat} (hj : j ≤ K) (hT : fdsK j S = (I, T)) (h : ¬ (decide (j < K) && !T.bad) = true) : fdsK K S = (I, T) := by
  by_cases e : j = K
  · rw [← e]; exact hT
  · have hb : T.bad = true := by
      have hlt : j < K := by omega
      simpa [hlt] using h
    rw [fdsK_bad (k := j) (by rw [hT]; exact hb) K hj, hT]
theorem isK_next {S T : St} {I : List (ByteArray × Nat)} {j : Nat} (hT : insK j S = (I, T)) (hb : T.bad = false) : insK (j + 1) S = (I ++ [(T.tx, T.text.tm)], T.text.time) := by
  have := insS (s := S) (j := j) (by rw [hT]; exact hb)
  rw [hT] at this
  exact this
theorem fsK_next {S T : St} {I : List Nat} {j : Nat} (hT : fdsK j S = (I, T)) (hb : T.bad = false) : fdsK (j + 1) S = (I ++ [T.tm], T.time) := by
  have := fdsS (s := S) (j := j) (by rw [hT]; exact hb)
  rw [hT] at this
  exact this
theorem isK_len {S T : St} {I : List (ByteArray × Nat)} {j : Nat} (hT : insK j S = (I, T)) : I.length ≤ j := by have := insK_len S j; rw [hT] at this; exact this
theorem fsK_len {S T : St} {I : List Nat} {j : Nat} (hT : fdsK j S = (I, T)) : I.length ≤ j := by have := fdsK_len S j; rw [hT] at this; exact this

/-- the document's Read's end -/
def RrQ (w : World) (b : List Nat) (e : Ending) (w' : World) : Prop :=
  ∃ vi vf, e = .returned (.tuple #[.agg (runC (rdO b) vi vf), .bool (fits b)]) ∧ InRow w' vi (rdO b).ins ∧ FdRow w' vf (rdO b).found ∧ Below w.heap.size w w'

section
variable {w W : World} {q g b2 b7 : Nat} {s : St} {o c : ByteArray} {t m : Int} {vi vf : Value} {L : List In} {F : List Int} {l : List Nat}
theorem rr_no (hf : fits l = false) (h : RX w W q g b2 b7 s o c t m vi vf L F) {W' : World} (hW : Below W.heap.size W W') {v0 v1 v2 v3 v4 v5 : Value} :
    RrQ w l (.returned (.tuple #[.agg #[.string ⟨#[]⟩, .string ⟨#[]⟩, .int .i64 0, .int .i64 0, .slice Option.none 0 0, .slice Option.none 0 0], .bool false])) (six W' b2 v0 v1 v2 v3 v4 v5) := by
  have e2 : rdO l = none := by unfold rdO; rw [hf]; rfl
  refine ⟨.slice Option.none 0 0, .slice Option.none 0 0, ?_, ?_, ?_, ?_⟩
  · rw [hf, e2]; rfl
  · rw [e2]; exact ⟨Option.none, 0, rfl, fun _ => rfl, Nat.le_refl _, .inl rfl⟩
  · rw [e2]; exact ⟨Option.none, 0, rfl, fun _ => rfl, Nat.le_refl _, .inl rfl⟩
  · exact (h.p.bel.trans (hW.mono h.p.bel.size)).trans ((six_off (C := fun j => j = b2) rfl).below (by rintro j rfl; exact h.p.lo.1) (Nat.le_trans h.p.bel.size hW.size))

theorem rr_yes (hl : ∀ n ∈ l, n < 256) (hf : fits l = true) (h : RX w W q g b2 b7 s o c t m vi vf L F) {W' : World} (hW : Below W.heap.size W W') {v0 v1 v2 v3 v4 v5 : Value}
    (ho : o = (s1 l).tx) (hc : c = (s2 l).tx) (ht : t = dT (s3 l).tm) (hm : m = dT (s4 l).tm) (hL : L = (rdIns l).map dI) (hF : F = (rdFds l).map dT) :
    RrQ w l (.returned (.tuple #[.agg #[.string o, .string c, .int .i64 t, .int .i64 m, vi, vf], .bool true])) (six W' b2 v0 v1 v2 v3 v4 v5) := by
  have e2 : rdO l = rdR l := by unfold rdO; rw [hf]; rfl
  have hs := (read_bwd hl hf).2.2
  have e3 := rdR_ins l
  have e4 := rdR_found l
  have h1 := hs.time.2
  have h2 := hs.mark.2
  have h3 := hs.ins
  have h4 := hs.fds
  have key : ∀ n : Nat, (n : Int) < 4611686018427387904 → dT n = (n : Int) := fun n hn => by unfold dT; omega
  have eL : L = (rdR l).ins := by
    rw [e3] at h3 ⊢
    rw [hL]
    generalize rdIns l = I at h3 ⊢
    refine List.map_congr_left fun x hx => ?_
    show In.mk x.1 (dT x.2) = _
    rw [key _ (h3 _ (List.mem_map.2 ⟨x, hx, rfl⟩)).2]
  have eF : F = (rdR l).found := by
    rw [e4] at h4 ⊢
    rw [hF]
    generalize rdFds l = I at h4 ⊢
    exact List.map_congr_left fun x hx => key _ (h4 _ (List.mem_map.2 ⟨x, hx, rfl⟩)).2
  have eo : o = (rdR l).out := by rw [rdR_out, ho]
  have ec : c = (rdR l).cmd := by rw [rdR_cmd, hc]
  have et : t = (rdR l).time := by rw [rdR_time, ht, key _ (by rw [rdR_time] at h1; exact h1)]
  have em : m = (rdR l).mark := by rw [rdR_mark, hm, key _ (by rw [rdR_mark] at h2; exact h2)]
  have kk : ∀ k, b7 < k → k < W.heap.size → (six W' b2 v0 v1 v2 v3 v4 v5).heap[k]? = W.heap[k]? := fun k hk hlt => (six_other (by have := h.ord.1; omega)).trans (hW.block k hlt)
  refine ⟨vi, vf, ?_, ?_, ?_, ?_⟩
  · rw [hf, e2, eo, ec, et, em]; rfl
  · rw [e2, ← eL]; exact inRow_of (owns_kept h.ins fun k hk => kk k (by have := (h.ins.lt k hk).1; omega) (h.ins.lt k hk).2)
  · rw [e2, ← eF]; exact fdRow_of (owns_kept h.fds fun k hk => kk k (by have := (h.fds.lt k hk).1; omega) (h.fds.lt k hk).2)
  · exact (h.p.bel.trans (hW.mono h.p.bel.size)).trans ((six_off (C := fun j => j = b2) rfl).below (by rintro j rfl; exact h.p.lo.1) (Nat.le_trans h.p.bel.size hW.size))
end
end Go.Proofs.Ytmhmoaokmfplpaa.Rn
