/-
  runs.Read, WALKED WHOLE.
-/
import Derived.Test.YtdijpoemimebmaaRnRead3
import Derived.Laws.EntriesVeiled
import Derived.Deep.DeepCutAuto
namespace Go.Proofs.Ytdijpoemimebmaa.Rn
open Go.RowKit
open Go.Proofs.Ytdijpoemimebmaa.Cr

theorem bytes_ins_len (L : List In) : (bytes (insP L)).length = (L.map fun i => 10 + i.name.size).sum := by
  induction L with
  | nil => rfl
  | cons x L ih =>
    have : insP (x :: L) = [.T x.name, .M x.time] ++ insP L := rfl
    rw [this, bytes_app, List.length_append, ih]
    simp [bytes_length, size, psz]
    omega

theorem ins_count {s : St} (hs : s.Lt) {k : Nat} (h : (insK k s).2.bad = false) : (insK k s).1.length * 10 ≤ s.l.length := by
  obtain ⟨_, h2, h3, _⟩ := ins_bwd hs k h
  have h4 := congrArg List.length h3
  rw [List.length_append, bytes_ins_len] at h4
  have h5 : ∀ L : List In, L.length * 10 ≤ (L.map fun i => 10 + i.name.size).sum := by
    intro L
    induction L with
    | nil => simp
    | cons x L ih => simp; omega
  have h6 := h5 ((insK k s).1.map In.of)
  rw [List.length_map] at h6
  omega

theorem fds_count {s : St} (hs : s.Lt) {k : Nat} (h : (fdsK k s).2.bad = false) : (fdsK k s).1.length * 8 ≤ s.l.length := by
  obtain ⟨_, h2, h3, _⟩ := fds_bwd hs k h
  have h4 := congrArg List.length h3
  rw [List.length_append, bytes_length] at h4
  have h5 : ∀ L : List Int, size (L.map .M) = L.length * 8 := by
    intro L
    induction L with
    | nil => rfl
    | cons x L ih => simp [size, psz] at ih ⊢; omega
  rw [h5, List.length_map] at h4
  omega

section
variable {W W0 : World} {p g b4 b5 b6 b9 base : Nat} {s : St} {o c : ByteArray} {t m : Int}

/-- the inputs, one by one -/
def InsI (W0 : World) (p g b4 b5 b6 b9 base : Nat) (o c : ByteArray) (t m : Int) (s : St) (j : Nat) (W : World) : Prop :=
  RdS W p g b4 b5 b6 (insK j s).2 ∧ (∃ vi, BoxS W b9 base o c t m vi (.slice Option.none 0 0) (insK j s).1 []) ∧ Off (fun k => k = p ∨ k = b5 ∨ base ≤ k) W0 W

theorem insS {j : Nat} (h : (insK j s).2.bad = false) : insK (j + 1) s = ((insK j s).1 ++ [((insK j s).2.tx, (insK j s).2.text.tm)], (insK j s).2.text.time) := by
  simp only [insK, h, Bool.false_eq_true, if_false]

theorem fdsS {j : Nat} (h : (fdsK j s).2.bad = false) : fdsK (j + 1) s = ((fdsK j s).1 ++ [(fdsK j s).2.tm], (fdsK j s).2.time) := by
  simp only [fdsK, h, Bool.false_eq_true, if_false]

theorem ins_c (h : RdS W p g b4 b5 b6 s) (hbox : BoxS W b9 base o c t m (.slice Option.none 0 0) (.slice Option.none 0 0) [] []) (hbase : base ≤ W.heap.size) (hb9 : base ≤ b9) (hp : p < base) (hg : g < base) (h4 : b4 < base) (h5 : b5 < base) (h6 : b6 < base) :
    Calls Try.prog 42 #[.func (.func 46) #[] #[.pointer (some ⟨b9, 0, Option.none⟩), .pointer (some ⟨b4, 0, Option.none⟩), .pointer (some ⟨b6, 0, Option.none⟩)], .pointer (some ⟨b4, 0, Option.none⟩)] W fun e W' => (∃ z, e = .returned z) ∧ InsI W p g b4 b5 b6 b9 base o c t m s.count s.ct W' := by
  refine (list_c (I := InsI W p g b4 b5 b6 b9 base o c t m s.count) (S := fun j => (insK j s.count).2) h (fun W' => rfl) (fun j W' hI => hI.1) ?_ ?_).mono ?_
  · intro W' hr ho
    exact ⟨hr, ⟨_, boxOnly hbox ho hb9 hp⟩, only_off ho (.inl rfl)⟩
  · rintro j W' _ hb ⟨hr, ⟨vi, hx⟩, hof⟩
    have hc := ins_count h.lt.count hb
    have hl := count_len h.len
    refine (in_c hr hx (Nat.le_trans hbase hof.size) (by omega) hb9 hp hg h4 h5 h6).mono ?_
    rintro e W'' ⟨hz, hr', ⟨vi', hx'⟩, hof'⟩
    unfold InsI
    rw [insS hb]
    exact ⟨hz, hr', ⟨vi', hx'⟩, hof.trans hof'⟩
  · rintro e W' ⟨hz, j, hj, hI, hend⟩
    refine ⟨hz, ?_⟩
    rcases hend with rfl | hb
    · exact hI
    · unfold InsI at hI ⊢
      rw [insK_bad hb _ hj]
      exact hI

def FdsI (W0 : World) (p g b4 b5 b6 b9 base : Nat) (o c : ByteArray) (t m : Int) (vi : Value) (L : List (ByteArray × Nat)) (s : St) (j : Nat) (W : World) : Prop :=
  RdS W p g b4 b5 b6 (fdsK j s).2 ∧ (∃ vf, BoxS W b9 base o c t m vi vf L (fdsK j s).1) ∧ Off (fun k => k = p ∨ k = b5 ∨ base ≤ k) W0 W

theorem fds_c {vi : Value} {L : List (ByteArray × Nat)} (h : RdS W p g b4 b5 b6 s) (hbox : BoxS W b9 base o c t m vi (.slice Option.none 0 0) L []) (hbase : base ≤ W.heap.size) (hb9 : base ≤ b9) (hp : p < base) (hg : g < base) (h4 : b4 < base) (h5 : b5 < base) (h6 : b6 < base) :
    Calls Try.prog 42 #[.func (.func 47) #[] #[.pointer (some ⟨b9, 0, Option.none⟩), .pointer (some ⟨b6, 0, Option.none⟩)], .pointer (some ⟨b4, 0, Option.none⟩)] W fun e W' => (∃ z, e = .returned z) ∧ FdsI W p g b4 b5 b6 b9 base o c t m vi L s.count s.ct W' := by
  refine (list_c (I := FdsI W p g b4 b5 b6 b9 base o c t m vi L s.count) (S := fun j => (fdsK j s.count).2) h (fun W' => rfl) (fun j W' hI => hI.1) ?_ ?_).mono ?_
  · intro W' hr ho
    exact ⟨hr, ⟨_, boxOnly hbox ho hb9 hp⟩, only_off ho (.inl rfl)⟩
  · rintro j W' _ hb ⟨hr, ⟨vf, hx⟩, hof⟩
    have hc := fds_count h.lt.count hb
    have hl := count_len h.len
    refine (fd_c hr hx (Nat.le_trans hbase hof.size) (by omega) hb9 hp hg h4 h5 h6).mono ?_
    rintro e W'' ⟨hz, hr', ⟨vf', hx'⟩, hof'⟩
    unfold FdsI
    rw [fdsS hb]
    exact ⟨hz, hr', ⟨vf', hx'⟩, hof.trans hof'⟩
  · rintro e W' ⟨hz, j, hj, hI, hend⟩
    refine ⟨hz, ?_⟩
    rcases hend with rfl | hb
    · exact hI
    · unfold FdsI at hI ⊢
      rw [fdsK_bad hb _ hj]
      exact hI
end

section
variable {W : World} {p g b4 b5 b6 : Nat} {s : St}

theorem conjS (h : RdS W p g b4 b5 b6 s) : W.cell? ⟨b4, 0, Option.none⟩ = some (.pointer (some ⟨p, 0, Option.none⟩)) ∧ W.cell? ⟨b6, 0, Option.none⟩ = some (.func (.func 40) #[] #[.pointer (some ⟨b4, 0, Option.none⟩), .pointer (some ⟨b5, 0, Option.none⟩)]) :=
  ⟨(one_cell h.h4).1, (one_cell h.h6).1⟩

theorem conjA (h : RdS W p g b4 b5 b6 s) (ob : Obj) : (W.alloc ob).cell? ⟨b4, 0, Option.none⟩ = some (.pointer (some ⟨p, 0, Option.none⟩)) ∧ (W.alloc ob).cell? ⟨b6, 0, Option.none⟩ = some (.func (.func 40) #[] #[.pointer (some ⟨b4, 0, Option.none⟩), .pointer (some ⟨b5, 0, Option.none⟩)]) :=
  ⟨(cell_of_block (Below.heap_alloc _ _ _ (lt_some h.h4))).trans (one_cell h.h4).1, (cell_of_block (Below.heap_alloc _ _ _ (lt_some h.h6))).trans (one_cell h.h6).1⟩

theorem told_c {l : List Nat} (h : RdS W p g b4 b5 b6 (s0 l)) :
    Calls Try.prog 41 #[.pointer (some ⟨p, 0, Option.none⟩)] W fun e W' => e = .returned (.int .u64 (Pk.rdN 8 l : Int)) ∧ RdS W' p g b4 b5 b6 (s1 l) ∧ Pk.Only p W W' :=
  (Pk.u64r_any p g l false W h.rd h.len h.lt).mono fun _ _ ⟨h1, h2, h3⟩ => ⟨h1, h.only (s' := s1 l) h2 h3 rfl (Pk.rdL_lt 8 h.lt) (Nat.le_trans (Pk.rdL_le 8 l) h.len), h3⟩

/-- a run's cells, all nothing -/
def zeroC : Array Value := #[.string ⟨#[]⟩, .string ⟨#[]⟩, .int .i64 0, .int .i64 0, .slice Option.none 0 0, .slice Option.none 0 0]

/-- a step of the reading, with what stands besides: is the run's block there? -/
structure Go1 (w0 W : World) (p g b4 b5 b6 : Nat) (nb : Option Nat) (s : St) : Prop where
  rd : RdS W p g b4 b5 b6 s
  of : Off (fun k => k = p ∨ k = b5) w0 W
  bx : ∀ k, nb = some k → w0.heap.size ≤ k ∧ W.heap[k]? = some (.cells zeroC 33 (0, 0))
  lo : p < w0.heap.size ∧ g < w0.heap.size ∧ b4 < w0.heap.size ∧ b5 < w0.heap.size ∧ b6 < w0.heap.size

theorem Go1.step {w0 W' : World} {nb : Option Nat} {s' : St} (h : Go1 w0 W p g b4 b5 b6 nb s) (hr : RdS W' p g b4 b5 b6 s') (ho : Off (fun k => k = p ∨ k = b5) W W') : Go1 w0 W' p g b4 b5 b6 nb s' :=
  ⟨hr, h.of.trans ho, fun k hk => by
    obtain ⟨h1, h2⟩ := h.bx k hk
    have := h.lo
    exact ⟨h1, (ho.block k (lt_some h2) (by omega)).trans h2⟩, h.lo⟩

theorem go1Text {w0 : World} {nb : Option Nat} (h : Go1 w0 W p g b4 b5 b6 nb s) : Calls Try.prog 45 #[.pointer (some ⟨p, 0, Option.none⟩)] W fun e W' => e = .returned (.string s.tx) ∧ Go1 w0 W' p g b4 b5 b6 nb s.text :=
  (text_c h.rd).mono fun _ _ ⟨he, hr, ho⟩ => ⟨he, h.step hr (only_off ho (.inl rfl))⟩

theorem go1Time {w0 : World} {nb : Option Nat} (h : Go1 w0 W p g b4 b5 b6 nb s) : Calls Try.prog 40 #[.pointer (some ⟨b4, 0, Option.none⟩), .pointer (some ⟨b5, 0, Option.none⟩)] W fun e W' => e = .returned (.int .i64 (tmI s.tm)) ∧ Go1 w0 W' p g b4 b5 b6 nb s.time :=
  (time_c h.rd).mono fun _ _ ⟨he, hr, ho⟩ => ⟨he, h.step hr ho⟩

theorem Go1.drew {w0 : World} {nb : Option Nat} (h : Go1 w0 W p g b4 b5 b6 nb s) : Go1 w0 W.drew p g b4 b5 b6 nb s := ⟨h.rd.drew, ⟨h.of.os, h.of.tape, h.of.output, h.of.size, h.of.block⟩, h.bx, h.lo⟩

theorem RdS.alloc (h : RdS W p g b4 b5 b6 s) (ob : Obj) : RdS (W.alloc ob) p g b4 b5 b6 s :=
  h.off (C := fun _ => False) ⟨rfl, rfl, rfl, by simp, fun k hk _ => Below.heap_alloc _ _ k hk⟩ (fun h => h) (fun h => h) (fun h => h) (fun h => h) (fun h => h)

theorem Go1.alloc {w0 : World} (h : Go1 w0 W p g b4 b5 b6 Option.none s) : Go1 w0 (W.alloc (.cells #[.string ⟨#[]⟩, .string ⟨#[]⟩, .int .i64 0, .int .i64 0, .slice Option.none 0 0, .slice Option.none 0 0] 33)) p g b4 b5 b6 (some W.heap.size) s :=
  ⟨h.rd.alloc _, h.of.trans ⟨rfl, rfl, rfl, by simp, fun k hk _ => Below.heap_alloc _ _ k hk⟩, fun k hk => by
    cases hk
    exact ⟨h.of.size, heap_alloc_new _ _⟩, h.lo⟩

/-- six stores into one block -/
def six (W : World) (k : Nat) (v0 v1 v2 v3 v4 v5 : Value) : World :=
  (((((W.setCell ⟨k, 0, Option.none⟩ v0).setCell ⟨k, 1, Option.none⟩ v1).setCell ⟨k, 2, Option.none⟩ v2).setCell ⟨k, 3, Option.none⟩ v3).setCell ⟨k, 4, Option.none⟩ v4).setCell ⟨k, 5, Option.none⟩ v5

theorem six_other {k q : Nat} {v0 v1 v2 v3 v4 v5 : Value} (h : q ≠ k) : (six W k v0 v1 v2 v3 v4 v5).heap[q]? = W.heap[q]? := by
  unfold six
  rw [set_other h, set_other h, set_other h, set_other h, set_other h, set_other h]

theorem six_same {k : Nat} {v0 v1 v2 v3 v4 v5 u0 u1 u2 u3 u4 u5 : Value} {t : TypeId} (h : W.heap[k]? = some (.cells #[u0, u1, u2, u3, u4, u5] t (0, 0))) : (six W k v0 v1 v2 v3 v4 v5).heap[k]? = some (.cells #[v0, v1, v2, v3, v4, v5] t (0, 0)) := by
  unfold six
  have h0 := Pk.set_block (j := 0) (u := v0) h
  have h1 := Pk.set_block (j := 1) (u := v1) h0
  have h2 := Pk.set_block (j := 2) (u := v2) h1
  have h3 := Pk.set_block (j := 3) (u := v3) h2
  have h4 := Pk.set_block (j := 4) (u := v4) h3
  have h5 := Pk.set_block (j := 5) (u := v5) h4
  simpa using h5

theorem six_off {C : Nat → Prop} {k : Nat} {v0 v1 v2 v3 v4 v5 : Value} (h : C k) : Off C W (six W k v0 v1 v2 v3 v4 v5) :=
  ((((((off_set h).trans (off_set h)).trans (off_set h)).trans (off_set h)).trans (off_set h)).trans (off_set h))

theorem conjB {w0 : World} {k : Nat} (h : Go1 w0 W p g b4 b5 b6 (some k) s) (v0 v1 v2 v3 v4 v5 : Value) :
    ((((((W.setCell ⟨k, 0, Option.none⟩ v0).setCell ⟨k, 1, Option.none⟩ v1).setCell ⟨k, 2, Option.none⟩ v2).setCell ⟨k, 3, Option.none⟩ v3).setCell ⟨k, 4, Option.none⟩ v4).setCell ⟨k, 5, Option.none⟩ v5).cell? ⟨b4, 0, Option.none⟩ = some (.pointer (some ⟨p, 0, Option.none⟩)) ∧
    ((((((W.setCell ⟨k, 0, Option.none⟩ v0).setCell ⟨k, 1, Option.none⟩ v1).setCell ⟨k, 2, Option.none⟩ v2).setCell ⟨k, 3, Option.none⟩ v3).setCell ⟨k, 4, Option.none⟩ v4).setCell ⟨k, 5, Option.none⟩ v5).cell? ⟨b6, 0, Option.none⟩ = some (.func (.func 40) #[] #[.pointer (some ⟨b4, 0, Option.none⟩), .pointer (some ⟨b5, 0, Option.none⟩)]) := by
  obtain ⟨hk, _⟩ := h.bx k rfl
  have hl := h.lo
  have e4 := six_other (W := W) (v0 := v0) (v1 := v1) (v2 := v2) (v3 := v3) (v4 := v4) (v5 := v5) (show b4 ≠ k by omega)
  have e6 := six_other (W := W) (v0 := v0) (v1 := v1) (v2 := v2) (v3 := v3) (v4 := v4) (v5 := v5) (show b6 ≠ k by omega)
  exact ⟨(cell_of_block e4).trans (one_cell h.rd.h4).1, (cell_of_block e6).trans (one_cell h.rd.h6).1⟩

/-- what the region comes to -/
def RegQ (w0 : World) (p g b4 b5 b6 : Nat) (s : St) (o c : ByteArray) (t m : Int) (s9 : Value) (wx : World) : Prop :=
  ∃ b9 : Nat, s9 = .pointer (some ⟨b9, 0, Option.none⟩) ∧ RdS wx p g b4 b5 b6 s ∧ BoxS wx b9 w0.heap.size o c t m (.slice Option.none 0 0) (.slice Option.none 0 0) [] [] ∧ Off (fun k => k = p ∨ k = b5 ∨ w0.heap.size ≤ k) w0 wx ∧ w0.heap.size ≤ b9

theorem reg_six {w0 : World} {k : Nat} {o c : ByteArray} {t m : Int} (h : Go1 w0 W p g b4 b5 b6 (some k) s) : RegQ w0 p g b4 b5 b6 s o c t m (.pointer (some ⟨k, 0, Option.none⟩)) ((((((W.setCell ⟨k, 0, Option.none⟩ (.string o)).setCell ⟨k, 1, Option.none⟩ (.string c)).setCell ⟨k, 2, Option.none⟩ (.int .i64 t)).setCell ⟨k, 3, Option.none⟩ (.int .i64 m)).setCell ⟨k, 4, Option.none⟩ (.slice Option.none 0 0)).setCell ⟨k, 5, Option.none⟩ (.slice Option.none 0 0)) := by
  show RegQ w0 p g b4 b5 b6 s o c t m _ (six W k (.string o) (.string c) (.int .i64 t) (.int .i64 m) (.slice Option.none 0 0) (.slice Option.none 0 0))
  obtain ⟨hk, hb⟩ := h.bx k rfl
  have hl := h.lo
  refine ⟨k, rfl, h.rd.off (six_off (C := fun j => j = k) rfl) (by omega) (by omega) (by omega) (by omega) (by omega), ⟨six_same hb, World.ownsRow_nil _ _ _ _, World.ownsRow_nil _ _ _ _⟩, ?_, hk⟩
  exact (offTime h.of).trans (six_off (.inr (.inr hk)))

theorem reg_new {w0 : World} {o c : ByteArray} {t m : Int} (h : Go1 w0 W p g b4 b5 b6 Option.none s) : RegQ w0 p g b4 b5 b6 s o c t m (.pointer (some ⟨W.heap.size, 0, Option.none⟩)) (W.alloc (.cells #[.string o, .string c, .int .i64 t, .int .i64 m, .slice Option.none 0 0, .slice Option.none 0 0] 33)) :=
  ⟨W.heap.size, rfl, h.rd.alloc _, ⟨heap_alloc_new _ _, World.ownsRow_nil _ _ _ _, World.ownsRow_nil _ _ _ _⟩, (offTime h.of).trans ⟨rfl, rfl, rfl, by simp, fun k hk _ => Below.heap_alloc _ _ k hk⟩, h.of.size⟩

theorem zcells {w0 : World} {k : Nat} (h : Go1 w0 W p g b4 b5 b6 (some k) s) :
    (W.cell? ⟨k, 0, Option.none⟩ = some (.string ⟨#[]⟩) ∧ W.cell? ⟨k, 1, Option.none⟩ = some (.string ⟨#[]⟩) ∧ W.cell? ⟨k, 2, Option.none⟩ = some (.int .i64 0) ∧ W.cell? ⟨k, 3, Option.none⟩ = some (.int .i64 0) ∧ W.cell? ⟨k, 4, Option.none⟩ = some (.slice Option.none 0 0) ∧ W.cell? ⟨k, 5, Option.none⟩ = some (.slice Option.none 0 0)) ∧
    (W.frozen? ⟨k, 0, Option.none⟩ = false ∧ W.frozen? ⟨k, 1, Option.none⟩ = false ∧ W.frozen? ⟨k, 2, Option.none⟩ = false ∧ W.frozen? ⟨k, 3, Option.none⟩ = false ∧ W.frozen? ⟨k, 4, Option.none⟩ = false ∧ W.frozen? ⟨k, 5, Option.none⟩ = false) := by
  obtain ⟨_, h⟩ := h.bx k rfl
  unfold zeroC at h
  simp [World.cell?, World.frozen?, h]
end

end Go.Proofs.Ytdijpoemimebmaa.Rn
