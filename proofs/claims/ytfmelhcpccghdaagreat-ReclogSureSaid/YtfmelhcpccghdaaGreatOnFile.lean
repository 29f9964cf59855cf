/-
  Append; A DEED WITH A FILE THAT MUST BE THERE; Sync.
-/
import Derived.Test.YtfmelhcpccghdaaGreatDoAppend
namespace Go.Proofs.YtfmelhcpccghdaaGreat
open Go.RowKit Go.Maps

variable {X : Nat → Prop} {K : Nat} {w : World} {p : Nat} {q : Pl} {d : Ds}

theorem cf43 (cs : Array Value) (W : World) : Sem.run Tryz.prog (callFunc 54 cs) W = .ok (.enter 54 cs) W := by kernel_rfl
theorem cf56 (cs : Array Value) (W : World) : Sem.run Tryz.prog (callFunc 77 cs) W = .ok (.enter 77 cs) W := by kernel_rfl
theorem cf41 (cs : Array Value) (W : World) : Sem.run Tryz.prog (callFunc 58 cs) W = .ok (.enter 58 cs) W := by kernel_rfl
theorem cf46 (cs : Array Value) (W : World) : Sem.run Tryz.prog (callFunc 59 cs) W = .ok (.enter 59 cs) W := by kernel_rfl
theorem cf50 (cs : Array Value) (W : World) : Sem.run Tryz.prog (callFunc 71 cs) W = .ok (.enter 71 cs) W := by kernel_rfl
theorem cf51 (cs : Array Value) (W : World) : Sem.run Tryz.prog (callFunc 67 cs) W = .ok (.enter 67 cs) W := by kernel_rfl
theorem cf42 (cs : Array Value) (W : World) : Sem.run Tryz.prog (callFunc 45 cs) W = .ok (.enter 45 cs) W := by kernel_rfl

set_option maxHeartbeats 2000000 in
theorem Append_c (h : DkAt X K w p q d) (hK : K + 3 ≤ 1000) {M : Nat} (hM : M ≤ 65536) (hall : ∀ l i, d.now l = some i → (d.files i).bytes.length ≤ M) {l : List UInt8} (hl : l.length ≤ 1000000) {v : Value} {bs : List UInt8} (hv : BRow w v bs) (hvX : ∀ k, Value.rowBlock v = some k → X k) (hbs : bs.length ≤ 100000000) :
    Calls Tryz.prog 28 #[.pointer (some ⟨p, 0, none⟩), .string (mk l), v] w (Told X (K + 3) w p (DeedQ d [l] (AppendQ (K + 1) M (spent d) l bs))) := by
  obtain ⟨va, vc, rfl⟩ : ∃ a c, v = .slice a bs.length c := by
    rcases hv with ⟨rfl, rfl⟩ | ⟨a, c, rfl, _⟩
    · exact ⟨_, _, rfl⟩
    · exact ⟨_, _, rfl⟩
  obtain ⟨w3, hw3⟩ : ∃ W, ((w.alloc (.cells #[.pointer (some ⟨p, 0, none⟩)] 23)).alloc (.cells #[.string (mk l)] 9)).alloc (.cells #[.slice va bs.length vc] 31) = W := ⟨_, rfl⟩
  obtain ⟨e3, k3, k4, k5⟩ := boxes3 w (.pointer (some ⟨p, 0, none⟩)) 23 (.string (mk l)) 9 (.slice va bs.length vc) 31 (.cells #[.string (mk l)] 9)
  rw [hw3] at e3 k3 k4 k5
  have hB4 : Below w.heap.size w (w3.alloc (.cells #[.string (mk l)] 9)) := by
    subst hw3
    exact (((below_alloc w _).alloc (by simp) _).alloc (by simp; omega) _).alloc (by simp; omega) _
  have e4 : (w3.alloc (.cells #[.string (mk l)] 9)).heap.size = w.heap.size + 1 + 1 + 1 + 1 := by simp [e3]
  have hd4 := h.since hB4
  have hn4 := names_one w3 (Since X w (w3.alloc (.cells #[.string (mk l)] 9))) l (.inr ⟨by omega, by simp⟩)
  rw [e3] at hn4
  have hv4 := hv.below hB4
  have s0 : w.heap.size < (w3.alloc (.cells #[.string (mk l)] 9)).heap.size := by omega
  have s1 : w.heap.size + 1 < (w3.alloc (.cells #[.string (mk l)] 9)).heap.size := by omega
  have s2 : w.heap.size + 1 + 1 < (w3.alloc (.cells #[.string (mk l)] 9)).heap.size := by omega
  have hdeed := deed_at (F := 54) (cs := #[.pointer (some ⟨w.heap.size, 0, none⟩), .pointer (some ⟨w.heap.size + 1, 0, none⟩), .pointer (some ⟨w.heap.size + 1 + 1, 0, none⟩)]) (K2 := K + 3) hd4 (by omega) (by omega) hn4 (by intro x hx; simp at hx; subst hx; exact hl) (by simp) (cf43 _)
    (fun w1 hs1 hd1 => doAppend_c hd1 (by omega) hM hall hl (hv4.kept hs1.size fun k hk hlt => hs1.block k hlt (.inl (hvX k hk))) (fun k hk => .inl (hvX k hk)) hbs (.inr ⟨Nat.le_refl _, s0⟩) (.inr ⟨Nat.le_succ _, s1⟩) (.inr ⟨by omega, s2⟩)
      ((hs1.cell (p := ⟨w.heap.size, 0, none⟩) s0 (.inr ⟨Nat.le_refl _, s0⟩)).trans k3)
      ((hs1.cell (p := ⟨w.heap.size + 1, 0, none⟩) s1 (.inr ⟨Nat.le_succ _, s1⟩)).trans k4)
      ((hs1.cell (p := ⟨w.heap.size + 1 + 1, 0, none⟩) s2 (.inr ⟨by show w.heap.size ≤ w.heap.size + 1 + 1; omega, s2⟩)).trans k5))
  rw [← hw3] at hdeed hB4
  have HB := Lib.hid hB4
  clear h hB4 hd4 hn4 k3 k4 k5 hv4 hall hw3 e3 e4 hv hvX s0 s1 s2
  generalize hN : bs.length = N at *
  have HN := Lib.hid hN
  clear hN
  go_enter Tryz.func28, Tryz.ntmps28
  go_wp2_with fail
  refine hdeed.mono ?_
  rintro e w5 ⟨n, d', rfl, hT⟩
  go_wp2
  go_ret
  exact Told.weak ⟨n, d', rfl, hT⟩ (fun k hk => .inl hk) (Same.of_below HB.out)

def boxed3 (w : World) (u0 : Value) (t0 : TypeId) (u1 : Value) (t1 : TypeId) (u2 : Value) (t2 : TypeId) : World :=
  ((w.alloc (.cells #[u0] t0)).alloc (.cells #[u1] t1)).alloc (.cells #[u2] t2)

set_option maxHeartbeats 2000000 in
theorem onFile_c (pv : Option Addr) (s : ByteArray) (F : Fn) (cs : Array Value) (w : World) :
    Calls Tryz.prog 57 #[.pointer pv, .string s, .func F #[] cs] w fun e w' =>
      e = .returned (.func (.func 77) #[] #[.pointer (some ⟨w.heap.size, 0, none⟩), .pointer (some ⟨w.heap.size + 1, 0, none⟩), .pointer (some ⟨w.heap.size + 1 + 1, 0, none⟩)]) ∧ w' = boxed3 w (.pointer pv) 23 (.string s) 9 (.func F #[] cs) 93 := by
  go_enter Tryz.func57, Tryz.ntmps57
  go_wp2
  go_ret
  exact ⟨rfl, rfl⟩

/-- what a deed with a file tells -/
def OnQ (d : Ds) (l : List UInt8) (Q : Nat → Int → Ds → Prop) (n : Int) (d' : Ds) : Prop := (d.now l = none ∧ n = 6 ∧ d' = d) ∨ ∃ i, d.now l = some i ∧ Q i n d'

set_option maxRecDepth 100000 in
set_option maxHeartbeats 4000000 in
theorem onFile1_c {a3 a4 a5 : Nat} {G : Nat} {cs : Array Value} {Q : Nat → Int → Ds → Prop} {K2 : Nat} (h : DkAt X K w p q d) {l : List UInt8} (hl : l.length ≤ 1000000) (hK2 : K ≤ K2)
    (b3 : w.cell? ⟨a3, 0, none⟩ = some (.pointer (some ⟨p, 0, none⟩))) (b4 : w.cell? ⟨a4, 0, none⟩ = some (.string (mk l))) (b5 : w.cell? ⟨a5, 0, none⟩ = some (.func (.func G) #[] cs))
    (hcf : ∀ cs W, Sem.run Tryz.prog (callFunc G cs) W = .ok (.enter G cs) W)
    (hdo : ∀ i, d.now l = some i → ∀ w1 : World, w1.heap = w.heap → w1.os = w.os → w1.tape = w.tape → w1.output = w.output → DkAt X K w1 p q d → Calls Tryz.prog G (#[.pointer (some ⟨i, 0, none⟩)] ++ cs) w1 (Told X K2 w1 p (Q i))) :
    Calls Tryz.prog 77 #[.pointer (some ⟨a3, 0, none⟩), .pointer (some ⟨a4, 0, none⟩), .pointer (some ⟨a5, 0, none⟩)] w (Told X K2 w p (OnQ d l Q)) := by
  have hlm : l.length ≤ maxLen := by unfold maxLen; omega
  obtain ⟨_, _, _, _, _, c5, _, _⟩ := h.cells
  obtain ⟨n0, _, hdir⟩ := h.now
  have hlk : ∀ k, (Instr.lookup 55 (.map (some q.m1)) (.string (mk l)) false).run Tryz.prog (w.drewN k) = .ok (ptr (d.now l)) (w.drewN k) := fun k => (hdir.kept (w' := w.drewN k) rfl).look hlm
  have HD := Lib.hid h
  have HCF := Lib.hid hcf
  have HDO := Lib.hid hdo
  clear h hdir hcf hdo
  cases hi : d.now l with
  | none =>
    rw [hi, ptr_none] at hlk
    have HI := Lib.hid hi
    clear hi
    go_enter Tryz.func77, Tryz.ntmps77
    go_wp2_with fail
    go_quiet (fail)
    go_wp2
    go_ret
    exact ⟨6, d, rfl, ⟨rfl, rfl, rfl, Nat.le_refl _, fun _ _ _ => rfl⟩, ⟨q, (HD.out.drewN (w' := World.drewN w _) rfl).mono hK2⟩, .inl ⟨HI.out, rfl, rfl⟩⟩
  | some i =>
    rw [hi, ptr_some] at hlk
    have HI := Lib.hid hi
    clear hi
    go_enter Tryz.func77, Tryz.ntmps77
    go_wp2_with fail
    go_quiet (fail)
    go_wp2_with fail
    have hcall := HDO.out i HI.out (w.drewN nq) rfl rfl rfl rfl (HD.out.drewN rfl)
    rw [HCF.out, Oper.upon_enter]
    refine hcall.mono ?_
    rintro e w4 ⟨n, d', rfl, hs4, hd4, hq4⟩
    go_wp2
    go_ret
    exact ⟨n, d', rfl, ⟨hs4.os, hs4.tape, hs4.output, hs4.size, hs4.block⟩, hd4, .inr ⟨i, HI.out, hq4⟩⟩

/-- a deed with a file, wherever the boxes of its closure lie -/
theorem deedOn_c {W : World} {A G : Nat} {cs : Array Value} {Q : Nat → Int → Ds → Prop} {K2 : Nat} {nv : Value} {ns : List (List UInt8)} (h : DkAt X K w p q d) (hK : K < 1000) (hK2 : K + 1 ≤ K2) (hB : Below w.heap.size w W) {l : List UInt8} (hl : l.length ≤ 1000000)
    (hA : w.heap.size ≤ A) (hA2 : A + 1 + 1 < W.heap.size)
    (b3 : W.cell? ⟨A, 0, none⟩ = some (.pointer (some ⟨p, 0, none⟩))) (b4 : W.cell? ⟨A + 1, 0, none⟩ = some (.string (mk l))) (b5 : W.cell? ⟨A + 1 + 1, 0, none⟩ = some (.func (.func G) #[] cs))
    (hcf : ∀ cs W, Sem.run Tryz.prog (callFunc G cs) W = .ok (.enter G cs) W)
    (hn : NRow (Since X w W) W nv ns) (hns : ∀ x ∈ ns, x.length ≤ 1000000) (hcnt : ns.length ≤ 1000)
    (hdo : ∀ i, d.now l = some i → ∀ w1 : World, Same (Since X w W) W w1 → DkAt (Since X w W) (K + 1) w1 p q (spent d) → Calls Tryz.prog G (#[.pointer (some ⟨i, 0, none⟩)] ++ cs) w1 (Told (Since X w W) K2 w1 p (Q i))) :
    Calls Tryz.prog 42 #[.pointer (some ⟨p, 0, none⟩), .func (.func 77) #[] #[.pointer (some ⟨A, 0, none⟩), .pointer (some ⟨A + 1, 0, none⟩), .pointer (some ⟨A + 1 + 1, 0, none⟩)], nv] W (Told (Since X w W) K2 W p (DeedQ d ns (OnQ (spent d) l Q))) := by
  have s0 : A < W.heap.size := by omega
  have s1 : A + 1 < W.heap.size := by omega
  have z3 : Since X w W A := .inr ⟨hA, s0⟩
  have z4 : Since X w W (A + 1) := .inr ⟨by omega, s1⟩
  have z5 : Since X w W (A + 1 + 1) := .inr ⟨by omega, hA2⟩
  refine deed_at (h.since hB) hK hK2 hn hns hcnt (cf56 _) (fun w1 hs1 hd1 => ?_)
  refine onFile1_c hd1 hl hK2 ((hs1.cell (p := ⟨A, 0, none⟩) s0 z3).trans b3) ((hs1.cell (p := ⟨A + 1, 0, none⟩) s1 z4).trans b4) ((hs1.cell (p := ⟨A + 1 + 1, 0, none⟩) hA2 z5).trans b5) hcf (fun i hi w2 e1 e2 e3 e4 hd2 => ?_)
  exact hdo i hi w2 ⟨e2.trans hs1.os, e3.trans hs1.tape, e4.trans hs1.output, by rw [e1]; exact hs1.size, fun k hk hX => by rw [e1]; exact hs1.block k hk hX⟩ hd2

theorem boxed3_cells (w : World) (u0 : Value) (t0 : TypeId) (u1 : Value) (t1 : TypeId) (u2 : Value) (t2 : TypeId) :
    (boxed3 w u0 t0 u1 t1 u2 t2).heap.size = w.heap.size + 1 + 1 + 1 ∧ Below w.heap.size w (boxed3 w u0 t0 u1 t1 u2 t2) ∧
    (boxed3 w u0 t0 u1 t1 u2 t2).cell? ⟨w.heap.size, 0, none⟩ = some u0 ∧ (boxed3 w u0 t0 u1 t1 u2 t2).cell? ⟨w.heap.size + 1, 0, none⟩ = some u1 ∧ (boxed3 w u0 t0 u1 t1 u2 t2).cell? ⟨w.heap.size + 1 + 1, 0, none⟩ = some u2 := by
  unfold boxed3
  refine ⟨by simp, ((below_alloc w _).alloc (by simp) _).alloc (by simp; omega) _, alloc_cell _ (alloc_cell _ (cell_at_new _ _ _ _ _ rfl)), ?_, ?_⟩
  · have := cell_at_new (w.alloc (.cells #[u0] t0)) #[u1] t1 0 _ rfl
    rw [World.size_alloc] at this
    exact alloc_cell _ this
  · have := cell_at_new ((w.alloc (.cells #[u0] t0)).alloc (.cells #[u1] t1)) #[u2] t2 0 _ rfl
    rw [World.size_alloc, World.size_alloc] at this
    exact this

set_option maxHeartbeats 2000000 in
/-- Sync's own: all bytes of a file are sure -/
theorem doSync_c (h : DkAt X K w p q d) {i : Nat} (hi : Ref d i) : Calls Tryz.prog 58 #[.pointer (some ⟨i, 0, none⟩)] w (Told X K w p (fun n d' => n = 0 ∧ d' = synced d i)) := by
  have hf := h.file i hi
  obtain ⟨f0, f1, _⟩ := hf.cell
  have z1 := frozen_of hf.cells 1
  obtain ⟨ba, bc, hbv⟩ := row_len hf.row
  rw [hbv] at f0
  have hfin := h.setSure (s := (d.files i).bytes.length) hi (Nat.le_refl _)
  have hoff := hf.off
  have HF := Lib.hid hfin
  clear h hf hbv hfin
  go_enter Tryz.func58, Tryz.ntmps58
  go_wp2
  go_ret
  exact ⟨0, _, rfl, (Same.refl X w).set _ _ hoff, ⟨_, HF.out⟩, rfl, rfl⟩

set_option maxHeartbeats 2000000 in
theorem Sync_c (h : DkAt X K w p q d) (hK : K < 1000) {l : List UInt8} (hl : l.length ≤ 1000000) :
    Calls Tryz.prog 30 #[.pointer (some ⟨p, 0, none⟩), .string (mk l)] w (Told X (K + 1) w p (DeedQ d [l] (OnQ (spent d) l (fun i n d' => n = 0 ∧ d' = synced (spent d) i)))) := by
  obtain ⟨e3, hB3, k3, k4, k5⟩ := boxed3_cells w (.pointer (some ⟨p, 0, none⟩)) 23 (.string (mk l)) 9 (.func (.func 58) #[] #[]) 93
  have hon := onFile_c (some ⟨p, 0, none⟩) (mk l) (.func 58) #[] w
  obtain ⟨w3, hw3⟩ : ∃ W, boxed3 w (.pointer (some ⟨p, 0, none⟩)) 23 (.string (mk l)) 9 (.func (.func 58) #[] #[]) 93 = W := ⟨_, rfl⟩
  rw [hw3] at e3 hB3 k3 k4 k5 hon
  have hB4 : Below w.heap.size w (w3.alloc (.cells #[.string (mk l)] 9)) := hB3.trans ((below_alloc w3 _).mono hB3.size)
  have hn4 := names_one w3 (Since X w (w3.alloc (.cells #[.string (mk l)] 9))) l (.inr ⟨by omega, by simp⟩)
  have hd := deedOn_c (A := w.heap.size) (G := 58) (cs := #[]) (K2 := K + 1) (Q := fun i n d' => n = 0 ∧ d' = synced (spent d) i) h hK (Nat.le_refl _) hB4 hl (Nat.le_refl _) (by simp; omega) (alloc_cell _ k3) (alloc_cell _ k4) (alloc_cell _ k5) cf41 hn4 (by intro x hx; simp at hx; subst hx; exact hl) (by simp)
    (fun i hi w1 hs1 hd1 => doSync_c hd1 (ref_now (d := spent d) hi))
  have HB := Lib.hid hB4
  have HE := Lib.hid e3
  clear h hB3 k3 k4 k5 hB4 hn4 e3 hw3
  go_enter Tryz.func30, Tryz.ntmps30
  go_wp2_with fail
  refine hon.mono ?_
  rintro e w4 ⟨rfl, rfl⟩
  go_wp2_with fail
  refine hd.mono ?_
  rintro e w5 ⟨n, d', rfl, hT⟩
  go_wp2
  go_ret
  exact Told.weak ⟨n, d', rfl, hT⟩ (fun k hk => .inl hk) (Same.of_below HB.out)
end Go.Proofs.YtfmelhcpccghdaaGreat
