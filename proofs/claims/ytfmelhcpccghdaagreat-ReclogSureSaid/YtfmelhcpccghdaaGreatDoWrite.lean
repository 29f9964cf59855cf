/-
  Write, AS A DEED.
-/
import Derived.Test.YtfmelhcpccghdaaGreatDeed
namespace Go.Proofs.YtfmelhcpccghdaaGreat
open Go.RowKit Go.Maps

variable {X : Nat → Prop} {K : Nat} {w : World} {p : Nat} {q : Pl} {d : Ds}

theorem DkAt.since (h : DkAt X K w p q d) {w' : World} (hb : Below w.heap.size w w') : DkAt (Since X w w') K w' p q d :=
  h.frame hb.size (fun k hk _ => hb.block k hk) (fun k hk hy => by rcases hy with hy | ⟨h1, _⟩; exact hy; omega) (fun k hy => by rcases hy with hy | ⟨_, h1⟩; exact Nat.lt_of_lt_of_le (h.inX k hy) hb.size; exact h1)

theorem Told.weak {Y : Nat → Prop} {w4 w' : World} {e : Ending} {Q : Int → Ds → Prop} (h : Told Y K w4 p Q e w') (hXY : ∀ k, X k → Y k) (hs : Same X w w4) : Told X K w p Q e w' := by
  obtain ⟨n, d', he, hsame, hd, hq⟩ := h
  refine ⟨n, d', he, hs.trans (hsame.mono fun k _ hx => hXY k hx), ?_, hq⟩
  have hin : ∀ k, Y k → k < w'.heap.size := by obtain ⟨q, hd⟩ := hd; exact hd.inX
  exact hd.frame (Nat.le_refl _) (fun _ _ _ => rfl) (fun k _ hx => hXY k hx) (fun k hx => hin k (hXY k hx))
theorem Told.imp {w' : World} {e : Ending} {Q Q' : Int → Ds → Prop} {K' : Nat} (h : Told X K w p Q e w') (hK : K ≤ K') (hQ : ∀ n d', Q n d' → Q' n d') : Told X K' w p Q' e w' := by
  obtain ⟨n, d', he, hsame, hd, hq⟩ := h
  exact ⟨n, d', he, hsame, hd.mono hK, hQ _ _ hq⟩

theorem names_one (w : World) (X : Nat → Prop) (l : List UInt8) (hX : X w.heap.size) : NRow X (w.alloc (.cells #[.string (mk l)] 9)) (.slice (some ⟨w.heap.size, 0, none⟩) 1 1) [l] := by
  refine .inr ⟨w.heap.size, 1, rfl, hX, by simp, fun j x hj => ?_⟩
  match j, hj with
  | 0, hj => simp at hj; subst hj; exact cell_at_new _ _ _ _ _ rfl

theorem boxes3 (w : World) (u0 : Value) (t0 : TypeId) (u1 : Value) (t1 : TypeId) (u2 : Value) (t2 : TypeId) (o : Obj) :
    (((w.alloc (.cells #[u0] t0)).alloc (.cells #[u1] t1)).alloc (.cells #[u2] t2)).heap.size = w.heap.size + 1 + 1 + 1 ∧
    ((((w.alloc (.cells #[u0] t0)).alloc (.cells #[u1] t1)).alloc (.cells #[u2] t2)).alloc o).cell? ⟨w.heap.size, 0, none⟩ = some u0 ∧
    ((((w.alloc (.cells #[u0] t0)).alloc (.cells #[u1] t1)).alloc (.cells #[u2] t2)).alloc o).cell? ⟨w.heap.size + 1, 0, none⟩ = some u1 ∧
    ((((w.alloc (.cells #[u0] t0)).alloc (.cells #[u1] t1)).alloc (.cells #[u2] t2)).alloc o).cell? ⟨w.heap.size + 1 + 1, 0, none⟩ = some u2 := by
  refine ⟨by simp, alloc_cell _ (alloc_cell _ (alloc_cell _ (cell_at_new _ _ _ _ _ rfl))), ?_, ?_⟩
  · have := cell_at_new (w.alloc (.cells #[u0] t0)) #[u1] t1 0 _ rfl
    rw [World.size_alloc] at this
    exact alloc_cell _ (alloc_cell _ this)
  · have := cell_at_new ((w.alloc (.cells #[u0] t0)).alloc (.cells #[u1] t1)) #[u2] t2 0 _ rfl
    rw [World.size_alloc, World.size_alloc] at this
    exact alloc_cell _ this

set_option maxHeartbeats 2000000 in
theorem doWrite_c {a3 a4 a5 : Nat} (h : DkAt X K w p q d) (hK : K + 2 ≤ 1000) {M : Nat} (hM : M ≤ 65536) (hall : ∀ l i, d.now l = some i → (d.files i).bytes.length ≤ M) {l : List UInt8} (hl : l.length ≤ 1000000) {v : Value} {bs : List UInt8} (hv : BRow w v bs) (hbs : bs.length ≤ 1000000000)
    (b3 : w.cell? ⟨a3, 0, none⟩ = some (.pointer (some ⟨p, 0, none⟩))) (b4 : w.cell? ⟨a4, 0, none⟩ = some (.string (mk l))) (b5 : w.cell? ⟨a5, 0, none⟩ = some v) :
    Calls Tryz.prog 43 #[.pointer (some ⟨a3, 0, none⟩), .pointer (some ⟨a4, 0, none⟩), .pointer (some ⟨a5, 0, none⟩)] w (Told X (K + 2) w p (WriteQ K M d l bs)) := by
  have hw := write_at h hK hM hall hl hv hbs
  clear h hall hv
  go_enter Tryz.func43, Tryz.ntmps43
  go_wp2_with fail
  refine hw.mono ?_
  rintro e w1 ⟨n, d', rfl, hs, hd, hq⟩
  go_wp2
  go_ret
  exact ⟨n, d', rfl, hs, hd, hq⟩

set_option maxHeartbeats 2000000 in
theorem Write_c (h : DkAt X K w p q d) (hK : K + 3 ≤ 1000) {M : Nat} (hM : M ≤ 65536) (hall : ∀ l i, d.now l = some i → (d.files i).bytes.length ≤ M) {l : List UInt8} (hl : l.length ≤ 1000000) {v : Value} {bs : List UInt8} (hv : BRow w v bs) (hvX : ∀ k, Value.rowBlock v = some k → X k) (hbs : bs.length ≤ 1000000000) :
    Calls Tryz.prog 18 #[.pointer (some ⟨p, 0, none⟩), .string (mk l), v] w (Told X (K + 3) w p (DeedQ d [l] (WriteQ (K + 1) M (spent d) l bs))) := by
  obtain ⟨va, vc, rfl⟩ : ∃ a c, v = .slice a bs.length c := by
    rcases hv with ⟨rfl, rfl⟩ | ⟨a, c, rfl, _⟩
    · exact ⟨_, _, rfl⟩
    · exact ⟨_, _, rfl⟩
  obtain ⟨w3, hw3⟩ : ∃ W, ((w.alloc (.cells #[.pointer (some ⟨p, 0, none⟩)] 23)).alloc (.cells #[.string (mk l)] 9)).alloc (.cells #[.slice va bs.length vc] 31) = W := ⟨_, rfl⟩
  obtain ⟨e3, k3, k4, k5⟩ := boxes3 w (.pointer (some ⟨p, 0, none⟩)) 23 (.string (mk l)) 9 (.slice va bs.length vc) 31 (.cells #[.string (mk l)] 9)
  rw [hw3] at e3 k3 k4 k5
  have hB4 : Below w.heap.size w (w3.alloc (.cells #[.string (mk l)] 9)) := by
    subst hw3
    exact (((below_alloc w _).alloc (by simp) _).alloc (by simp; omega) _).alloc (by simp; omega) _
  have e4 : (w3.alloc (.cells #[.string (mk l)] 9)).heap.size = w.heap.size + 1 + 1 + 1 + 1 := by simp [e3]
  have hd4 := h.since hB4
  have hn4 := names_one w3 (Since X w (w3.alloc (.cells #[.string (mk l)] 9))) l (.inr ⟨by omega, by simp⟩)
  rw [e3] at hn4
  have hv4 := hv.below hB4
  have s0 : w.heap.size < (w3.alloc (.cells #[.string (mk l)] 9)).heap.size := by omega
  have s1 : w.heap.size + 1 < (w3.alloc (.cells #[.string (mk l)] 9)).heap.size := by omega
  have s2 : w.heap.size + 1 + 1 < (w3.alloc (.cells #[.string (mk l)] 9)).heap.size := by omega
  have hdeed := deed_at (F := 43) (cs := #[.pointer (some ⟨w.heap.size, 0, none⟩), .pointer (some ⟨w.heap.size + 1, 0, none⟩), .pointer (some ⟨w.heap.size + 1 + 1, 0, none⟩)]) (K2 := K + 3) hd4 (by omega) (by omega) hn4 (by intro x hx; simp at hx; subst hx; exact hl) (by simp) (cf38 _)
    (fun w1 hs1 hd1 => doWrite_c hd1 (by omega) hM hall hl (hv4.kept hs1.size fun k hk hlt => hs1.block k hlt (.inl (hvX k hk))) hbs
      ((hs1.cell (p := ⟨w.heap.size, 0, none⟩) s0 (.inr ⟨Nat.le_refl _, s0⟩)).trans k3)
      ((hs1.cell (p := ⟨w.heap.size + 1, 0, none⟩) s1 (.inr ⟨Nat.le_succ _, s1⟩)).trans k4)
      ((hs1.cell (p := ⟨w.heap.size + 1 + 1, 0, none⟩) s2 (.inr ⟨by show w.heap.size ≤ w.heap.size + 1 + 1; omega, s2⟩)).trans k5))
  rw [← hw3] at hdeed hB4
  have HB := Lib.hid hB4
  clear h hB4 hd4 hn4 k3 k4 k5 hv4 hall hw3 e3 e4 hv hvX s0 s1 s2
  generalize hN : bs.length = N at *
  have HN := Lib.hid hN
  clear hN
  go_enter Tryz.func18, Tryz.ntmps18
  go_wp2_with fail
  refine hdeed.mono ?_
  rintro e w5 ⟨n, d', rfl, hT⟩
  go_wp2
  go_ret
  exact Told.weak ⟨n, d', rfl, hT⟩ (fun k hk => .inl hk) (Same.of_below HB.out)
end Go.Proofs.YtfmelhcpccghdaaGreat
