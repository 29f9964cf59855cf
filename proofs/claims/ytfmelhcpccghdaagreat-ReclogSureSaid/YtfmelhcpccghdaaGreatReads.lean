/-
  WHAT IS READ OF A DISK.
-/
import Derived.Test.YtfmelhcpccghdaaGreatSorted
namespace Go.Proofs.YtfmelhcpccghdaaGreat
open Go.RowKit Go.Maps

variable {X : Nat → Prop} {K : Nat} {w : World} {p : Nat} {q : Pl} {d : Ds}

theorem DkAt.alloc (h : DkAt X K w p q d) (o : Obj) : DkAt X K (w.alloc o) p q d :=
  h.frame (by simp) (fun k hk _ => Below.heap_alloc _ _ _ hk) (fun _ _ hy => hy) (fun k hy => by have := h.inX k hy; simp; omega)

set_option maxHeartbeats 2000000 in
theorem look_down (h : DkAt X K w p q d) (l : List UInt8) (hu : d.up = false) : Calls Tryz.prog 46 #[.pointer (some ⟨p, 0, none⟩), .string (mk l)] w fun e w' =>
    e = .returned (.tuple #[.agg #[.slice none 0 0, .int .i64 0, .int .i64 0], .int .i64 8]) ∧ Below w.heap.size w w' := by
  have hdn := down_at (h.alloc (.cells #[.slice none 0 0, .int .i64 0, .int .i64 0] 80))
  rw [hu] at hdn
  clear h
  go_enter Tryz.func46, Tryz.ntmps46
  go_wp2_with (go_at_call 13; refine hdn.mono ?_; rintro e w' ⟨rfl, rfl⟩)
  refine bodyPost_ret (v := .tuple #[.agg #[.slice none 0 0, .int .i64 0, .int .i64 0], .int .i64 8]) (by simp [results, Tryz.results46, go_sem]) rfl ⟨rfl, ?_⟩
  exact below_alloc _ _

set_option maxHeartbeats 2000000 in
theorem look_some (h : DkAt X K w p q d) (l : List UInt8) (hl : l.length ≤ maxLen) (hu : d.up = true) {i : Nat} (hi : d.now l = some i) : Calls Tryz.prog 46 #[.pointer (some ⟨p, 0, none⟩), .string (mk l)] w fun e w' =>
    e = .returned (.tuple #[.agg #[q.bv i, .int .i64 (d.files i).sure, .int .i64 (d.files i).time], .int .i64 0]) ∧ Below w.heap.size w w' := by
  have h1 := h.alloc (.cells #[.slice none 0 0, .int .i64 0, .int .i64 0] 80)
  have hdn := down_at h1
  rw [hu] at hdn
  obtain ⟨_, _, _, _, _, c5, _, _⟩ := h1.cells
  obtain ⟨n, _, hdir⟩ := h1.now
  have hlk := hdir.look hl
  rw [hi, ptr_some] at hlk
  have hf := h1.file i (ref_now hi)
  obtain ⟨f0, f1, f2⟩ := hf.cell
  have hil : i < w.heap.size := lt_of_some (h.file i (ref_now hi)).cells
  have hne : w.heap.size ≠ i := by omega
  obtain ⟨ba, bn, bc, hb⟩ : ∃ a n c, q.bv i = .slice a n c := by
    rcases hf.row.2 with ⟨e, _⟩ | ⟨g, cap, _, e, _⟩
    · exact ⟨_, _, _, e⟩
    · exact ⟨_, _, _, e⟩
  rw [hb] at f0 ⊢
  generalize hs : (d.files i).sure = s at *
  generalize ht : (d.files i).time = t at *
  clear h h1 hdir hi hf hs ht
  go_enter Tryz.func46, Tryz.ntmps46
  go_wp2_with (go_at_call 13; refine hdn.mono ?_; rintro e w' ⟨rfl, rfl⟩)
  refine bodyPost_ret (v := .tuple #[.agg #[.slice ba bn bc, .int .i64 s, .int .i64 t], .int .i64 0]) (by simp [results, Tryz.results46, go_sem]) rfl ⟨rfl, ?_⟩
  exact below_alloc _ _

set_option maxHeartbeats 2000000 in
theorem look_none (h : DkAt X K w p q d) (l : List UInt8) (hl : l.length ≤ maxLen) (hu : d.up = true) (hi : d.now l = none) : Calls Tryz.prog 46 #[.pointer (some ⟨p, 0, none⟩), .string (mk l)] w fun e w' =>
    e = .returned (.tuple #[.agg #[.slice none 0 0, .int .i64 0, .int .i64 0], .int .i64 6]) ∧ Below w.heap.size w w' := by
  have h1 := h.alloc (.cells #[.slice none 0 0, .int .i64 0, .int .i64 0] 80)
  have hdn := down_at h1
  rw [hu] at hdn
  obtain ⟨_, _, _, _, _, c5, _, _⟩ := h1.cells
  obtain ⟨n, _, hdir⟩ := h1.now
  have hlk := hdir.look hl
  rw [hi, ptr_none] at hlk
  clear h h1 hdir hi
  go_enter Tryz.func46, Tryz.ntmps46
  go_wp2_with (go_at_call 13; refine hdn.mono ?_; rintro e w' ⟨rfl, rfl⟩)
  refine bodyPost_ret (v := .tuple #[.agg #[.slice none 0 0, .int .i64 0, .int .i64 0], .int .i64 6]) (by simp [results, Tryz.results46, go_sem]) rfl ⟨rfl, ?_⟩
  exact below_alloc _ _

set_option maxHeartbeats 2000000 in
theorem look_nil (w : World) (l : List UInt8) : Calls Tryz.prog 46 #[.pointer none, .string (mk l)] w fun e w' =>
    e = .returned (.tuple #[.agg #[.slice none 0 0, .int .i64 0, .int .i64 0], .int .i64 8]) ∧ Below w.heap.size w w' := by
  go_enter Tryz.func46, Tryz.ntmps46
  go_wp2_with (go_at_call 13; refine (down_nil _).mono ?_; rintro e w' ⟨rfl, rfl⟩)
  refine bodyPost_ret (v := .tuple #[.agg #[.slice none 0 0, .int .i64 0, .int .i64 0], .int .i64 8]) (by simp [results, Tryz.results46, go_sem]) rfl ⟨rfl, ?_⟩
  exact below_alloc _ _

/-- Read and Stat, out of what look tells -/
theorem read_of {P0 : Value} {l : List UInt8} {v s t : Value} {n : Int} {bs : List UInt8} (ht : ∃ a k c, v = .slice a k c) (hs : ∃ k m, s = .int k m) (ht' : ∃ k m, t = .int k m)
    (hlk : Calls Tryz.prog 46 #[P0, .string (mk l)] w fun e w' => e = .returned (.tuple #[.agg #[v, s, t], .int .i64 n]) ∧ Below w.heap.size w w')
    (hr : BRow w v bs) (hbs : bs.length ≤ 1000000000) : Calls Tryz.prog 49 #[P0, .string (mk l)] w fun e w' => ∃ u, e = .returned (.tuple #[u, .int .i64 n]) ∧ w'.ownsRow w.heap.size 5 1 u bs.length (bytesV bs) ∧ Below w.heap.size w w' := by
  obtain ⟨a, k, c, rfl⟩ := ht
  obtain ⟨k1, m1, rfl⟩ := hs
  obtain ⟨k2, m2, rfl⟩ := ht'
  go_enter Tryz.func49, Tryz.ntmps49
  go_wp2_with fail
  refine hlk.mono ?_
  rintro e w1 ⟨rfl, hb⟩
  have hr1 := hr.below hb
  have hcl := fun o => bclone_c (hr1.below (below_alloc w1 o)) hbs
  go_wp2_with fail
  refine (hcl _).mono ?_
  rintro e w2 ⟨u, rfl, hrow, hb2⟩
  go_wp2
  go_ret2
  exact ⟨u, rfl, ownsRow_base_a hrow (by have := hb.size; simp; omega), (hb.trans ((below_alloc _ _).mono hb.size)).trans (hb2.mono (by have := hb.size; simp; omega))⟩

theorem stat_of {P0 : Value} {l : List UInt8} {a : Option Addr} {k c : Nat} {s t : Int} {n : Int}
    (hlk : Calls Tryz.prog 46 #[P0, .string (mk l)] (w.alloc (.cells #[.int .i64 0, .int .i64 0] 50)) fun e w' => e = .returned (.tuple #[.agg #[.slice a k c, .int .i64 s, .int .i64 t], .int .i64 n]) ∧ Below (w.alloc (.cells #[.int .i64 0, .int .i64 0] 50)).heap.size (w.alloc (.cells #[.int .i64 0, .int .i64 0] 50)) w') :
    Calls Tryz.prog 20 #[P0, .string (mk l)] w fun e w' => e = .returned (.tuple #[.agg #[.int .i64 k, .int .i64 t], .int .i64 n]) ∧ Below w.heap.size w w' := by
  go_enter Tryz.func20, Tryz.ntmps20
  go_wp2_with fail
  refine hlk.mono ?_
  rintro e w1 ⟨rfl, hb⟩
  have hz : w.heap.size < w1.heap.size := by have := hb.size; simp at this; omega
  have hne : w1.heap.size ≠ w.heap.size := by omega
  have hne2 : w.heap.size ≠ w1.heap.size := by omega
  have hc0 := hb.cell (p := ⟨w.heap.size, 0, none⟩) (by simp)
  have hc1 := hb.cell (p := ⟨w.heap.size, 1, none⟩) (by simp)
  have hf0 := hb.frozen (p := ⟨w.heap.size, 0, none⟩) (by simp)
  have hf1 := hb.frozen (p := ⟨w.heap.size, 1, none⟩) (by simp)
  go_wp2
  refine bodyPost_ret (v := .tuple #[.agg #[.int .i64 k, .int .i64 t], .int .i64 n]) (by simp [results, Tryz.results20, go_sem, hc0, hc1, hf0, hf1, hz, hne, hne2]) rfl ⟨rfl, ?_⟩
  exact ((((below_alloc _ _).trans (hb.mono (by simp))).setCell (p := ⟨w.heap.size, 0, none⟩) (Nat.le_refl _) _).setCell (p := ⟨w.heap.size, 1, none⟩) (Nat.le_refl _) _).alloc (by simp [World.setCell]; omega) _

/-! ### what the laws read -/
theorem row_len {w : World} {base : Nat} {e : TypeId} {size : Nat} {v : Value} {n : Nat} {xs : List Value} (h : w.ownsRow base e size v n xs) : ∃ a cap, v = .slice a n cap := by
  rcases h.2 with ⟨rfl, h0⟩ | ⟨g, cap, cur, rfl, _⟩
  · exact ⟨none, 0, by rw [h0]⟩
  · exact ⟨_, _, rfl⟩

theorem read_some (h : Dk X K w p d) {l : List UInt8} (hl : l.length ≤ maxLen) (hu : d.up = true) {i : Nat} (hi : d.now l = some i) : Calls Tryz.prog 49 #[.pointer (some ⟨p, 0, none⟩), .string (mk l)] w fun e w' =>
    ∃ u, e = .returned (.tuple #[u, .int .i64 0]) ∧ w'.ownsRow w.heap.size 5 1 u (d.files i).bytes.length (bytesV (d.files i).bytes) ∧ Below w.heap.size w w' := by
  obtain ⟨q, h⟩ := h
  have hf := h.file i (ref_now hi)
  obtain ⟨a, cap, hv⟩ := row_len hf.row
  exact read_of ⟨_, _, _, hv⟩ ⟨_, _, rfl⟩ ⟨_, _, rfl⟩ (look_some h l hl hu hi) (row_bytes hf.row) (by have := hf.len; omega)
theorem read_none (h : Dk X K w p d) {l : List UInt8} (hl : l.length ≤ maxLen) (hu : d.up = true) (hi : d.now l = none) : Calls Tryz.prog 49 #[.pointer (some ⟨p, 0, none⟩), .string (mk l)] w fun e w' =>
    ∃ u, e = .returned (.tuple #[u, .int .i64 6]) ∧ w'.ownsRow w.heap.size 5 1 u 0 (bytesV []) ∧ Below w.heap.size w w' := by
  obtain ⟨q, h⟩ := h
  exact read_of (bs := []) ⟨_, _, _, rfl⟩ ⟨_, _, rfl⟩ ⟨_, _, rfl⟩ (look_none h l hl hu hi) (.inl ⟨rfl, rfl⟩) (by simp)
theorem read_down (h : Dk X K w p d) {l : List UInt8} (hu : d.up = false) : Calls Tryz.prog 49 #[.pointer (some ⟨p, 0, none⟩), .string (mk l)] w fun e w' =>
    ∃ u, e = .returned (.tuple #[u, .int .i64 8]) ∧ w'.ownsRow w.heap.size 5 1 u 0 (bytesV []) ∧ Below w.heap.size w w' := by
  obtain ⟨q, h⟩ := h
  exact read_of (bs := []) ⟨_, _, _, rfl⟩ ⟨_, _, rfl⟩ ⟨_, _, rfl⟩ (look_down h l hu) (.inl ⟨rfl, rfl⟩) (by simp)
theorem read_nil (w : World) (l : List UInt8) : Calls Tryz.prog 49 #[.pointer none, .string (mk l)] w fun e w' =>
    ∃ u, e = .returned (.tuple #[u, .int .i64 8]) ∧ w'.ownsRow w.heap.size 5 1 u 0 (bytesV []) ∧ Below w.heap.size w w' :=
  read_of (bs := []) ⟨_, _, _, rfl⟩ ⟨_, _, rfl⟩ ⟨_, _, rfl⟩ (look_nil w l) (.inl ⟨rfl, rfl⟩) (by simp)

theorem stat_some (h : Dk X K w p d) {l : List UInt8} (hl : l.length ≤ maxLen) (hu : d.up = true) {i : Nat} (hi : d.now l = some i) : Calls Tryz.prog 20 #[.pointer (some ⟨p, 0, none⟩), .string (mk l)] w fun e w' =>
    e = .returned (.tuple #[.agg #[.int .i64 (d.files i).bytes.length, .int .i64 (d.files i).time], .int .i64 0]) ∧ Below w.heap.size w w' := by
  obtain ⟨q, h⟩ := h
  have hf := h.file i (ref_now hi)
  obtain ⟨a, cap, hv⟩ := row_len hf.row
  have hlk := look_some (h.alloc (.cells #[.int .i64 0, .int .i64 0] 50)) l hl hu hi
  rw [hv] at hlk
  exact stat_of hlk
theorem stat_none (h : Dk X K w p d) {l : List UInt8} (hl : l.length ≤ maxLen) (hu : d.up = true) (hi : d.now l = none) : Calls Tryz.prog 20 #[.pointer (some ⟨p, 0, none⟩), .string (mk l)] w fun e w' =>
    e = .returned (.tuple #[.agg #[.int .i64 0, .int .i64 0], .int .i64 6]) ∧ Below w.heap.size w w' := by
  obtain ⟨q, h⟩ := h
  exact stat_of (look_none (h.alloc (.cells #[.int .i64 0, .int .i64 0] 50)) l hl hu hi)
theorem stat_down (h : Dk X K w p d) {l : List UInt8} (hu : d.up = false) : Calls Tryz.prog 20 #[.pointer (some ⟨p, 0, none⟩), .string (mk l)] w fun e w' =>
    e = .returned (.tuple #[.agg #[.int .i64 0, .int .i64 0], .int .i64 8]) ∧ Below w.heap.size w w' := by
  obtain ⟨q, h⟩ := h
  exact stat_of (look_down (h.alloc (.cells #[.int .i64 0, .int .i64 0] 50)) l hu)
theorem stat_nil (w : World) (l : List UInt8) : Calls Tryz.prog 20 #[.pointer none, .string (mk l)] w fun e w' =>
    e = .returned (.tuple #[.agg #[.int .i64 0, .int .i64 0], .int .i64 8]) ∧ Below w.heap.size w w' :=
  stat_of (look_nil (w.alloc (.cells #[.int .i64 0, .int .i64 0] 50)) l)
end Go.Proofs.YtfmelhcpccghdaaGreat
