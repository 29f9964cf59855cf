/-
  A NEW DISK; DEEDS THAT ARE DONE.
-/
import Derived.Test.YtdgfnhgkncfmpaaRestart
import Derived.Lib.SlBytesConst
namespace Go.Proofs.Ytdgfnhgkncfmpaa
open Go.RowKit Go.Maps

variable {X : Nat → Prop} {K : Nat} {w : World} {p : Nat} {q : Pl} {d : Ds}

def newD (n : Nat) : Ds := ⟨n, 1, 0, true, -1, fun _ => none, fun _ => none, [], fun _ => ⟨[], 0, 0⟩⟩

theorem new_ref (n i : Nat) : ¬ Ref (newD n) i := by
  rintro (⟨l, h⟩ | ⟨l, h⟩ | ⟨c, h, _⟩)
  · cases h
  · cases h
  · cases h

set_option maxHeartbeats 2000000 in
theorem new_c (n : Nat) (hn : n ≤ 16777216) (w : World) :
    Calls Try.prog 30 #[.int .i64 n] w fun e w' => ∃ p, e = .returned (.tuple #[.pointer (some ⟨p, 0, none⟩), .int .i64 0]) ∧ w.heap.size ≤ p ∧ Below w.heap.size w w' ∧ Dk (fun k => k < w.heap.size) 0 w' p (newD n) := by
  have h0 : ¬ (n : Int) < 0 := by omega
  have h1 : ¬ (16777216 : Int) < (n : Int) := by omega
  have hm := @run_makeMap Try.prog
  obtain ⟨w1, hw1⟩ : ∃ W, w.alloc (.map #[] 0) = W := ⟨_, rfl⟩
  obtain ⟨w2, hw2⟩ : ∃ W, w1.alloc (.map #[] 0) = W := ⟨_, rfl⟩
  obtain ⟨w3, hw3⟩ : ∃ W, w2.alloc (.cells #[.int .i64 n, .int .i64 1, .int .i64 0, .bool true, .int .i64 (-1), .map (some w.heap.size), .map (some (w.heap.size + 1)), .slice none 0 0] 90) = W := ⟨_, rfl⟩
  have z1 : w1.heap.size = w.heap.size + 1 := by subst hw1; simp
  have z2 : w2.heap.size = w.heap.size + 1 + 1 := by subst hw2; simp [z1]
  have z3 : w3.heap.size = w.heap.size + 1 + 1 + 1 := by subst hw3; simp [z2]
  have m1 : Dir w1 0 w.heap.size (fun _ => none) := by subst hw1; exact Dir.made w
  have m2 : Dir w2 0 w1.heap.size (fun _ => none) := by subst hw2; exact Dir.made w1
  have b1 : ∀ k, k < w1.heap.size → w2.heap[k]? = w1.heap[k]? := by subst hw2; exact fun k hk => Below.heap_alloc _ _ _ hk
  have b2 : ∀ k, k < w2.heap.size → w3.heap[k]? = w2.heap[k]? := by subst hw3; exact fun k hk => Below.heap_alloc _ _ _ hk
  have hr : w3.heap[w2.heap.size]? = some (.cells #[.int .i64 n, .int .i64 1, .int .i64 0, .bool true, .int .i64 (-1), .map (some w.heap.size), .map (some w1.heap.size), .slice none 0 0] 90 (0, 0)) := by rw [z1]; subst hw3; exact heap_alloc_new _ _
  have hB : Below w.heap.size w w3 := by
    subst hw3 hw2 hw1
    exact ((below_alloc w _).alloc (by simp) _).alloc (by simp; omega) _
  have hd : DkAt (fun k => k < w.heap.size) 0 w3 w2.heap.size ⟨w.heap.size, w1.heap.size, .slice none 0 0, fun _ => .slice none 0 0⟩ (newD n) := by
    refine ⟨fun k hk => by omega, by show ¬ w2.heap.size < _; omega, by show ¬ w.heap.size < w.heap.size; omega, by show ¬ w1.heap.size < w.heap.size; omega, fun k hk => by simp [Value.ownBlock] at hk, by show w.heap.size ≠ w1.heap.size; omega, hr, ⟨0, Nat.le_refl _, (m1.kept (b1 _ (by omega))).kept (b2 _ (by omega))⟩, ⟨0, Nat.le_refl _, m2.kept (b2 _ (by omega))⟩, World.ownsRow_nil _ _ _ _, (fun c hc => (by cases hc)), fun i hi => (new_ref n i hi).elim, fun i j k hi => (new_ref n i hi).elim, Nat.le_refl _, Nat.le_refl _, ⟨hn, by show -9223372036854775808 ≤ (-1 : Int) ∧ (-1 : Int) ≤ 9223372036854775807; omega⟩⟩
  have HB := Lib.hid hB
  have HDD := Lib.hid hd
  have HW1 := Lib.hid hw1
  have HW2 := Lib.hid hw2
  have HW3 := Lib.hid hw3
  have HZ2 := Lib.hid z2
  clear hw1 hw2 hw3 z1 z2 z3 m1 m2 b1 b2 hr hB hd
  go_enter Try.func30, Try.ntmps30
  go_wp2
  go_ret2
  rw [HW1.out, HW2.out, HW3.out]
  refine ⟨w2.heap.size, ?_, by have := HZ2.out; omega, HB.out, ⟨_, HDD.out⟩⟩
  rw [HZ2.out]
  rfl

theorem deed_runs {ns : List (List UInt8)} {Q : Int → Ds → Prop} {n : Int} {d' : Ds} (h : DeedQ d ns Q n d') (hu : d.up = true) (hl : d.left ≠ 0) (hr : ∀ l ∈ ns, rightL l = true) : Q n d' := by
  rcases h with ⟨h1, _⟩ | ⟨_, h2, _⟩ | ⟨_, _, ⟨l, h3, h4⟩, _⟩ | ⟨_, _, _, h⟩
  · rw [hu] at h1; cases h1
  · exact absurd h2 hl
  · rw [hr l h3] at h4; cases h4
  · exact h
theorem deed_down {ns : List (List UInt8)} {Q : Int → Ds → Prop} {n : Int} {d' : Ds} (h : DeedQ d ns Q n d') (hu : d.up = false) : n = 8 ∧ d' = d := by
  rcases h with ⟨_, h1, h2⟩ | ⟨h1, _⟩ | ⟨h1, _⟩ | ⟨h1, _⟩
  · exact ⟨h1, h2⟩
  all_goals rw [hu] at h1; cases h1
theorem deed_falls {ns : List (List UInt8)} {Q : Int → Ds → Prop} {n : Int} {d' : Ds} (h : DeedQ d ns Q n d') (hu : d.up = true) (hl : d.left = 0) : n = 8 ∧ d' = { d with up := false } := by
  rcases h with ⟨h1, _⟩ | ⟨_, _, h1, h2⟩ | ⟨_, h1, _⟩ | ⟨_, h1, _⟩
  · rw [hu] at h1; cases h1
  · exact ⟨h1, h2⟩
  all_goals exact absurd hl h1

theorem onQ_of {l : List UInt8} {Q : Nat → Int → Ds → Prop} {n : Int} {d' : Ds} {i : Nat} (h : OnQ d l Q n d') (hi : d.now l = some i) : Q i n d' := by
  rcases h with ⟨h, _⟩ | ⟨j, h, hq⟩
  · rw [hi] at h; cases h
  · rw [hi] at h; cases h; exact hq

theorem told_zero {K : Nat} {Q : Int → Ds → Prop} {P : Ds → Prop} {e : Ending} {w' : World} (h : Told X K w p Q e w') (hQ : ∀ n d', Q n d' → n = 0 ∧ P d') : e = .returned (.int .i64 0) ∧ Same X w w' ∧ ∃ d', Dk X K w' p d' ∧ P d' := by
  obtain ⟨n, d', rfl, hs, hd, hq⟩ := h
  obtain ⟨rfl, hp⟩ := hQ n d' hq
  exact ⟨rfl, hs, d', hd, hp⟩

theorem right_f : rightL [102] = true := by decide +kernel
theorem right_g : rightL [103] = true := by decide +kernel
theorem right_own : rightL [111, 119, 110, 47, 102, 105, 108, 101] = true := by decide +kernel
end Go.Proofs.Ytdgfnhgkncfmpaa
