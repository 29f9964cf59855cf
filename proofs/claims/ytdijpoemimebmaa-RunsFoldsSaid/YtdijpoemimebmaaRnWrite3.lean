/-
  runs.Write, WALKED WHOLE.
-/
import Derived.Test.YtdijpoemimebmaaRnWrite2
import Derived.Laws.EntriesVeiled
namespace Go.Proofs.Ytdijpoemimebmaa.Rn
open Go.RowKit
open Go.Proofs.Ytdijpoemimebmaa.Cr

theorem parts_C {r : Run} {n : Nat} (h : Part.C n ∈ parts r) : n = r.ins.length ∨ n = r.found.length := by
  simp [parts] at h
  exact h

/-- Write's end -/
def WrQ (w : World) (r : Run) (e : Ending) (w' : World) : Prop :=
  ∃ a n c, e = .returned (.tuple #[.slice a n c, .int .i64 (wrE r)]) ∧ w'.ownsRow w.heap.size 5 1 (.slice a n c) n (Pk.bytesV (wrB r)) ∧ Below w.heap.size w w'

theorem wrQ_none {w w' : World} {r : Run} {k : Nat} (hb : Below w.heap.size w w') (he : wrE r = k) (hk : k ≠ 0) : WrQ w r (.returned (.tuple #[.slice Option.none 0 0, .int .i64 (k : Int)])) w' := by
  refine ⟨Option.none, 0, 0, by rw [he], ?_, hb⟩
  have : wrB r = [] := by unfold wrB; rw [if_neg (by omega)]
  rw [this]
  exact World.ownsRow_nil _ _ _ _

section
variable {w W1 w2 : World} {r : Run} {vi vf : Value} {b4 b5 : Nat}

set_option maxRecDepth 100000 in
set_option maxHeartbeats 4000000 in
theorem write_c (hi : InRow w vi r.ins) (hf : FdRow w vf r.found) (hni : r.ins.length ≤ 1000000) (hnf : r.found.length ≤ 1000000) (hsz : size (parts r) ≤ 100000000) (htm : ∀ t, Part.M t ∈ parts r → t < 9223372036854775808) :
    Calls Try.prog 11 #[.agg (runC r vi vf)] w (WrQ w r) := by
  have hcn : ∀ n, Part.C n ∈ parts r → n ≤ 1000000 := fun n h => by rcases parts_C h with rfl | rfl <;> assumption
  obtain ⟨W1, hW1⟩ : ∃ W, ((w.alloc (.cells (runC r vi vf) 33)).alloc (.cells #[.bool false] 4)).alloc (.cells #[.int .i64 8] 3) = W := ⟨_, rfl⟩
  have z1 : (w.alloc (.cells (runC r vi vf) 33)).heap.size = w.heap.size + 1 := Array.size_push _
  have z2 : ((w.alloc (.cells (runC r vi vf) 33)).alloc (.cells #[.bool false] 4)).heap.size = w.heap.size + 1 + 1 := (Array.size_push _).trans (by rw [z1])
  have hp0 : W1.heap[w.heap.size]? = some (.cells (runC r vi vf) 33 (0, 0)) := by
    rw [← hW1, Below.heap_alloc _ _ _ (by rw [z2]; omega), Below.heap_alloc _ _ _ (by rw [z1]; omega)]
    exact heap_alloc_new _ _
  have h4 : W1.heap[w.heap.size + 1]? = some (.cells #[.bool false] 4 (0, 0)) := by
    rw [← hW1, Below.heap_alloc _ _ _ (by rw [z2]; omega), ← z1]
    exact heap_alloc_new _ _
  have h5 : W1.heap[w.heap.size + 1 + 1]? = some (.cells #[.int .i64 ((8 : Nat) : Int)] 3 (0, 0)) := by
    rw [← hW1, ← z2]
    exact heap_alloc_new _ _
  have hB1 : Below w.heap.size w W1 := by
    rw [← hW1]
    exact (((Below.refl _ _).alloc (Nat.le_refl _) _).alloc (by rw [z1]; omega) _).alloc (by rw [z2]; omega) _
  have hbox := box_of hp0 hi hf hB1
  obtain ⟨c0, c1, c2, c3, c4, c5, -, -⟩ := hbox
  have hw1 := first_way (b4 := w.heap.size + 1) (b5 := w.heap.size + 1 + 1) hni hnf hsz hi hf hB1 ⟨h4, h5⟩ (by omega) (by omega)
  have HP0 := Lib.hid hp0
  have hl0 := lt_some hp0
  unfold runC at hW1 hw1 ⊢
  clear hp0 h4 h5 hB1 z1 z2
  go_enter Try.func11, Try.ntmps11
  go_wp2_with fail
  refine hw1.mono ?_
  rintro e w2 ⟨⟨z, rfl⟩, ⟨h4, h5⟩, hB2, hO⟩
  have hp2 : w2.heap[w.heap.size]? = some (.cells (runC r vi vf) 33 (0, 0)) := (hO.block _ hl0 (by omega)).trans HP0.out
  obtain ⟨d4, _⟩ := one_cell h4
  obtain ⟨d5, _⟩ := one_cell h5
  have hbox := box_of hp2 hi hf hB2
  have HP2 := Lib.hid hp2
  have HB2 := Lib.hid hB2
  clear hw1 c0 c1 c2 c3 c4 c5 h4 h5 hO hp2 hB2 HP0 hl0
  obtain ⟨c0, c1, c2, c3, c4, c5, -, -⟩ := hbox
  by_cases hng : negR r = true
  · rw [hng] at d4
    have he : wrE r = 1 := if_pos hng
    have HE := Lib.hid he
    clear hng he
    go_wp2_with fail
    go_ret2
    exact wrQ_none (k := 1) HB2.out HE.out (by decide)
  · have hng : negR r = false := by simpa using hng
    rw [hng] at d4
    by_cases hs : 4096 < sizeR r
    · have hs' : (4096 : Int) < (sizeR r : Int) := by omega
      have he : wrE r = 3 := by unfold wrE; rw [hng, if_neg (by decide), if_pos hs]
      have HE := Lib.hid he
      clear hng he
      go_wp2_with fail
      go_ret2
      exact wrQ_none (k := 3) HB2.out HE.out (by decide)
    · have hs' : ¬ (4096 : Int) < (sizeR r : Int) := by omega
      have he : wrE r = 0 := by unfold wrE; rw [hng, if_neg (by decide), if_neg hs]
      have hbb : wrB r = recB r := if_pos he
      have hH := Crc.hash_lt (Pk.sb r.cmd)
      have hszp : size (parts r) ≤ 4088 := by unfold sizeR at hs; omega
      have hcmd : r.cmd.size ≤ 140737488351232 := by
        have : Part.T r.cmd ∈ parts r := by simp [parts]
        obtain ⟨ps, post, hpp⟩ := List.append_of_mem this
        have := size_pre hpp
        simp only [psz] at this
        omega
      have hh := hash_c (w := w2) (r := r) (vi := vi) (vf := vf) hcmd
      have HNG := Lib.hid hng
      have HE := Lib.hid he
      have HBB := Lib.hid hbb
      clear hng he hbb
      unfold runC at hh
      go_wp2_with fail
      refine hh.mono ?_
      rintro e w3 ⟨rfl, hB3⟩
      have hu := Pk.u64_any Option.none 0 0 [] (Crc.hash (Pk.sb r.cmd)) w3 hH rfl (.inl rfl) (by omega)
      have HB3 := Lib.hid (HB2.out.trans (hB3.mono HB2.out.size))
      have HP3 := Lib.hid ((hB3.block _ (lt_some HP2.out)).trans HP2.out)
      clear hh hB3 HP2 HB2 d4 d5 c0 c1 c2 c3 c4 c5
      go_wp2_with fail
      refine hu.mono ?_
      rintro e w4 ⟨a4, n4, k4, rfl, hown4, hB4⟩
      obtain ⟨W6, hW6⟩ : ∃ W, (w4.alloc (.cells #[.slice a4 n4 k4] 27)).alloc (.cells #[.func (.func 30) #[] #[.pointer (some ⟨w4.heap.size, 0, Option.none⟩)]] 68) = W := ⟨_, rfl⟩
      have z4 : (w4.alloc (.cells #[.slice a4 n4 k4] 27)).heap.size = w4.heap.size + 1 := Array.size_push _
      have hB46 : Below w4.heap.size w4 W6 := by rw [← hW6]; exact ((Below.refl _ _).alloc (Nat.le_refl _) _).alloc (by rw [z4]; omega) _
      have HB4 := Lib.hid (HB3.out.trans (hB4.mono HB3.out.size))
      have HP4 := Lib.hid ((hB4.block _ (lt_some HP3.out)).trans HP3.out)
      have hp6 : W6.heap[w.heap.size]? = some (.cells (runC r vi vf) 33 (0, 0)) := (hB46.block _ (lt_some HP4.out)).trans HP4.out
      have hB6 := HB4.out.trans (hB46.mono HB4.out.size)
      have hq6 : W6.heap[w4.heap.size]? = some (.cells #[.slice a4 n4 k4] 27 (0, 0)) := by
        rw [← hW6, Below.heap_alloc _ _ _ (by rw [z4]; omega)]
        exact heap_alloc_new _ _
      have hs6 : W6.heap[w4.heap.size + 1]? = some (.cells #[.func (.func 30) #[] #[.pointer (some ⟨w4.heap.size, 0, Option.none⟩)]] 68 (0, 0)) := by
        rw [← hW6, ← z4]
        exact heap_alloc_new _ _
      have hown6 : W6.ownsRow w.heap.size 5 1 (.slice a4 n4 k4) n4 (Pk.bytesV (Pk.le (Crc.hash (Pk.sb r.cmd)) 8)) := owns_below (Pk.owns_mono (by simpa using hown4) HB3.out.size) hB46
      have h2w := second_way (Pk.le_length _ _) hni hnf hszp HNG.out htm hcn hi hf hB6 HB4.out.size hs6 hq6 hown6
      obtain ⟨c0, c1, c2, c3, c4, c5, -, -⟩ := box_of hp6 hi hf hB6
      unfold runC at h2w
      clear hp6 hB6 hq6 hs6 hown6 hown4 hB4 hB46 z4 hu HP3 HP4
      go_wp2_with fail
      refine h2w.mono ?_
      rintro e w7 ⟨⟨z7, rfl⟩, ⟨a7, n7, k7, hq7, hown7⟩, hB7⟩
      obtain ⟨e7, _⟩ := one_cell hq7
      have HOW := Lib.hid hown7
      clear hown7 hq7 h2w c0 c1 c2 c3 c4 c5
      go_wp2_with fail
      go_ret2
      exact ⟨a7, n7, k7, by rw [HE.out]; rfl, by rw [HBB.out]; exact HOW.out, hB7⟩
end
end Go.Proofs.Ytdijpoemimebmaa.Rn
