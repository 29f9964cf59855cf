/-
  THE LAWS' OWN deed, AT A DISK THAT IS THERE.
-/
import Derived.Test.YtdgfnhgkncfmpaaAwake
namespace Go.Proofs.Ytdgfnhgkncfmpaa
open Go.RowKit Go.Maps

variable {X : Nat → Prop} {K : Nat} {w : World} {p : Nat} {q : Pl} {d : Ds}

/-- what a deed does, by its number -/
def DeedR (K : Nat) (what : Nat) (N : Int) (s t bs : List UInt8) (d : Ds) : Int → Ds → Prop :=
  match what with
  | 0 => DeedQ d [s] (WriteQ (K + 1) 65536 (spent d) s bs)
  | 1 => DeedQ d [s] (AppendQ (K + 1) 65536 (spent d) s bs)
  | 2 => DeedQ d [s] (OnQ (spent d) s (fun i n d' => CutQ (spent d) i N n d'))
  | 3 => DeedQ d [s, t] (OnQ (spent d) s (fun i n d' => n = 0 ∧ d' = changed (spent d) ⟨s, t, some i⟩))
  | 4 => DeedQ d [s] (OnQ (spent d) s (fun _ n d' => n = 0 ∧ d' = changed (spent d) ⟨s, [], none⟩))
  | 5 => DeedQ d [s] (OnQ (spent d) s (fun i n d' => n = 0 ∧ d' = synced (spent d) i))
  | _ => DeedQ d [] (fun n d' => n = 0 ∧ d' = settled (spent d) (spent d).changes.length)

theorem Told.up {K' : Nat} {Q : Int → Ds → Prop} {e : Ending} {w' : World} (h : Told X K w p Q e w') (hK : K ≤ K') : Told X K' w p Q e w' := by
  obtain ⟨n, d', h1, h2, h3, h4⟩ := h
  exact ⟨n, d', h1, h2, h3.mono hK, h4⟩

set_option maxRecDepth 100000 in
set_option maxHeartbeats 8000000 in
theorem lawDeed_c (k : Nat) (hk : k < 7) (h : Dk X K w p d) (hK : K + 4 ≤ 1000) (x0 N : Int) {s t bs : List UInt8} (hs : s.length ≤ 1000000) (ht : t.length ≤ 1000000) (hbs : bs.length ≤ 100000000) {b : Option Addr} {bn bc : Nat} (hv : BRow w (.slice b bn bc) bs)
    (hvX : ∀ k, Value.rowBlock (.slice b bn bc) = some k → X k) (ta : Option Addr) (tn tc : Nat) :
    Calls Try.prog 18 #[.pointer (some ⟨p, 0, none⟩), .int .i64 k, .agg #[.int .i64 x0, .int .i64 N, .string (mk s), .string (mk t), .slice b bn bc, .slice ta tn tc]] w (Told X (K + 3) w p (DeedR K k N s t bs d)) := by
  have hB := below_alloc w (.cells #[.int .i64 x0, .int .i64 N, .string (mk s), .string (mk t), .slice b bn bc, .slice ta tn tc] 40)
  have hd := h.up_frame (.cells #[.int .i64 x0, .int .i64 N, .string (mk s), .string (mk t), .slice b bn bc, .slice ta tn tc] 40)
  have hv1 := hv.below hB
  have hvX1 : ∀ k, Value.rowBlock (.slice b bn bc) = some k → Since X w (w.alloc (.cells #[.int .i64 x0, .int .i64 N, .string (mk s), .string (mk t), .slice b bn bc, .slice ta tn tc] 40)) k := fun k hk => .inl (hvX k hk)
  obtain ⟨w1, hw1⟩ : ∃ W, w.alloc (.cells #[.int .i64 x0, .int .i64 N, .string (mk s), .string (mk t), .slice b bn bc, .slice ta tn tc] 40) = W := ⟨_, rfl⟩
  have hxs : ∀ k, X k → Since X w (w.alloc (.cells #[.int .i64 x0, .int .i64 N, .string (mk s), .string (mk t), .slice b bn bc, .slice ta tn tc] 40)) k := fun k hk => .inl hk
  obtain ⟨Y, hY⟩ : ∃ Y, Since X w (w.alloc (.cells #[.int .i64 x0, .int .i64 N, .string (mk s), .string (mk t), .slice b bn bc, .slice ta tn tc] 40)) = Y := ⟨_, rfl⟩
  rw [hY] at hd hvX1 hxs
  rw [hw1] at hB hd hv1
  obtain ⟨q, hd⟩ := hd
  have hall : ∀ l i, d.now l = some i → (d.files i).bytes.length ≤ 65536 := fun l i hi => (hd.file i (ref_now hi)).len
  have c0 := Write_c (l := s) hd (by omega) (M := 65536) (Nat.le_refl _) hall hs hv1 hvX1 (by omega)
  have c1 := Append_c (l := s) hd (by omega) (M := 65536) (Nat.le_refl _) hall hs hv1 hvX1 (by omega)
  have c2 := Cut_c (l := s) hd (by omega) hs N
  have c3 := Rename_c (l := s) (m := t) hd (by omega) hs ht
  have c4 := Remove_c (l := s) hd (by omega) hs
  have c5 := Sync_c (l := s) hd (by omega) hs
  have c6 := SyncDir_c hd (by omega)
  have HB := Lib.hid hB
  have HX := Lib.hid hxs
  have HW := Lib.hid hw1
  clear h hv hvX hB hd hv1 hvX1 hw1 hxs hY hall hs ht hbs
  obtain rfl | rfl | rfl | rfl | rfl | rfl | rfl : k = 0 ∨ k = 1 ∨ k = 2 ∨ k = 3 ∨ k = 4 ∨ k = 5 ∨ k = 6 := by omega
  all_goals
    clear hk
    go_enter Try.func18, Try.ntmps18
    go_wp2_with fail
    rw [HW.out]
    first
      | refine c0.mono ?_
      | refine c1.mono ?_
      | refine c2.mono ?_
      | refine c3.mono ?_
      | refine c4.mono ?_
      | refine c5.mono ?_
      | refine c6.mono ?_
    rintro e w5 ⟨n, d', rfl, hT⟩
    go_wp2
    go_ret
    exact Told.up (Told.weak ⟨n, d', rfl, hT⟩ HX.out (Same.of_below HB.out)) (by omega)
end Go.Proofs.Ytdgfnhgkncfmpaa
