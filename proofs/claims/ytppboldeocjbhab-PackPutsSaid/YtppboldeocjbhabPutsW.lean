/-
  THE LAW PackPuts, WALKED.
-/
import Derived.Test.YtppboldeocjbhabPutsY
import Derived.BigQuiet
import Derived.Deep.RegionHeld3
import Derived.Deep.QuietTactic
namespace Go.Proofs.Ytppboldeocjbhab
open Go.RowKit

theorem below_drew {w w8 w9 : World} (h8 : Below w.drew.heap.size w.drew w8) (h9 : Below w8.heap.size w8 w9) : Below w.heap.size w w9 :=
  Below.trans (B := w.heap.size) ⟨h8.os, h8.tape, h8.output, h8.size, h8.block⟩ (h9.mono h8.size)

theorem le_mod4 (N : Nat) : le (N % 4294967296) 4 = le N 4 := by
  simp [le, List.range_succ]
  omega

set_option maxHeartbeats 4000000 in
set_option maxRecDepth 100000 in
theorem puts_main (a : Option Addr) (n c N f : Nat) (l : List Nat) (s : ByteArray) (w : World) (hn : Hid (n = l.length)) (hrow : Row w a l) (hnil : Hid (a = none → c = 0)) (hl : ∀ n ∈ l, n < 256)
    (hN : N < 18446744073709551616) (hf : f < 65536) (h1 : n ≤ 300) (h2 : s.size ≤ 70000) :
    Calls Try.prog 3 #[.agg #[.slice a n c, .int .u64 (N : Int), .string s, .int .u16 (f : Int)]] w fun e w' => e = .returned (.bool true) ∧ Below w.heap.size w w' := by
  have hbw := below_alloc w (.cells #[.slice a n c, .int .u64 (N : Int), .string s, .int .u16 (f : Int)] 26)
  have hrow0 := hrow.alloc (.cells #[.slice a n c, .int .u64 (N : Int), .string s, .int .u16 (f : Int)] 26)
  go_enter Try.func3, Try.ntmps3
  go_wp2_with fail
  go_quiet (fail)
  generalize hW : (w.alloc (.cells #[.slice a n c, .int .u64 (N : Int), .string s, .int .u16 (f : Int)] 26)).drewN nq = W0
  have hb0 : Below w.heap.size w W0 := by subst hW; exact ⟨hbw.os, hbw.tape, hbw.output, hbw.size, hbw.block⟩
  have hr0 : Row W0 a l := by subst hW; exact hrow0
  clear hW hbw hrow0
  have hcv := conv_row hn.out hr0 hl c
  obtain ⟨i0, hi, hz0, hz1, hz2⟩ := info_parts info5
  have hmk := run_make (P := Try.prog) W0 22 5 i0 (.int .u8 0) Try.underlying22 hi hz0 .i64 .i64 0 ((n : Int) + 20) (by omega) (by omega) (by rw [hz2]; omega) (by omega)
  rw [show ((n : Int) + 20).toNat = n + 20 from by omega, hz1, Nat.mul_one, show (Value.int .u8 0).cells = #[.int .u8 0] from rfl, show (0 : Int).toNat = 0 from rfl] at hmk
  obtain ⟨W1, happ, hr1, hsp, hg1, hb1⟩ := app_made (k := 20) hn.out hr0 hnil.out (by unfold maxLen; omega)
  have hb1w := hb0.trans (hb1.mono hb0.size)
  clear hi hz0 hz1 hz2
  go_wp2_with (at_builtin; refine wpList_append_made rfl (.tmp 41) (.tmp 42) rfl rfl _ _ _ rfl rfl happ ?_)
  clear happ hmk hcv hb1
  have hgw : w.heap.size ≤ W0.heap.size := hb0.size
  generalize W0.heap.size = g at *
  rw [show ((N : Int) % 4294967296) = ((N % 4294967296 : Nat) : Int) from by omega]
  refine (u32_any _ n (n + 20) l (N % 4294967296) W1 (by omega) hn hr1 (by omega)).mono ?_
  rintro e w2 ⟨a2, n2, c2, rfl, hown2, hb2⟩
  obtain ⟨hn2, hr2, _⟩ := owned_row hown2
  clear hown2
  have hb2w := hb1w.trans (hb2.mono hb1w.size)
  go_wp2_with fail
  refine (u64_any _ n (n + 20) l N w2 hN hn (hr1.below hb2) (by omega)).mono ?_
  rintro e w3 ⟨a3, n3, c3, rfl, hown3, hb3⟩
  obtain ⟨hn3, hr3, _⟩ := owned_row hown3
  clear hown3
  have hb3w := hb2w.trans (hb3.mono hb2w.size)
  have hr13 := (hr1.below hb2).below hb3
  have hr23 := hr2.below hb3
  have hsp3 : ∀ j, j < 20 → w3.cell? ⟨g, n + j, none⟩ = some (.int .u8 0) := fun j hj => (hb3.cell (p := ⟨g, n + j, none⟩) (by show g < _; have := hb2.size; omega)).trans ((hb2.cell (p := ⟨g, n + j, none⟩) hg1).trans (hsp j hj))
  have hg3 : g < w3.heap.size := by have := hb2.size; have := hb3.size; omega
  clear hr1 hr2 hsp hg1 hb2 hb3 hb1w hb2w
  go_wp2_with fail
  by_cases hs : s.size ≤ 65535
  · refine (text_any _ n (n + 20) l s w3 hn hr13 (by omega) hs).mono ?_
    rintro e w4 ⟨a4, n4, c4, rfl, hown4, hb4⟩
    obtain ⟨hn4, hr4, _⟩ := owned_row hown4
    clear hown4
    have hb4w := hb3w.trans (hb4.mono hb3w.size)
    go_wp2_with fail
    refine (reft_any s w4 hs).mono ?_
    rintro e w5 ⟨a5, n5, c5, rfl, hown5, hb5⟩
    obtain ⟨hn5, hr5, _⟩ := owned_row hown5
    clear hown5
    have hb5w := hb4w.trans (hb5.mono hb4w.size)
    have hr14 := (hr13.below hb4).below hb5
    have hr24 := (hr23.below hb4).below hb5
    have hr34 := (hr3.below hb4).below hb5
    have hr44 := hr4.below hb5
    have hsp5 : ∀ j, j < 20 → w5.cell? ⟨g, n + j, none⟩ = some (.int .u8 0) := fun j hj => (hb5.cell (p := ⟨g, n + j, none⟩) (by show g < _; have := hb4.size; omega)).trans ((hb4.cell (p := ⟨g, n + j, none⟩) hg3).trans (hsp3 j hj))
    have hg5 : g < w5.heap.size := by have := hb4.size; have := hb5.size; omega
    clear hr13 hr23 hr3 hr4 hsp3 hg3 hb3w hb4 hb5 hb4w
    go_wp2_with fail
    obtain ⟨L, hLe, hL1, hL2⟩ : ∃ L : Nat, 65435 + (f : Int) % 200 = (L : Int) ∧ 65435 ≤ L ∧ L < 65635 := ⟨65435 + f % 200, by omega, by omega, by omega⟩
    obtain ⟨i0, hi, hz0, hz1, hz2⟩ := info_parts info5
    have hmk := run_make (P := Try.prog) w5 22 5 i0 (.int .u8 0) Try.underlying22 hi hz0 .i64 .i64 (L : Int) (L : Int) (by omega) (by omega) (by rw [hz2]; omega) (by omega)
    rw [Int.toNat_natCast, hz1, Nat.mul_one, show (Value.int .u8 0).cells = #[.int .u8 0] from rfl] at hmk
    have hrf : Row (w5.alloc (.cells (madeCells #[.int .u8 0] L) 5)) (some ⟨w5.heap.size, 0, none⟩) (List.replicate L 0) := row_mark _ _ _ _ _ fun i hi => by
      rw [List.length_replicate] at hi
      rw [made_zero _ _ hi]
      simp [hi]
    have hcv := conv_row (n := L) (by simp) hrf (fun x hx => by rw [List.eq_of_mem_replicate hx]; omega) L
    have hfs : (str (List.replicate L 0)).size = L := by rw [str_size, List.length_replicate]
    have hHS := Lib.hid hfs
    have HL := Lib.hid hLe
    have hb6 := hb5w.alloc hb5w.size (.cells (madeCells #[.int .u8 0] L) 5)
    have hr16 := hr14.alloc (.cells (madeCells #[.int .u8 0] L) 5)
    have hr26 := hr24.alloc (.cells (madeCells #[.int .u8 0] L) 5)
    have hr36 := hr34.alloc (.cells (madeCells #[.int .u8 0] L) 5)
    have hr46 := hr44.alloc (.cells (madeCells #[.int .u8 0] L) 5)
    have hr56 := hr5.alloc (.cells (madeCells #[.int .u8 0] L) 5)
    clear hrf hi hz0 hz1 hz2 hfs hr14 hr24 hr34 hr44 hr5 hLe
    generalize str (List.replicate L 0) = S at *
    go_loopw [16] (fun i wr => ∃ j : Nat, j ≤ 20 ∧ i = .int .i64 ((n + j : Nat) : Int) ∧ wr = w5) (fun i _ => n + 20 - (intOf i).toNat)
    case atStart => exact ⟨0, by omega, rfl, rfl⟩
    case round =>
      obtain ⟨j, hj, rfl, rfl⟩ := hrel
      by_cases hlt : j < 20
      · have hc := hsp5 j hlt
        clear hmk hcv
        go_wp2_with fail
        go_roundw
        case rel => exact ⟨j + 1, by omega, by go_num, trivial⟩
        case measure => simp [intOf]; omega
      · obtain rfl : j = 20 := by omega
        have hLL := HL.out
        go_wp2_with fail
        have hSL := hHS.out
        clear hmk hcv hLL hHS HL hsp5 hg5 hb5w
        generalize (wr.alloc (Obj.cells (madeCells #[Value.int IntKind.u8 0] L) 5)) = w6 at *
        by_cases hL : S.size ≤ 65535
        · refine (text_any none 0 0 [] S w6 rfl (.inl rfl) (by omega) hL).mono ?_
          rintro e w7 ⟨a7, n7, c7, rfl, hown7, hb7⟩
          obtain ⟨hn7, _, _⟩ := owned_row hown7
          clear hown7
          have hb7w := hb6.trans (hb7.mono hb6.size)
          have hn72 : n7 = S.size + 2 := by have := hn7.out; rw [List.nil_append, List.length_append, le_length, sb_length] at this; omega
          subst hn72
          have hr17 := hr16.below hb7
          have hr27 := hr26.below hb7
          have hr37 := hr36.below hb7
          have hr47 := hr46.below hb7
          have hr57 := hr56.below hb7
          clear hr16 hr26 hr36 hr46 hr56 hb6 hb7 hn7
          go_wp2_with fail
          have hr27 : Row w7 a2 (l ++ le N 4) := by rw [← le_mod4]; exact hr27
          have hn2 : Hid (n2 = (l ++ le N 4).length) := by rw [← le_mod4]; exact hn2
          obtain ⟨b2, o2, e2, _, _⟩ := hr27.some (by rw [List.length_append, le_length]; omega)
          subst e2
          obtain ⟨b3, o3, e3, _, _⟩ := hr37.some (by rw [List.length_append, le_length]; omega)
          subst e3
          have hl4 := app_lt hl (le_lt N 4)
          have hl8 := app_lt hl (le_lt N 8)
          have s4 := str_append l (le N 4)
          have s8 := str_append l (le N 8)
          have p1 := conv_row hn.out hr17 hl (n + 20)
          have p2 := conv_row hn2.out hr27 hl4 c2
          have p3 := conv_row hn3.out hr37 hl8 c3
          have p1d := conv_row hn.out hr17.drew hl (n + 20)
          have p2d := conv_row hn2.out hr27.drew hl4 c2
          have p3d := conv_row hn3.out hr37.drew hl8 c3
          rw [s4] at p2 p2d
          rw [s8] at p3 p3d
          have z4 : ¬ (9223372036854775807 < (str l).size + (str (le N 4)).size) := by rw [str_size, str_size, le_length]; have := hn.out; omega
          have z8 : ¬ (9223372036854775807 < (str l).size + (str (le N 8)).size) := by rw [str_size, str_size, le_length]; have := hn.out; omega
          have cA : ∀ (w : World) (a : Option Addr) (n c : Nat), Hid (n = l.length) → Row w a l → (convert 22 9 (.slice a n c)).run Try.prog w = .ok (.string (str l)) w := fun w a n c h1 h2 => conv_row h1.out h2 hl c
          have c4 : ∀ (w : World) (a : Option Addr) (n c : Nat), Hid (n = (le N 4).length) → Row w a (le N 4) → (convert 22 9 (.slice a n c)).run Try.prog w = .ok (.string (str (le N 4))) w := fun w a n c h1 h2 => conv_row h1.out h2 (le_lt _ _) c
          have c8 : ∀ (w : World) (a : Option Addr) (n c : Nat), Hid (n = (le N 8).length) → Row w a (le N 8) → (convert 22 9 (.slice a n c)).run Try.prog w = .ok (.string (str (le N 8))) w := fun w a n c h1 h2 => conv_row h1.out h2 (le_lt _ _) c
          have cA4 : ∀ (w : World) (a : Option Addr) (n c : Nat), Hid (n = (l ++ le N 4).length) → Row w a (l ++ le N 4) → (convert 22 9 (.slice a n c)).run Try.prog w = .ok (.string (str l ++ str (le N 4))) w := fun w a n c h1 h2 => by rw [← s4]; exact conv_row h1.out h2 hl4 c
          have cA8 : ∀ (w : World) (a : Option Addr) (n c : Nat), Hid (n = (l ++ le N 8).length) → Row w a (l ++ le N 8) → (convert 22 9 (.slice a n c)).run Try.prog w = .ok (.string (str l ++ str (le N 8))) w := fun w a n c h1 h2 => by rw [← s8]; exact conv_row h1.out h2 hl8 c
          have hlz : ∀ x ∈ l ++ (le s.size 2 ++ sb s), x < 256 := app_lt hl (app_lt (le_lt _ _) (sb_lt _))
          have hlw : ∀ x ∈ le s.size 2 ++ sb s, x < 256 := app_lt (le_lt _ _) (sb_lt _)
          have sz := str_append l (le s.size 2 ++ sb s)
          have cz : ∀ (w : World) (a : Option Addr) (n c : Nat), Hid (n = (l ++ (le s.size 2 ++ sb s)).length) → Row w a (l ++ (le s.size 2 ++ sb s)) → (convert 22 9 (.slice a n c)).run Try.prog w = .ok (.string (str l ++ str (le s.size 2 ++ sb s))) w := fun w a n c h1 h2 => by rw [← sz]; exact conv_row h1.out h2 hlz c
          have cw : ∀ (w : World) (a : Option Addr) (n c : Nat), Hid (n = (le s.size 2 ++ sb s).length) → Row w a (le s.size 2 ++ sb s) → (convert 22 9 (.slice a n c)).run Try.prog w = .ok (.string (str (le s.size 2 ++ sb s))) w := fun w a n c h1 h2 => conv_row h1.out h2 hlw c
          have zw : ¬ (9223372036854775807 < (str l).size + (str (le s.size 2 ++ sb s)).size) := by rw [str_size, str_size, List.length_append, le_length, sb_length]; have := hn.out; omega
          rw [List.append_assoc] at hr47 hn4
          clear s4 s8 hl4 hl8 sz hlz hlw
          have HcA := Lib.hid cA
          have Hc4 := Lib.hid c4
          have Hc8 := Lib.hid c8
          have HcA4 := Lib.hid cA4
          have HcA8 := Lib.hid cA8
          have Hcz := Lib.hid cz
          have Hcw := Lib.hid cw
          clear cA c4 c8 cA4 cA8 cz cw
          generalize str l = A at *
          generalize str (le N 4) = B4 at *
          generalize str (le N 8) = B8 at *
          generalize str (le s.size 2 ++ sb s) = D at *
          refine wp_region_noPanic ?_
          refine wp_region_held_drew (S := (fun w' => (convert 22 9 (.slice (some ⟨g, 0, none⟩) n (n + 20))).run Try.prog w' = .ok (.string A) w' ∧ (convert 22 9 (.slice (some ⟨b2, o2, none⟩) n2 c2)).run Try.prog w' = .ok (.string (A ++ B4)) w' ∧ (convert 22 9 (.slice (some ⟨b3, o3, none⟩) n3 c3)).run Try.prog w' = .ok (.string (A ++ B8)) w')) (by kernel_rfl) ⟨p1d, p2d, p3d⟩ (fun hHeld0 => ?_)
          refine wpAnyH_take (i := 0) (oi := { dst := some 122, op := Op.move (Operand.tmp 8), type := 22, pos := _, after := #[], guard := none }) (v := ?_) rfl (by kernel_rfl) (by kernel_rfl) (by kernel_rfl) (fun _ _ _ h => h) (Or.inl ⟨by rfl, ?_⟩) (by assumption) ?_
          rotate_left 1
          · intro w hSw
            try dsimp only at hSw
            go_simp
            first | done | with_reducible rfl
          try simp only [Act.put, List.setIfInBounds_toArray, List.set_cons_zero, List.set_cons_succ]
          refine wpAnyH_take (i := 2) (oi := { dst := some 124, op := Op.move (Operand.tmp 7), type := 9, pos := _, after := #[], guard := none }) (v := ?_) rfl (by kernel_rfl) (by kernel_rfl) (by kernel_rfl) (fun _ _ _ h => h) (Or.inl ⟨by rfl, ?_⟩) (by assumption) ?_
          rotate_left 1
          · intro w hSw
            try dsimp only at hSw
            go_simp
            first | done | with_reducible rfl
          try simp only [Act.put, List.setIfInBounds_toArray, List.set_cons_zero, List.set_cons_succ]
          refine wpAnyH_take (i := 1) (oi := { dst := some 123, op := Op.convert 22 9 (Operand.tmp 122), type := 9, pos := _, after := #[{ on := 0, ground := Ground.data }], guard := none }) (v := ?_) rfl (by kernel_rfl) (by kernel_rfl) (by kernel_rfl) (fun _ _ _ h => h) (Or.inl ⟨by rfl, ?_⟩) (by assumption) ?_
          rotate_left 1
          · intro w hSw
            try dsimp only at hSw
            go_simp
            first | done | with_reducible rfl
          try simp only [Act.put, List.setIfInBounds_toArray, List.set_cons_zero, List.set_cons_succ]
          refine wpAnyH_take (i := 3) (oi := { dst := some 125, op := Op.binOp BinOp.neq 9 (Operand.tmp 123) (Operand.tmp 124) 9, type := 4, pos := _, after := #[{ on := 1, ground := Ground.data }, { on := 2, ground := Ground.data }], guard := none }) (v := ?_) rfl (by kernel_rfl) (by kernel_rfl) (by kernel_rfl) (fun _ _ _ h => h) (Or.inl ⟨by rfl, ?_⟩) (by assumption) ?_
          rotate_left 1
          · intro w hSw
            try dsimp only at hSw
            go_simp
            first | done | with_reducible rfl
          try simp only [Act.put, List.setIfInBounds_toArray, List.set_cons_zero, List.set_cons_succ]
          refine wpAnyH_take (i := 4) (oi := { dst := some 126, op := Op.move (Operand.tmp 125), type := 4, pos := _, after := #[{ on := 3, ground := Ground.data }], guard := none }) (v := ?_) rfl (by kernel_rfl) (by kernel_rfl) (by kernel_rfl) (fun _ _ _ h => h) (Or.inl ⟨by rfl, ?_⟩) (by assumption) ?_
          rotate_left 1
          · intro w hSw
            try dsimp only at hSw
            go_simp
            first | done | with_reducible rfl
          try simp only [Act.put, List.setIfInBounds_toArray, List.set_cons_zero, List.set_cons_succ]
          refine wpAnyH_take (i := 5) (oi := { dst := some 127, op := Op.move (Operand.tmp 9), type := 22, pos := _, after := #[{ on := 4, ground := Ground.guard }], guard := some (4, false) }) (v := ?_) rfl (by kernel_rfl) (by kernel_rfl) (by kernel_rfl) (fun _ _ _ h => h) (Or.inl ⟨by rfl, ?_⟩) (by assumption) ?_
          rotate_left 1
          · intro w hSw
            try dsimp only at hSw
            go_simp
            first | done | with_reducible rfl
          try simp only [Act.put, List.setIfInBounds_toArray, List.set_cons_zero, List.set_cons_succ]
          refine wpAnyH_take (i := 6) (oi := { dst := some 128, op := Op.convert 22 9 (Operand.tmp 127), type := 9, pos := _, after := #[{ on := 5, ground := Ground.data }, { on := 4, ground := Ground.guard }], guard := some (4, false) }) (v := ?_) rfl (by kernel_rfl) (by kernel_rfl) (by kernel_rfl) (fun _ _ _ h => h) (Or.inl ⟨by rfl, ?_⟩) (by assumption) ?_
          rotate_left 1
          · intro w hSw
            try dsimp only at hSw
            go_simp
            first | done | with_reducible rfl
          try simp only [Act.put, List.setIfInBounds_toArray, List.set_cons_zero, List.set_cons_succ]
          refine wpAnyH_take (i := 7) (oi := { dst := some 129, op := Op.move (Operand.tmp 7), type := 9, pos := _, after := #[{ on := 4, ground := Ground.guard }], guard := some (4, false) }) (v := ?_) rfl (by kernel_rfl) (by kernel_rfl) (by kernel_rfl) (fun _ _ _ h => h) (Or.inl ⟨by rfl, ?_⟩) (by assumption) ?_
          rotate_left 1
          · intro w hSw
            try dsimp only at hSw
            go_simp
            first | done | with_reducible rfl
          try simp only [Act.put, List.setIfInBounds_toArray, List.set_cons_zero, List.set_cons_succ]
          refine wpAnyH_take (i := 8) (oi := { dst := some 130, op := Op.move (Operand.tmp 4), type := 23, pos := _, after := #[{ on := 4, ground := Ground.guard }], guard := some (4, false) }) (v := ?_) rfl (by kernel_rfl) (by kernel_rfl) (by kernel_rfl) (fun _ _ _ h => h) (Or.inl ⟨by rfl, ?_⟩) (by assumption) ?_
          rotate_left 1
          · intro w hSw
            try dsimp only at hSw
            go_simp
            first | done | with_reducible rfl
          try simp only [Act.put, List.setIfInBounds_toArray, List.set_cons_zero, List.set_cons_succ]
          refine wpAnyH_ready (rs := [9]) (by kernel_rfl) (by simp) ?_
          refine AllReadyH.cons (o := { dst := some 131, op := Op.call { callee := Callee.value (Operand.func 12), args := #[Operand.tmp 130, Operand.const (Value.int IntKind.i64 4)], argTypes := #[23, 3] }, type := 22, pos := _, after := #[{ on := 8, ground := Ground.data }, { on := 4, ground := Ground.chain }, { on := 4, ground := Ground.guard }], guard := some (4, false) }) rfl (fun K hK => ?_) AllReadyH.nil
          go_simp
          refine (refnum_any N 4 _ hN (by omega)).mono ?_
          rintro e w8 ⟨a8, n8, c8, rfl, hown8, hb8⟩
          obtain ⟨hn8, hr8, _⟩ := owned_row hown8
          obtain ⟨b8, o8, e8, _, _⟩ := hr8.some (by rw [le_length]; omega)
          subst e8
          have r8 := Hc4.out w8 _ n8 c8 hn8 hr8
          have hr18 := hr17.drew.below hb8
          have hr28 := hr27.drew.below hb8
          have hr38 := hr37.drew.below hb8
          have q1 := HcA.out w8 _ n (n + 20) hn hr18
          have q2 := HcA4.out w8 _ n2 c2 hn2 hr28
          have q3 := HcA8.out w8 _ n3 c3 hn3 hr38
          clear hown8 hHeld0
          go_wp2_with fail
          refine hK.out _ _ ⟨q1, q2, q3⟩ (fun hHeld9 => ?_)
          clear hK K
          try simp only [Act.put, List.setIfInBounds_toArray, List.set_cons_zero, List.set_cons_succ]
          refine wpAnyH_ready (rs := [10]) (by kernel_rfl) (by simp) ?_
          refine AllReadyH.cons (o := { dst := some 132, op := Op.convert 22 9 (Operand.tmp 131), type := 9, pos := _, after := #[{ on := 9, ground := Ground.data }, { on := 4, ground := Ground.guard }], guard := some (4, false) }) rfl (fun K hK => ?_) AllReadyH.nil
          go_simp
          refine hK.out _ _ ⟨q1, q2, q3⟩ (fun hHeld10 => ?_)
          clear hK K
          try simp only [Act.put, List.setIfInBounds_toArray, List.set_cons_zero, List.set_cons_succ]
          clear hHeld9 p1 p2 p3 p1d p2d p3d r8
          refine wpAnyH_take (i := 11) (oi := { dst := some 133, op := Op.binOp BinOp.add 9 (Operand.tmp 129) (Operand.tmp 132) 9, type := 9, pos := _, after := #[{ on := 7, ground := Ground.data }, { on := 10, ground := Ground.data }, { on := 4, ground := Ground.guard }], guard := some (4, false) }) (v := ?_) rfl (by kernel_rfl) (by kernel_rfl) (by kernel_rfl) (fun _ _ _ h => h) (Or.inl ⟨by rfl, ?_⟩) (by assumption) ?_
          rotate_left 1
          · intro w hSw
            try dsimp only at hSw
            go_simp
            first | done | with_reducible rfl
          try simp only [Act.put, List.setIfInBounds_toArray, List.set_cons_zero, List.set_cons_succ]
          refine wpAnyH_take (i := 12) (oi := { dst := some 134, op := Op.binOp BinOp.neq 9 (Operand.tmp 128) (Operand.tmp 133) 9, type := 4, pos := _, after := #[{ on := 6, ground := Ground.data }, { on := 11, ground := Ground.data }, { on := 4, ground := Ground.guard }], guard := some (4, false) }) (v := ?_) rfl (by kernel_rfl) (by kernel_rfl) (by kernel_rfl) (fun _ _ _ h => h) (Or.inl ⟨by rfl, ?_⟩) (by assumption) ?_
          rotate_left 1
          · intro w hSw
            try dsimp only at hSw
            go_simp
            first | done | with_reducible rfl
          try simp only [Act.put, List.setIfInBounds_toArray, List.set_cons_zero, List.set_cons_succ]
          refine wpAnyH_take (i := 13) (oi := { dst := some 135, op := Op.pick (Operand.tmp 126) (Operand.const (Value.bool true)) (Operand.tmp 134), type := 4, pos := _, after := #[{ on := 4, ground := Ground.data }, { on := 12, ground := Ground.data }], guard := none }) (v := ?_) rfl (by kernel_rfl) (by kernel_rfl) (by kernel_rfl) (fun _ _ _ h => h) (Or.inl ⟨by rfl, ?_⟩) (by assumption) ?_
          rotate_left 1
          · intro w hSw
            try dsimp only at hSw
            go_simp
            first | done | with_reducible rfl
          try simp only [Act.put, List.setIfInBounds_toArray, List.set_cons_zero, List.set_cons_succ]
          refine wpAnyH_take (i := 14) (oi := { dst := some 136, op := Op.move (Operand.tmp 135), type := 4, pos := _, after := #[{ on := 13, ground := Ground.data }, { on := 9, ground := Ground.chain }], guard := none }) (v := ?_) rfl (by kernel_rfl) (by kernel_rfl) (by kernel_rfl) (fun _ _ _ h => h) (Or.inl ⟨by rfl, ?_⟩) (by assumption) ?_
          rotate_left 1
          · intro w hSw
            try dsimp only at hSw
            go_simp
            first | done | with_reducible rfl
          try simp only [Act.put, List.setIfInBounds_toArray, List.set_cons_zero, List.set_cons_succ]
          refine wpAnyH_take (i := 15) (oi := { dst := some 137, op := Op.move (Operand.tmp 10), type := 22, pos := _, after := #[{ on := 14, ground := Ground.guard }], guard := some (14, false) }) (v := ?_) rfl (by kernel_rfl) (by kernel_rfl) (by kernel_rfl) (fun _ _ _ h => h) (Or.inl ⟨by rfl, ?_⟩) (by assumption) ?_
          rotate_left 1
          · intro w hSw
            try dsimp only at hSw
            go_simp
            first | done | with_reducible rfl
          try simp only [Act.put, List.setIfInBounds_toArray, List.set_cons_zero, List.set_cons_succ]
          refine wpAnyH_take (i := 16) (oi := { dst := some 138, op := Op.convert 22 9 (Operand.tmp 137), type := 9, pos := _, after := #[{ on := 15, ground := Ground.data }, { on := 14, ground := Ground.guard }], guard := some (14, false) }) (v := ?_) rfl (by kernel_rfl) (by kernel_rfl) (by kernel_rfl) (fun _ _ _ h => h) (Or.inl ⟨by rfl, ?_⟩) (by assumption) ?_
          rotate_left 1
          · intro w hSw
            try dsimp only at hSw
            go_simp
            first | done | with_reducible rfl
          try simp only [Act.put, List.setIfInBounds_toArray, List.set_cons_zero, List.set_cons_succ]
          refine wpAnyH_take (i := 17) (oi := { dst := some 139, op := Op.move (Operand.tmp 7), type := 9, pos := _, after := #[{ on := 14, ground := Ground.guard }], guard := some (14, false) }) (v := ?_) rfl (by kernel_rfl) (by kernel_rfl) (by kernel_rfl) (fun _ _ _ h => h) (Or.inl ⟨by rfl, ?_⟩) (by assumption) ?_
          rotate_left 1
          · intro w hSw
            try dsimp only at hSw
            go_simp
            first | done | with_reducible rfl
          try simp only [Act.put, List.setIfInBounds_toArray, List.set_cons_zero, List.set_cons_succ]
          refine wpAnyH_take (i := 18) (oi := { dst := some 140, op := Op.move (Operand.tmp 4), type := 23, pos := _, after := #[{ on := 14, ground := Ground.guard }], guard := some (14, false) }) (v := ?_) rfl (by kernel_rfl) (by kernel_rfl) (by kernel_rfl) (fun _ _ _ h => h) (Or.inl ⟨by rfl, ?_⟩) (by assumption) ?_
          rotate_left 1
          · intro w hSw
            try dsimp only at hSw
            go_simp
            first | done | with_reducible rfl
          try simp only [Act.put, List.setIfInBounds_toArray, List.set_cons_zero, List.set_cons_succ]
          refine wpAnyH_ready (rs := [19]) (by kernel_rfl) (by simp) ?_
          refine AllReadyH.cons (o := { dst := some 141, op := Op.call { callee := Callee.value (Operand.func 12), args := #[Operand.tmp 140, Operand.const (Value.int IntKind.i64 8)], argTypes := #[23, 3] }, type := 22, pos := _, after := #[{ on := 18, ground := Ground.data }, { on := 14, ground := Ground.chain }, { on := 14, ground := Ground.guard }], guard := some (14, false) }) rfl (fun K hK => ?_) AllReadyH.nil
          go_simp
          refine (refnum_any N 8 _ hN (by omega)).mono ?_
          rintro e w9 ⟨a9, n9, c9, rfl, hown9, hb9⟩
          obtain ⟨hn9, hr9, _⟩ := owned_row hown9
          obtain ⟨b9, o9, e9, _, _⟩ := hr9.some (by rw [le_length]; omega)
          subst e9
          have r9 := Hc8.out w9 _ n9 c9 hn9 hr9
          have hr19 := hr18.below hb9
          have hr29 := hr28.below hb9
          have hr39 := hr38.below hb9
          have t1 := HcA.out w9 _ n (n + 20) hn hr19
          have t2 := HcA4.out w9 _ n2 c2 hn2 hr29
          have t3 := HcA8.out w9 _ n3 c3 hn3 hr39
          clear hown9 q1 q2 q3 hHeld10
          go_wp2_with fail
          refine hK.out _ _ ⟨t1, t2, t3⟩ (fun hHeld19 => ?_)
          clear hK K
          try simp only [Act.put, List.setIfInBounds_toArray, List.set_cons_zero, List.set_cons_succ]
          refine wpAnyH_ready (rs := [20]) (by kernel_rfl) (by simp) ?_
          refine AllReadyH.cons (o := { dst := some 142, op := Op.convert 22 9 (Operand.tmp 141), type := 9, pos := _, after := #[{ on := 19, ground := Ground.data }, { on := 14, ground := Ground.guard }], guard := some (14, false) }) rfl (fun K hK => ?_) AllReadyH.nil
          go_simp
          refine hK.out _ _ ⟨t1, t2, t3⟩ (fun hHeld20 => ?_)
          clear hK K
          try simp only [Act.put, List.setIfInBounds_toArray, List.set_cons_zero, List.set_cons_succ]
          refine wpAnyH_take (i := 21) (oi := { dst := some 143, op := Op.binOp BinOp.add 9 (Operand.tmp 139) (Operand.tmp 142) 9, type := 9, pos := _, after := #[{ on := 17, ground := Ground.data }, { on := 20, ground := Ground.data }, { on := 14, ground := Ground.guard }], guard := some (14, false) }) (v := ?_) rfl (by kernel_rfl) (by kernel_rfl) (by kernel_rfl) (fun _ _ _ h => h) (Or.inl ⟨by rfl, ?_⟩) (by assumption) ?_
          rotate_left 1
          · intro w hSw
            try dsimp only at hSw
            go_simp
            first | done | with_reducible rfl
          try simp only [Act.put, List.setIfInBounds_toArray, List.set_cons_zero, List.set_cons_succ]
          refine wpAnyH_take (i := 22) (oi := { dst := some 144, op := Op.binOp BinOp.neq 9 (Operand.tmp 138) (Operand.tmp 143) 9, type := 4, pos := _, after := #[{ on := 16, ground := Ground.data }, { on := 21, ground := Ground.data }, { on := 14, ground := Ground.guard }], guard := some (14, false) }) (v := ?_) rfl (by kernel_rfl) (by kernel_rfl) (by kernel_rfl) (fun _ _ _ h => h) (Or.inl ⟨by rfl, ?_⟩) (by assumption) ?_
          rotate_left 1
          · intro w hSw
            try dsimp only at hSw
            go_simp
            first | done | with_reducible rfl
          try simp only [Act.put, List.setIfInBounds_toArray, List.set_cons_zero, List.set_cons_succ]
          refine wpAnyH_take (i := 23) (oi := { dst := some 145, op := Op.pick (Operand.tmp 136) (Operand.const (Value.bool true)) (Operand.tmp 144), type := 4, pos := _, after := #[{ on := 14, ground := Ground.data }, { on := 22, ground := Ground.data }], guard := none }) (v := ?_) rfl (by kernel_rfl) (by kernel_rfl) (by kernel_rfl) (fun _ _ _ h => h) (Or.inl ⟨by rfl, ?_⟩) (by assumption) ?_
          rotate_left 1
          · intro w hSw
            try dsimp only at hSw
            go_simp
            first | done | with_reducible rfl
          try simp only [Act.put, List.setIfInBounds_toArray, List.set_cons_zero, List.set_cons_succ]
          refine wpAnyH_done (by kernel_rfl) ?_ _
          refine NoPanic.normal ?_
          have hb9w := hb7w.trans ((below_drew hb8 hb9).mono hb7w.size)
          have hr49 := (hr47.drew.below hb8).below hb9
          have hr59 := (hr57.drew.below hb8).below hb9
          have v4 := Hcz.out w9 _ n4 c4 hn4 hr49
          have v5 := Hcw.out w9 _ n5 c5 hn5 hr59
          clear hHeld19 hHeld20 t1 t2 t3 r9 hb8 hb9 hr17 hr27 hr37 hr47 hr57 hr18 hr28 hr38 hr19 hr29 hr39
          go_wp2_with fail
          refine (awake_any w9).mono ?_
          rintro e w10 ⟨rfl, hb10⟩
          have hb10w := hb9w.trans (hb10.mono hb9w.size)
          go_wp2_with fail
          go_ret
          exact ⟨rfl, hb10w⟩
        · refine (text_long _ S w6 (by omega)).mono ?_
          rintro e w7 ⟨rfl, rfl⟩
          have hb7w := hb6
          have hr17 := hr16
          have hr27 := hr26
          have hr37 := hr36
          have hr47 := hr46
          have hr57 := hr56
          clear hr16 hr26 hr36 hr46 hr56 hb6
          go_wp2_with fail
          have hr27 : Row w6 a2 (l ++ le N 4) := by rw [← le_mod4]; exact hr27
          have hn2 : Hid (n2 = (l ++ le N 4).length) := by rw [← le_mod4]; exact hn2
          obtain ⟨b2, o2, e2, _, _⟩ := hr27.some (by rw [List.length_append, le_length]; omega)
          subst e2
          obtain ⟨b3, o3, e3, _, _⟩ := hr37.some (by rw [List.length_append, le_length]; omega)
          subst e3
          have hl4 := app_lt hl (le_lt N 4)
          have hl8 := app_lt hl (le_lt N 8)
          have s4 := str_append l (le N 4)
          have s8 := str_append l (le N 8)
          have p1 := conv_row hn.out hr17 hl (n + 20)
          have p2 := conv_row hn2.out hr27 hl4 c2
          have p3 := conv_row hn3.out hr37 hl8 c3
          have p1d := conv_row hn.out hr17.drew hl (n + 20)
          have p2d := conv_row hn2.out hr27.drew hl4 c2
          have p3d := conv_row hn3.out hr37.drew hl8 c3
          rw [s4] at p2 p2d
          rw [s8] at p3 p3d
          have z4 : ¬ (9223372036854775807 < (str l).size + (str (le N 4)).size) := by rw [str_size, str_size, le_length]; have := hn.out; omega
          have z8 : ¬ (9223372036854775807 < (str l).size + (str (le N 8)).size) := by rw [str_size, str_size, le_length]; have := hn.out; omega
          have cA : ∀ (w : World) (a : Option Addr) (n c : Nat), Hid (n = l.length) → Row w a l → (convert 22 9 (.slice a n c)).run Try.prog w = .ok (.string (str l)) w := fun w a n c h1 h2 => conv_row h1.out h2 hl c
          have c4 : ∀ (w : World) (a : Option Addr) (n c : Nat), Hid (n = (le N 4).length) → Row w a (le N 4) → (convert 22 9 (.slice a n c)).run Try.prog w = .ok (.string (str (le N 4))) w := fun w a n c h1 h2 => conv_row h1.out h2 (le_lt _ _) c
          have c8 : ∀ (w : World) (a : Option Addr) (n c : Nat), Hid (n = (le N 8).length) → Row w a (le N 8) → (convert 22 9 (.slice a n c)).run Try.prog w = .ok (.string (str (le N 8))) w := fun w a n c h1 h2 => conv_row h1.out h2 (le_lt _ _) c
          have cA4 : ∀ (w : World) (a : Option Addr) (n c : Nat), Hid (n = (l ++ le N 4).length) → Row w a (l ++ le N 4) → (convert 22 9 (.slice a n c)).run Try.prog w = .ok (.string (str l ++ str (le N 4))) w := fun w a n c h1 h2 => by rw [← s4]; exact conv_row h1.out h2 hl4 c
          have cA8 : ∀ (w : World) (a : Option Addr) (n c : Nat), Hid (n = (l ++ le N 8).length) → Row w a (l ++ le N 8) → (convert 22 9 (.slice a n c)).run Try.prog w = .ok (.string (str l ++ str (le N 8))) w := fun w a n c h1 h2 => by rw [← s8]; exact conv_row h1.out h2 hl8 c
          have hlz : ∀ x ∈ l ++ (le s.size 2 ++ sb s), x < 256 := app_lt hl (app_lt (le_lt _ _) (sb_lt _))
          have hlw : ∀ x ∈ le s.size 2 ++ sb s, x < 256 := app_lt (le_lt _ _) (sb_lt _)
          have sz := str_append l (le s.size 2 ++ sb s)
          have cz : ∀ (w : World) (a : Option Addr) (n c : Nat), Hid (n = (l ++ (le s.size 2 ++ sb s)).length) → Row w a (l ++ (le s.size 2 ++ sb s)) → (convert 22 9 (.slice a n c)).run Try.prog w = .ok (.string (str l ++ str (le s.size 2 ++ sb s))) w := fun w a n c h1 h2 => by rw [← sz]; exact conv_row h1.out h2 hlz c
          have cw : ∀ (w : World) (a : Option Addr) (n c : Nat), Hid (n = (le s.size 2 ++ sb s).length) → Row w a (le s.size 2 ++ sb s) → (convert 22 9 (.slice a n c)).run Try.prog w = .ok (.string (str (le s.size 2 ++ sb s))) w := fun w a n c h1 h2 => conv_row h1.out h2 hlw c
          have zw : ¬ (9223372036854775807 < (str l).size + (str (le s.size 2 ++ sb s)).size) := by rw [str_size, str_size, List.length_append, le_length, sb_length]; have := hn.out; omega
          rw [List.append_assoc] at hr47 hn4
          clear s4 s8 hl4 hl8 sz hlz hlw
          have HcA := Lib.hid cA
          have Hc4 := Lib.hid c4
          have Hc8 := Lib.hid c8
          have HcA4 := Lib.hid cA4
          have HcA8 := Lib.hid cA8
          have Hcz := Lib.hid cz
          have Hcw := Lib.hid cw
          clear cA c4 c8 cA4 cA8 cz cw
          generalize str l = A at *
          generalize str (le N 4) = B4 at *
          generalize str (le N 8) = B8 at *
          generalize str (le s.size 2 ++ sb s) = D at *
          refine wp_region_noPanic ?_
          refine wp_region_held_drew (S := (fun w' => (convert 22 9 (.slice (some ⟨g, 0, none⟩) n (n + 20))).run Try.prog w' = .ok (.string A) w' ∧ (convert 22 9 (.slice (some ⟨b2, o2, none⟩) n2 c2)).run Try.prog w' = .ok (.string (A ++ B4)) w' ∧ (convert 22 9 (.slice (some ⟨b3, o3, none⟩) n3 c3)).run Try.prog w' = .ok (.string (A ++ B8)) w')) (by kernel_rfl) ⟨p1d, p2d, p3d⟩ (fun hHeld0 => ?_)
          refine wpAnyH_take (i := 0) (oi := { dst := some 122, op := Op.move (Operand.tmp 8), type := 22, pos := _, after := #[], guard := none }) (v := ?_) rfl (by kernel_rfl) (by kernel_rfl) (by kernel_rfl) (fun _ _ _ h => h) (Or.inl ⟨by rfl, ?_⟩) (by assumption) ?_
          rotate_left 1
          · intro w hSw
            try dsimp only at hSw
            go_simp
            first | done | with_reducible rfl
          try simp only [Act.put, List.setIfInBounds_toArray, List.set_cons_zero, List.set_cons_succ]
          refine wpAnyH_take (i := 2) (oi := { dst := some 124, op := Op.move (Operand.tmp 7), type := 9, pos := _, after := #[], guard := none }) (v := ?_) rfl (by kernel_rfl) (by kernel_rfl) (by kernel_rfl) (fun _ _ _ h => h) (Or.inl ⟨by rfl, ?_⟩) (by assumption) ?_
          rotate_left 1
          · intro w hSw
            try dsimp only at hSw
            go_simp
            first | done | with_reducible rfl
          try simp only [Act.put, List.setIfInBounds_toArray, List.set_cons_zero, List.set_cons_succ]
          refine wpAnyH_take (i := 1) (oi := { dst := some 123, op := Op.convert 22 9 (Operand.tmp 122), type := 9, pos := _, after := #[{ on := 0, ground := Ground.data }], guard := none }) (v := ?_) rfl (by kernel_rfl) (by kernel_rfl) (by kernel_rfl) (fun _ _ _ h => h) (Or.inl ⟨by rfl, ?_⟩) (by assumption) ?_
          rotate_left 1
          · intro w hSw
            try dsimp only at hSw
            go_simp
            first | done | with_reducible rfl
          try simp only [Act.put, List.setIfInBounds_toArray, List.set_cons_zero, List.set_cons_succ]
          refine wpAnyH_take (i := 3) (oi := { dst := some 125, op := Op.binOp BinOp.neq 9 (Operand.tmp 123) (Operand.tmp 124) 9, type := 4, pos := _, after := #[{ on := 1, ground := Ground.data }, { on := 2, ground := Ground.data }], guard := none }) (v := ?_) rfl (by kernel_rfl) (by kernel_rfl) (by kernel_rfl) (fun _ _ _ h => h) (Or.inl ⟨by rfl, ?_⟩) (by assumption) ?_
          rotate_left 1
          · intro w hSw
            try dsimp only at hSw
            go_simp
            first | done | with_reducible rfl
          try simp only [Act.put, List.setIfInBounds_toArray, List.set_cons_zero, List.set_cons_succ]
          refine wpAnyH_take (i := 4) (oi := { dst := some 126, op := Op.move (Operand.tmp 125), type := 4, pos := _, after := #[{ on := 3, ground := Ground.data }], guard := none }) (v := ?_) rfl (by kernel_rfl) (by kernel_rfl) (by kernel_rfl) (fun _ _ _ h => h) (Or.inl ⟨by rfl, ?_⟩) (by assumption) ?_
          rotate_left 1
          · intro w hSw
            try dsimp only at hSw
            go_simp
            first | done | with_reducible rfl
          try simp only [Act.put, List.setIfInBounds_toArray, List.set_cons_zero, List.set_cons_succ]
          refine wpAnyH_take (i := 5) (oi := { dst := some 127, op := Op.move (Operand.tmp 9), type := 22, pos := _, after := #[{ on := 4, ground := Ground.guard }], guard := some (4, false) }) (v := ?_) rfl (by kernel_rfl) (by kernel_rfl) (by kernel_rfl) (fun _ _ _ h => h) (Or.inl ⟨by rfl, ?_⟩) (by assumption) ?_
          rotate_left 1
          · intro w hSw
            try dsimp only at hSw
            go_simp
            first | done | with_reducible rfl
          try simp only [Act.put, List.setIfInBounds_toArray, List.set_cons_zero, List.set_cons_succ]
          refine wpAnyH_take (i := 6) (oi := { dst := some 128, op := Op.convert 22 9 (Operand.tmp 127), type := 9, pos := _, after := #[{ on := 5, ground := Ground.data }, { on := 4, ground := Ground.guard }], guard := some (4, false) }) (v := ?_) rfl (by kernel_rfl) (by kernel_rfl) (by kernel_rfl) (fun _ _ _ h => h) (Or.inl ⟨by rfl, ?_⟩) (by assumption) ?_
          rotate_left 1
          · intro w hSw
            try dsimp only at hSw
            go_simp
            first | done | with_reducible rfl
          try simp only [Act.put, List.setIfInBounds_toArray, List.set_cons_zero, List.set_cons_succ]
          refine wpAnyH_take (i := 7) (oi := { dst := some 129, op := Op.move (Operand.tmp 7), type := 9, pos := _, after := #[{ on := 4, ground := Ground.guard }], guard := some (4, false) }) (v := ?_) rfl (by kernel_rfl) (by kernel_rfl) (by kernel_rfl) (fun _ _ _ h => h) (Or.inl ⟨by rfl, ?_⟩) (by assumption) ?_
          rotate_left 1
          · intro w hSw
            try dsimp only at hSw
            go_simp
            first | done | with_reducible rfl
          try simp only [Act.put, List.setIfInBounds_toArray, List.set_cons_zero, List.set_cons_succ]
          refine wpAnyH_take (i := 8) (oi := { dst := some 130, op := Op.move (Operand.tmp 4), type := 23, pos := _, after := #[{ on := 4, ground := Ground.guard }], guard := some (4, false) }) (v := ?_) rfl (by kernel_rfl) (by kernel_rfl) (by kernel_rfl) (fun _ _ _ h => h) (Or.inl ⟨by rfl, ?_⟩) (by assumption) ?_
          rotate_left 1
          · intro w hSw
            try dsimp only at hSw
            go_simp
            first | done | with_reducible rfl
          try simp only [Act.put, List.setIfInBounds_toArray, List.set_cons_zero, List.set_cons_succ]
          refine wpAnyH_ready (rs := [9]) (by kernel_rfl) (by simp) ?_
          refine AllReadyH.cons (o := { dst := some 131, op := Op.call { callee := Callee.value (Operand.func 12), args := #[Operand.tmp 130, Operand.const (Value.int IntKind.i64 4)], argTypes := #[23, 3] }, type := 22, pos := _, after := #[{ on := 8, ground := Ground.data }, { on := 4, ground := Ground.chain }, { on := 4, ground := Ground.guard }], guard := some (4, false) }) rfl (fun K hK => ?_) AllReadyH.nil
          go_simp
          refine (refnum_any N 4 _ hN (by omega)).mono ?_
          rintro e w8 ⟨a8, n8, c8, rfl, hown8, hb8⟩
          obtain ⟨hn8, hr8, _⟩ := owned_row hown8
          obtain ⟨b8, o8, e8, _, _⟩ := hr8.some (by rw [le_length]; omega)
          subst e8
          have r8 := Hc4.out w8 _ n8 c8 hn8 hr8
          have hr18 := hr17.drew.below hb8
          have hr28 := hr27.drew.below hb8
          have hr38 := hr37.drew.below hb8
          have q1 := HcA.out w8 _ n (n + 20) hn hr18
          have q2 := HcA4.out w8 _ n2 c2 hn2 hr28
          have q3 := HcA8.out w8 _ n3 c3 hn3 hr38
          clear hown8 hHeld0
          go_wp2_with fail
          refine hK.out _ _ ⟨q1, q2, q3⟩ (fun hHeld9 => ?_)
          clear hK K
          try simp only [Act.put, List.setIfInBounds_toArray, List.set_cons_zero, List.set_cons_succ]
          refine wpAnyH_ready (rs := [10]) (by kernel_rfl) (by simp) ?_
          refine AllReadyH.cons (o := { dst := some 132, op := Op.convert 22 9 (Operand.tmp 131), type := 9, pos := _, after := #[{ on := 9, ground := Ground.data }, { on := 4, ground := Ground.guard }], guard := some (4, false) }) rfl (fun K hK => ?_) AllReadyH.nil
          go_simp
          refine hK.out _ _ ⟨q1, q2, q3⟩ (fun hHeld10 => ?_)
          clear hK K
          try simp only [Act.put, List.setIfInBounds_toArray, List.set_cons_zero, List.set_cons_succ]
          clear hHeld9 p1 p2 p3 p1d p2d p3d r8
          refine wpAnyH_take (i := 11) (oi := { dst := some 133, op := Op.binOp BinOp.add 9 (Operand.tmp 129) (Operand.tmp 132) 9, type := 9, pos := _, after := #[{ on := 7, ground := Ground.data }, { on := 10, ground := Ground.data }, { on := 4, ground := Ground.guard }], guard := some (4, false) }) (v := ?_) rfl (by kernel_rfl) (by kernel_rfl) (by kernel_rfl) (fun _ _ _ h => h) (Or.inl ⟨by rfl, ?_⟩) (by assumption) ?_
          rotate_left 1
          · intro w hSw
            try dsimp only at hSw
            go_simp
            first | done | with_reducible rfl
          try simp only [Act.put, List.setIfInBounds_toArray, List.set_cons_zero, List.set_cons_succ]
          refine wpAnyH_take (i := 12) (oi := { dst := some 134, op := Op.binOp BinOp.neq 9 (Operand.tmp 128) (Operand.tmp 133) 9, type := 4, pos := _, after := #[{ on := 6, ground := Ground.data }, { on := 11, ground := Ground.data }, { on := 4, ground := Ground.guard }], guard := some (4, false) }) (v := ?_) rfl (by kernel_rfl) (by kernel_rfl) (by kernel_rfl) (fun _ _ _ h => h) (Or.inl ⟨by rfl, ?_⟩) (by assumption) ?_
          rotate_left 1
          · intro w hSw
            try dsimp only at hSw
            go_simp
            first | done | with_reducible rfl
          try simp only [Act.put, List.setIfInBounds_toArray, List.set_cons_zero, List.set_cons_succ]
          refine wpAnyH_take (i := 13) (oi := { dst := some 135, op := Op.pick (Operand.tmp 126) (Operand.const (Value.bool true)) (Operand.tmp 134), type := 4, pos := _, after := #[{ on := 4, ground := Ground.data }, { on := 12, ground := Ground.data }], guard := none }) (v := ?_) rfl (by kernel_rfl) (by kernel_rfl) (by kernel_rfl) (fun _ _ _ h => h) (Or.inl ⟨by rfl, ?_⟩) (by assumption) ?_
          rotate_left 1
          · intro w hSw
            try dsimp only at hSw
            go_simp
            first | done | with_reducible rfl
          try simp only [Act.put, List.setIfInBounds_toArray, List.set_cons_zero, List.set_cons_succ]
          refine wpAnyH_take (i := 14) (oi := { dst := some 136, op := Op.move (Operand.tmp 135), type := 4, pos := _, after := #[{ on := 13, ground := Ground.data }, { on := 9, ground := Ground.chain }], guard := none }) (v := ?_) rfl (by kernel_rfl) (by kernel_rfl) (by kernel_rfl) (fun _ _ _ h => h) (Or.inl ⟨by rfl, ?_⟩) (by assumption) ?_
          rotate_left 1
          · intro w hSw
            try dsimp only at hSw
            go_simp
            first | done | with_reducible rfl
          try simp only [Act.put, List.setIfInBounds_toArray, List.set_cons_zero, List.set_cons_succ]
          refine wpAnyH_take (i := 15) (oi := { dst := some 137, op := Op.move (Operand.tmp 10), type := 22, pos := _, after := #[{ on := 14, ground := Ground.guard }], guard := some (14, false) }) (v := ?_) rfl (by kernel_rfl) (by kernel_rfl) (by kernel_rfl) (fun _ _ _ h => h) (Or.inl ⟨by rfl, ?_⟩) (by assumption) ?_
          rotate_left 1
          · intro w hSw
            try dsimp only at hSw
            go_simp
            first | done | with_reducible rfl
          try simp only [Act.put, List.setIfInBounds_toArray, List.set_cons_zero, List.set_cons_succ]
          refine wpAnyH_take (i := 16) (oi := { dst := some 138, op := Op.convert 22 9 (Operand.tmp 137), type := 9, pos := _, after := #[{ on := 15, ground := Ground.data }, { on := 14, ground := Ground.guard }], guard := some (14, false) }) (v := ?_) rfl (by kernel_rfl) (by kernel_rfl) (by kernel_rfl) (fun _ _ _ h => h) (Or.inl ⟨by rfl, ?_⟩) (by assumption) ?_
          rotate_left 1
          · intro w hSw
            try dsimp only at hSw
            go_simp
            first | done | with_reducible rfl
          try simp only [Act.put, List.setIfInBounds_toArray, List.set_cons_zero, List.set_cons_succ]
          refine wpAnyH_take (i := 17) (oi := { dst := some 139, op := Op.move (Operand.tmp 7), type := 9, pos := _, after := #[{ on := 14, ground := Ground.guard }], guard := some (14, false) }) (v := ?_) rfl (by kernel_rfl) (by kernel_rfl) (by kernel_rfl) (fun _ _ _ h => h) (Or.inl ⟨by rfl, ?_⟩) (by assumption) ?_
          rotate_left 1
          · intro w hSw
            try dsimp only at hSw
            go_simp
            first | done | with_reducible rfl
          try simp only [Act.put, List.setIfInBounds_toArray, List.set_cons_zero, List.set_cons_succ]
          refine wpAnyH_take (i := 18) (oi := { dst := some 140, op := Op.move (Operand.tmp 4), type := 23, pos := _, after := #[{ on := 14, ground := Ground.guard }], guard := some (14, false) }) (v := ?_) rfl (by kernel_rfl) (by kernel_rfl) (by kernel_rfl) (fun _ _ _ h => h) (Or.inl ⟨by rfl, ?_⟩) (by assumption) ?_
          rotate_left 1
          · intro w hSw
            try dsimp only at hSw
            go_simp
            first | done | with_reducible rfl
          try simp only [Act.put, List.setIfInBounds_toArray, List.set_cons_zero, List.set_cons_succ]
          refine wpAnyH_ready (rs := [19]) (by kernel_rfl) (by simp) ?_
          refine AllReadyH.cons (o := { dst := some 141, op := Op.call { callee := Callee.value (Operand.func 12), args := #[Operand.tmp 140, Operand.const (Value.int IntKind.i64 8)], argTypes := #[23, 3] }, type := 22, pos := _, after := #[{ on := 18, ground := Ground.data }, { on := 14, ground := Ground.chain }, { on := 14, ground := Ground.guard }], guard := some (14, false) }) rfl (fun K hK => ?_) AllReadyH.nil
          go_simp
          refine (refnum_any N 8 _ hN (by omega)).mono ?_
          rintro e w9 ⟨a9, n9, c9, rfl, hown9, hb9⟩
          obtain ⟨hn9, hr9, _⟩ := owned_row hown9
          obtain ⟨b9, o9, e9, _, _⟩ := hr9.some (by rw [le_length]; omega)
          subst e9
          have r9 := Hc8.out w9 _ n9 c9 hn9 hr9
          have hr19 := hr18.below hb9
          have hr29 := hr28.below hb9
          have hr39 := hr38.below hb9
          have t1 := HcA.out w9 _ n (n + 20) hn hr19
          have t2 := HcA4.out w9 _ n2 c2 hn2 hr29
          have t3 := HcA8.out w9 _ n3 c3 hn3 hr39
          clear hown9 q1 q2 q3 hHeld10
          go_wp2_with fail
          refine hK.out _ _ ⟨t1, t2, t3⟩ (fun hHeld19 => ?_)
          clear hK K
          try simp only [Act.put, List.setIfInBounds_toArray, List.set_cons_zero, List.set_cons_succ]
          refine wpAnyH_ready (rs := [20]) (by kernel_rfl) (by simp) ?_
          refine AllReadyH.cons (o := { dst := some 142, op := Op.convert 22 9 (Operand.tmp 141), type := 9, pos := _, after := #[{ on := 19, ground := Ground.data }, { on := 14, ground := Ground.guard }], guard := some (14, false) }) rfl (fun K hK => ?_) AllReadyH.nil
          go_simp
          refine hK.out _ _ ⟨t1, t2, t3⟩ (fun hHeld20 => ?_)
          clear hK K
          try simp only [Act.put, List.setIfInBounds_toArray, List.set_cons_zero, List.set_cons_succ]
          refine wpAnyH_take (i := 21) (oi := { dst := some 143, op := Op.binOp BinOp.add 9 (Operand.tmp 139) (Operand.tmp 142) 9, type := 9, pos := _, after := #[{ on := 17, ground := Ground.data }, { on := 20, ground := Ground.data }, { on := 14, ground := Ground.guard }], guard := some (14, false) }) (v := ?_) rfl (by kernel_rfl) (by kernel_rfl) (by kernel_rfl) (fun _ _ _ h => h) (Or.inl ⟨by rfl, ?_⟩) (by assumption) ?_
          rotate_left 1
          · intro w hSw
            try dsimp only at hSw
            go_simp
            first | done | with_reducible rfl
          try simp only [Act.put, List.setIfInBounds_toArray, List.set_cons_zero, List.set_cons_succ]
          refine wpAnyH_take (i := 22) (oi := { dst := some 144, op := Op.binOp BinOp.neq 9 (Operand.tmp 138) (Operand.tmp 143) 9, type := 4, pos := _, after := #[{ on := 16, ground := Ground.data }, { on := 21, ground := Ground.data }, { on := 14, ground := Ground.guard }], guard := some (14, false) }) (v := ?_) rfl (by kernel_rfl) (by kernel_rfl) (by kernel_rfl) (fun _ _ _ h => h) (Or.inl ⟨by rfl, ?_⟩) (by assumption) ?_
          rotate_left 1
          · intro w hSw
            try dsimp only at hSw
            go_simp
            first | done | with_reducible rfl
          try simp only [Act.put, List.setIfInBounds_toArray, List.set_cons_zero, List.set_cons_succ]
          refine wpAnyH_take (i := 23) (oi := { dst := some 145, op := Op.pick (Operand.tmp 136) (Operand.const (Value.bool true)) (Operand.tmp 144), type := 4, pos := _, after := #[{ on := 14, ground := Ground.data }, { on := 22, ground := Ground.data }], guard := none }) (v := ?_) rfl (by kernel_rfl) (by kernel_rfl) (by kernel_rfl) (fun _ _ _ h => h) (Or.inl ⟨by rfl, ?_⟩) (by assumption) ?_
          rotate_left 1
          · intro w hSw
            try dsimp only at hSw
            go_simp
            first | done | with_reducible rfl
          try simp only [Act.put, List.setIfInBounds_toArray, List.set_cons_zero, List.set_cons_succ]
          refine wpAnyH_done (by kernel_rfl) ?_ _
          refine NoPanic.normal ?_
          have hb9w := hb7w.trans ((below_drew hb8 hb9).mono hb7w.size)
          have hr49 := (hr47.drew.below hb8).below hb9
          have hr59 := (hr57.drew.below hb8).below hb9
          have v4 := Hcz.out w9 _ n4 c4 hn4 hr49
          have v5 := Hcw.out w9 _ n5 c5 hn5 hr59
          clear hHeld19 hHeld20 t1 t2 t3 r9 hb8 hb9 hr17 hr27 hr37 hr47 hr57 hr18 hr28 hr38 hr19 hr29 hr39
          go_wp2_with fail
          refine (awake_any w9).mono ?_
          rintro e w10 ⟨rfl, hb10⟩
          have hb10w := hb9w.trans (hb10.mono hb9w.size)
          go_wp2_with fail
          go_ret
          exact ⟨rfl, hb10w⟩
  · refine (text_long _ s w3 (by omega)).mono ?_
    rintro e w4 ⟨rfl, rfl⟩
    go_wp2_with fail
    refine (reft_long s w3 (by omega)).mono ?_
    rintro e w5 ⟨rfl, rfl⟩
    have hb5w := hb3w
    have hr14 := hr13
    have hr24 := hr23
    have hr34 := hr3
    have hsp5 := hsp3
    have hg5 := hg3
    clear hr13 hr23 hr3 hsp3 hg3 hb3w
    go_wp2_with fail
    obtain ⟨L, hLe, hL1, hL2⟩ : ∃ L : Nat, 65435 + (f : Int) % 200 = (L : Int) ∧ 65435 ≤ L ∧ L < 65635 := ⟨65435 + f % 200, by omega, by omega, by omega⟩
    obtain ⟨i0, hi, hz0, hz1, hz2⟩ := info_parts info5
    have hmk := run_make (P := Try.prog) w3 22 5 i0 (.int .u8 0) Try.underlying22 hi hz0 .i64 .i64 (L : Int) (L : Int) (by omega) (by omega) (by rw [hz2]; omega) (by omega)
    rw [Int.toNat_natCast, hz1, Nat.mul_one, show (Value.int .u8 0).cells = #[.int .u8 0] from rfl] at hmk
    have hrf : Row (w3.alloc (.cells (madeCells #[.int .u8 0] L) 5)) (some ⟨w3.heap.size, 0, none⟩) (List.replicate L 0) := row_mark _ _ _ _ _ fun i hi => by
      rw [List.length_replicate] at hi
      rw [made_zero _ _ hi]
      simp [hi]
    have hcv := conv_row (n := L) (by simp) hrf (fun x hx => by rw [List.eq_of_mem_replicate hx]; omega) L
    have hfs : (str (List.replicate L 0)).size = L := by rw [str_size, List.length_replicate]
    have hHS := Lib.hid hfs
    have HL := Lib.hid hLe
    have hb6 := hb5w.alloc hb5w.size (.cells (madeCells #[.int .u8 0] L) 5)
    have hr16 := hr14.alloc (.cells (madeCells #[.int .u8 0] L) 5)
    have hr26 := hr24.alloc (.cells (madeCells #[.int .u8 0] L) 5)
    have hr36 := hr34.alloc (.cells (madeCells #[.int .u8 0] L) 5)
    clear hrf hi hz0 hz1 hz2 hfs hr14 hr24 hr34 hLe
    generalize str (List.replicate L 0) = S at *
    go_loopw [16] (fun i wr => ∃ j : Nat, j ≤ 20 ∧ i = .int .i64 ((n + j : Nat) : Int) ∧ wr = w3) (fun i _ => n + 20 - (intOf i).toNat)
    case atStart => exact ⟨0, by omega, rfl, rfl⟩
    case round =>
      obtain ⟨j, hj, rfl, rfl⟩ := hrel
      by_cases hlt : j < 20
      · have hc := hsp5 j hlt
        clear hmk hcv
        go_wp2_with fail
        go_roundw
        case rel => exact ⟨j + 1, by omega, by go_num, trivial⟩
        case measure => simp [intOf]; omega
      · obtain rfl : j = 20 := by omega
        have hLL := HL.out
        go_wp2_with fail
        have hSL := hHS.out
        clear hmk hcv hLL hHS HL hsp5 hg5 hb5w
        generalize (wr.alloc (Obj.cells (madeCells #[Value.int IntKind.u8 0] L) 5)) = w6 at *
        by_cases hL : S.size ≤ 65535
        · refine (text_any none 0 0 [] S w6 rfl (.inl rfl) (by omega) hL).mono ?_
          rintro e w7 ⟨a7, n7, c7, rfl, hown7, hb7⟩
          obtain ⟨hn7, _, _⟩ := owned_row hown7
          clear hown7
          have hb7w := hb6.trans (hb7.mono hb6.size)
          have hn72 : n7 = S.size + 2 := by have := hn7.out; rw [List.nil_append, List.length_append, le_length, sb_length] at this; omega
          subst hn72
          have hr17 := hr16.below hb7
          have hr27 := hr26.below hb7
          have hr37 := hr36.below hb7
          clear hr16 hr26 hr36 hb6 hb7 hn7
          go_wp2_with fail
          have hr27 : Row w7 a2 (l ++ le N 4) := by rw [← le_mod4]; exact hr27
          have hn2 : Hid (n2 = (l ++ le N 4).length) := by rw [← le_mod4]; exact hn2
          obtain ⟨b2, o2, e2, _, _⟩ := hr27.some (by rw [List.length_append, le_length]; omega)
          subst e2
          obtain ⟨b3, o3, e3, _, _⟩ := hr37.some (by rw [List.length_append, le_length]; omega)
          subst e3
          have hl4 := app_lt hl (le_lt N 4)
          have hl8 := app_lt hl (le_lt N 8)
          have s4 := str_append l (le N 4)
          have s8 := str_append l (le N 8)
          have p1 := conv_row hn.out hr17 hl (n + 20)
          have p2 := conv_row hn2.out hr27 hl4 c2
          have p3 := conv_row hn3.out hr37 hl8 c3
          have p1d := conv_row hn.out hr17.drew hl (n + 20)
          have p2d := conv_row hn2.out hr27.drew hl4 c2
          have p3d := conv_row hn3.out hr37.drew hl8 c3
          rw [s4] at p2 p2d
          rw [s8] at p3 p3d
          have z4 : ¬ (9223372036854775807 < (str l).size + (str (le N 4)).size) := by rw [str_size, str_size, le_length]; have := hn.out; omega
          have z8 : ¬ (9223372036854775807 < (str l).size + (str (le N 8)).size) := by rw [str_size, str_size, le_length]; have := hn.out; omega
          have cA : ∀ (w : World) (a : Option Addr) (n c : Nat), Hid (n = l.length) → Row w a l → (convert 22 9 (.slice a n c)).run Try.prog w = .ok (.string (str l)) w := fun w a n c h1 h2 => conv_row h1.out h2 hl c
          have c4 : ∀ (w : World) (a : Option Addr) (n c : Nat), Hid (n = (le N 4).length) → Row w a (le N 4) → (convert 22 9 (.slice a n c)).run Try.prog w = .ok (.string (str (le N 4))) w := fun w a n c h1 h2 => conv_row h1.out h2 (le_lt _ _) c
          have c8 : ∀ (w : World) (a : Option Addr) (n c : Nat), Hid (n = (le N 8).length) → Row w a (le N 8) → (convert 22 9 (.slice a n c)).run Try.prog w = .ok (.string (str (le N 8))) w := fun w a n c h1 h2 => conv_row h1.out h2 (le_lt _ _) c
          have cA4 : ∀ (w : World) (a : Option Addr) (n c : Nat), Hid (n = (l ++ le N 4).length) → Row w a (l ++ le N 4) → (convert 22 9 (.slice a n c)).run Try.prog w = .ok (.string (str l ++ str (le N 4))) w := fun w a n c h1 h2 => by rw [← s4]; exact conv_row h1.out h2 hl4 c
          have cA8 : ∀ (w : World) (a : Option Addr) (n c : Nat), Hid (n = (l ++ le N 8).length) → Row w a (l ++ le N 8) → (convert 22 9 (.slice a n c)).run Try.prog w = .ok (.string (str l ++ str (le N 8))) w := fun w a n c h1 h2 => by rw [← s8]; exact conv_row h1.out h2 hl8 c
          clear s4 s8 hl4 hl8
          have HcA := Lib.hid cA
          have Hc4 := Lib.hid c4
          have Hc8 := Lib.hid c8
          have HcA4 := Lib.hid cA4
          have HcA8 := Lib.hid cA8
          clear cA c4 c8 cA4 cA8
          generalize str l = A at *
          generalize str (le N 4) = B4 at *
          generalize str (le N 8) = B8 at *
          refine wp_region_noPanic ?_
          refine wp_region_held_drew (S := (fun w' => (convert 22 9 (.slice (some ⟨g, 0, none⟩) n (n + 20))).run Try.prog w' = .ok (.string A) w' ∧ (convert 22 9 (.slice (some ⟨b2, o2, none⟩) n2 c2)).run Try.prog w' = .ok (.string (A ++ B4)) w' ∧ (convert 22 9 (.slice (some ⟨b3, o3, none⟩) n3 c3)).run Try.prog w' = .ok (.string (A ++ B8)) w')) (by kernel_rfl) ⟨p1d, p2d, p3d⟩ (fun hHeld0 => ?_)
          refine wpAnyH_take (i := 0) (oi := { dst := some 122, op := Op.move (Operand.tmp 8), type := 22, pos := _, after := #[], guard := none }) (v := ?_) rfl (by kernel_rfl) (by kernel_rfl) (by kernel_rfl) (fun _ _ _ h => h) (Or.inl ⟨by rfl, ?_⟩) (by assumption) ?_
          rotate_left 1
          · intro w hSw
            try dsimp only at hSw
            go_simp
            first | done | with_reducible rfl
          try simp only [Act.put, List.setIfInBounds_toArray, List.set_cons_zero, List.set_cons_succ]
          refine wpAnyH_take (i := 2) (oi := { dst := some 124, op := Op.move (Operand.tmp 7), type := 9, pos := _, after := #[], guard := none }) (v := ?_) rfl (by kernel_rfl) (by kernel_rfl) (by kernel_rfl) (fun _ _ _ h => h) (Or.inl ⟨by rfl, ?_⟩) (by assumption) ?_
          rotate_left 1
          · intro w hSw
            try dsimp only at hSw
            go_simp
            first | done | with_reducible rfl
          try simp only [Act.put, List.setIfInBounds_toArray, List.set_cons_zero, List.set_cons_succ]
          refine wpAnyH_take (i := 1) (oi := { dst := some 123, op := Op.convert 22 9 (Operand.tmp 122), type := 9, pos := _, after := #[{ on := 0, ground := Ground.data }], guard := none }) (v := ?_) rfl (by kernel_rfl) (by kernel_rfl) (by kernel_rfl) (fun _ _ _ h => h) (Or.inl ⟨by rfl, ?_⟩) (by assumption) ?_
          rotate_left 1
          · intro w hSw
            try dsimp only at hSw
            go_simp
            first | done | with_reducible rfl
          try simp only [Act.put, List.setIfInBounds_toArray, List.set_cons_zero, List.set_cons_succ]
          refine wpAnyH_take (i := 3) (oi := { dst := some 125, op := Op.binOp BinOp.neq 9 (Operand.tmp 123) (Operand.tmp 124) 9, type := 4, pos := _, after := #[{ on := 1, ground := Ground.data }, { on := 2, ground := Ground.data }], guard := none }) (v := ?_) rfl (by kernel_rfl) (by kernel_rfl) (by kernel_rfl) (fun _ _ _ h => h) (Or.inl ⟨by rfl, ?_⟩) (by assumption) ?_
          rotate_left 1
          · intro w hSw
            try dsimp only at hSw
            go_simp
            first | done | with_reducible rfl
          try simp only [Act.put, List.setIfInBounds_toArray, List.set_cons_zero, List.set_cons_succ]
          refine wpAnyH_take (i := 4) (oi := { dst := some 126, op := Op.move (Operand.tmp 125), type := 4, pos := _, after := #[{ on := 3, ground := Ground.data }], guard := none }) (v := ?_) rfl (by kernel_rfl) (by kernel_rfl) (by kernel_rfl) (fun _ _ _ h => h) (Or.inl ⟨by rfl, ?_⟩) (by assumption) ?_
          rotate_left 1
          · intro w hSw
            try dsimp only at hSw
            go_simp
            first | done | with_reducible rfl
          try simp only [Act.put, List.setIfInBounds_toArray, List.set_cons_zero, List.set_cons_succ]
          refine wpAnyH_take (i := 5) (oi := { dst := some 127, op := Op.move (Operand.tmp 9), type := 22, pos := _, after := #[{ on := 4, ground := Ground.guard }], guard := some (4, false) }) (v := ?_) rfl (by kernel_rfl) (by kernel_rfl) (by kernel_rfl) (fun _ _ _ h => h) (Or.inl ⟨by rfl, ?_⟩) (by assumption) ?_
          rotate_left 1
          · intro w hSw
            try dsimp only at hSw
            go_simp
            first | done | with_reducible rfl
          try simp only [Act.put, List.setIfInBounds_toArray, List.set_cons_zero, List.set_cons_succ]
          refine wpAnyH_take (i := 6) (oi := { dst := some 128, op := Op.convert 22 9 (Operand.tmp 127), type := 9, pos := _, after := #[{ on := 5, ground := Ground.data }, { on := 4, ground := Ground.guard }], guard := some (4, false) }) (v := ?_) rfl (by kernel_rfl) (by kernel_rfl) (by kernel_rfl) (fun _ _ _ h => h) (Or.inl ⟨by rfl, ?_⟩) (by assumption) ?_
          rotate_left 1
          · intro w hSw
            try dsimp only at hSw
            go_simp
            first | done | with_reducible rfl
          try simp only [Act.put, List.setIfInBounds_toArray, List.set_cons_zero, List.set_cons_succ]
          refine wpAnyH_take (i := 7) (oi := { dst := some 129, op := Op.move (Operand.tmp 7), type := 9, pos := _, after := #[{ on := 4, ground := Ground.guard }], guard := some (4, false) }) (v := ?_) rfl (by kernel_rfl) (by kernel_rfl) (by kernel_rfl) (fun _ _ _ h => h) (Or.inl ⟨by rfl, ?_⟩) (by assumption) ?_
          rotate_left 1
          · intro w hSw
            try dsimp only at hSw
            go_simp
            first | done | with_reducible rfl
          try simp only [Act.put, List.setIfInBounds_toArray, List.set_cons_zero, List.set_cons_succ]
          refine wpAnyH_take (i := 8) (oi := { dst := some 130, op := Op.move (Operand.tmp 4), type := 23, pos := _, after := #[{ on := 4, ground := Ground.guard }], guard := some (4, false) }) (v := ?_) rfl (by kernel_rfl) (by kernel_rfl) (by kernel_rfl) (fun _ _ _ h => h) (Or.inl ⟨by rfl, ?_⟩) (by assumption) ?_
          rotate_left 1
          · intro w hSw
            try dsimp only at hSw
            go_simp
            first | done | with_reducible rfl
          try simp only [Act.put, List.setIfInBounds_toArray, List.set_cons_zero, List.set_cons_succ]
          refine wpAnyH_ready (rs := [9]) (by kernel_rfl) (by simp) ?_
          refine AllReadyH.cons (o := { dst := some 131, op := Op.call { callee := Callee.value (Operand.func 12), args := #[Operand.tmp 130, Operand.const (Value.int IntKind.i64 4)], argTypes := #[23, 3] }, type := 22, pos := _, after := #[{ on := 8, ground := Ground.data }, { on := 4, ground := Ground.chain }, { on := 4, ground := Ground.guard }], guard := some (4, false) }) rfl (fun K hK => ?_) AllReadyH.nil
          go_simp
          refine (refnum_any N 4 _ hN (by omega)).mono ?_
          rintro e w8 ⟨a8, n8, c8, rfl, hown8, hb8⟩
          obtain ⟨hn8, hr8, _⟩ := owned_row hown8
          obtain ⟨b8, o8, e8, _, _⟩ := hr8.some (by rw [le_length]; omega)
          subst e8
          have r8 := Hc4.out w8 _ n8 c8 hn8 hr8
          have hr18 := hr17.drew.below hb8
          have hr28 := hr27.drew.below hb8
          have hr38 := hr37.drew.below hb8
          have q1 := HcA.out w8 _ n (n + 20) hn hr18
          have q2 := HcA4.out w8 _ n2 c2 hn2 hr28
          have q3 := HcA8.out w8 _ n3 c3 hn3 hr38
          clear hown8 hHeld0
          go_wp2_with fail
          refine hK.out _ _ ⟨q1, q2, q3⟩ (fun hHeld9 => ?_)
          clear hK K
          try simp only [Act.put, List.setIfInBounds_toArray, List.set_cons_zero, List.set_cons_succ]
          refine wpAnyH_ready (rs := [10]) (by kernel_rfl) (by simp) ?_
          refine AllReadyH.cons (o := { dst := some 132, op := Op.convert 22 9 (Operand.tmp 131), type := 9, pos := _, after := #[{ on := 9, ground := Ground.data }, { on := 4, ground := Ground.guard }], guard := some (4, false) }) rfl (fun K hK => ?_) AllReadyH.nil
          go_simp
          refine hK.out _ _ ⟨q1, q2, q3⟩ (fun hHeld10 => ?_)
          clear hK K
          try simp only [Act.put, List.setIfInBounds_toArray, List.set_cons_zero, List.set_cons_succ]
          clear hHeld9 p1 p2 p3 p1d p2d p3d r8
          refine wpAnyH_take (i := 11) (oi := { dst := some 133, op := Op.binOp BinOp.add 9 (Operand.tmp 129) (Operand.tmp 132) 9, type := 9, pos := _, after := #[{ on := 7, ground := Ground.data }, { on := 10, ground := Ground.data }, { on := 4, ground := Ground.guard }], guard := some (4, false) }) (v := ?_) rfl (by kernel_rfl) (by kernel_rfl) (by kernel_rfl) (fun _ _ _ h => h) (Or.inl ⟨by rfl, ?_⟩) (by assumption) ?_
          rotate_left 1
          · intro w hSw
            try dsimp only at hSw
            go_simp
            first | done | with_reducible rfl
          try simp only [Act.put, List.setIfInBounds_toArray, List.set_cons_zero, List.set_cons_succ]
          refine wpAnyH_take (i := 12) (oi := { dst := some 134, op := Op.binOp BinOp.neq 9 (Operand.tmp 128) (Operand.tmp 133) 9, type := 4, pos := _, after := #[{ on := 6, ground := Ground.data }, { on := 11, ground := Ground.data }, { on := 4, ground := Ground.guard }], guard := some (4, false) }) (v := ?_) rfl (by kernel_rfl) (by kernel_rfl) (by kernel_rfl) (fun _ _ _ h => h) (Or.inl ⟨by rfl, ?_⟩) (by assumption) ?_
          rotate_left 1
          · intro w hSw
            try dsimp only at hSw
            go_simp
            first | done | with_reducible rfl
          try simp only [Act.put, List.setIfInBounds_toArray, List.set_cons_zero, List.set_cons_succ]
          refine wpAnyH_take (i := 13) (oi := { dst := some 135, op := Op.pick (Operand.tmp 126) (Operand.const (Value.bool true)) (Operand.tmp 134), type := 4, pos := _, after := #[{ on := 4, ground := Ground.data }, { on := 12, ground := Ground.data }], guard := none }) (v := ?_) rfl (by kernel_rfl) (by kernel_rfl) (by kernel_rfl) (fun _ _ _ h => h) (Or.inl ⟨by rfl, ?_⟩) (by assumption) ?_
          rotate_left 1
          · intro w hSw
            try dsimp only at hSw
            go_simp
            first | done | with_reducible rfl
          try simp only [Act.put, List.setIfInBounds_toArray, List.set_cons_zero, List.set_cons_succ]
          refine wpAnyH_take (i := 14) (oi := { dst := some 136, op := Op.move (Operand.tmp 135), type := 4, pos := _, after := #[{ on := 13, ground := Ground.data }, { on := 9, ground := Ground.chain }], guard := none }) (v := ?_) rfl (by kernel_rfl) (by kernel_rfl) (by kernel_rfl) (fun _ _ _ h => h) (Or.inl ⟨by rfl, ?_⟩) (by assumption) ?_
          rotate_left 1
          · intro w hSw
            try dsimp only at hSw
            go_simp
            first | done | with_reducible rfl
          try simp only [Act.put, List.setIfInBounds_toArray, List.set_cons_zero, List.set_cons_succ]
          refine wpAnyH_take (i := 15) (oi := { dst := some 137, op := Op.move (Operand.tmp 10), type := 22, pos := _, after := #[{ on := 14, ground := Ground.guard }], guard := some (14, false) }) (v := ?_) rfl (by kernel_rfl) (by kernel_rfl) (by kernel_rfl) (fun _ _ _ h => h) (Or.inl ⟨by rfl, ?_⟩) (by assumption) ?_
          rotate_left 1
          · intro w hSw
            try dsimp only at hSw
            go_simp
            first | done | with_reducible rfl
          try simp only [Act.put, List.setIfInBounds_toArray, List.set_cons_zero, List.set_cons_succ]
          refine wpAnyH_take (i := 16) (oi := { dst := some 138, op := Op.convert 22 9 (Operand.tmp 137), type := 9, pos := _, after := #[{ on := 15, ground := Ground.data }, { on := 14, ground := Ground.guard }], guard := some (14, false) }) (v := ?_) rfl (by kernel_rfl) (by kernel_rfl) (by kernel_rfl) (fun _ _ _ h => h) (Or.inl ⟨by rfl, ?_⟩) (by assumption) ?_
          rotate_left 1
          · intro w hSw
            try dsimp only at hSw
            go_simp
            first | done | with_reducible rfl
          try simp only [Act.put, List.setIfInBounds_toArray, List.set_cons_zero, List.set_cons_succ]
          refine wpAnyH_take (i := 17) (oi := { dst := some 139, op := Op.move (Operand.tmp 7), type := 9, pos := _, after := #[{ on := 14, ground := Ground.guard }], guard := some (14, false) }) (v := ?_) rfl (by kernel_rfl) (by kernel_rfl) (by kernel_rfl) (fun _ _ _ h => h) (Or.inl ⟨by rfl, ?_⟩) (by assumption) ?_
          rotate_left 1
          · intro w hSw
            try dsimp only at hSw
            go_simp
            first | done | with_reducible rfl
          try simp only [Act.put, List.setIfInBounds_toArray, List.set_cons_zero, List.set_cons_succ]
          refine wpAnyH_take (i := 18) (oi := { dst := some 140, op := Op.move (Operand.tmp 4), type := 23, pos := _, after := #[{ on := 14, ground := Ground.guard }], guard := some (14, false) }) (v := ?_) rfl (by kernel_rfl) (by kernel_rfl) (by kernel_rfl) (fun _ _ _ h => h) (Or.inl ⟨by rfl, ?_⟩) (by assumption) ?_
          rotate_left 1
          · intro w hSw
            try dsimp only at hSw
            go_simp
            first | done | with_reducible rfl
          try simp only [Act.put, List.setIfInBounds_toArray, List.set_cons_zero, List.set_cons_succ]
          refine wpAnyH_ready (rs := [19]) (by kernel_rfl) (by simp) ?_
          refine AllReadyH.cons (o := { dst := some 141, op := Op.call { callee := Callee.value (Operand.func 12), args := #[Operand.tmp 140, Operand.const (Value.int IntKind.i64 8)], argTypes := #[23, 3] }, type := 22, pos := _, after := #[{ on := 18, ground := Ground.data }, { on := 14, ground := Ground.chain }, { on := 14, ground := Ground.guard }], guard := some (14, false) }) rfl (fun K hK => ?_) AllReadyH.nil
          go_simp
          refine (refnum_any N 8 _ hN (by omega)).mono ?_
          rintro e w9 ⟨a9, n9, c9, rfl, hown9, hb9⟩
          obtain ⟨hn9, hr9, _⟩ := owned_row hown9
          obtain ⟨b9, o9, e9, _, _⟩ := hr9.some (by rw [le_length]; omega)
          subst e9
          have r9 := Hc8.out w9 _ n9 c9 hn9 hr9
          have hr19 := hr18.below hb9
          have hr29 := hr28.below hb9
          have hr39 := hr38.below hb9
          have t1 := HcA.out w9 _ n (n + 20) hn hr19
          have t2 := HcA4.out w9 _ n2 c2 hn2 hr29
          have t3 := HcA8.out w9 _ n3 c3 hn3 hr39
          clear hown9 q1 q2 q3 hHeld10
          go_wp2_with fail
          refine hK.out _ _ ⟨t1, t2, t3⟩ (fun hHeld19 => ?_)
          clear hK K
          try simp only [Act.put, List.setIfInBounds_toArray, List.set_cons_zero, List.set_cons_succ]
          refine wpAnyH_ready (rs := [20]) (by kernel_rfl) (by simp) ?_
          refine AllReadyH.cons (o := { dst := some 142, op := Op.convert 22 9 (Operand.tmp 141), type := 9, pos := _, after := #[{ on := 19, ground := Ground.data }, { on := 14, ground := Ground.guard }], guard := some (14, false) }) rfl (fun K hK => ?_) AllReadyH.nil
          go_simp
          refine hK.out _ _ ⟨t1, t2, t3⟩ (fun hHeld20 => ?_)
          clear hK K
          try simp only [Act.put, List.setIfInBounds_toArray, List.set_cons_zero, List.set_cons_succ]
          refine wpAnyH_take (i := 21) (oi := { dst := some 143, op := Op.binOp BinOp.add 9 (Operand.tmp 139) (Operand.tmp 142) 9, type := 9, pos := _, after := #[{ on := 17, ground := Ground.data }, { on := 20, ground := Ground.data }, { on := 14, ground := Ground.guard }], guard := some (14, false) }) (v := ?_) rfl (by kernel_rfl) (by kernel_rfl) (by kernel_rfl) (fun _ _ _ h => h) (Or.inl ⟨by rfl, ?_⟩) (by assumption) ?_
          rotate_left 1
          · intro w hSw
            try dsimp only at hSw
            go_simp
            first | done | with_reducible rfl
          try simp only [Act.put, List.setIfInBounds_toArray, List.set_cons_zero, List.set_cons_succ]
          refine wpAnyH_take (i := 22) (oi := { dst := some 144, op := Op.binOp BinOp.neq 9 (Operand.tmp 138) (Operand.tmp 143) 9, type := 4, pos := _, after := #[{ on := 16, ground := Ground.data }, { on := 21, ground := Ground.data }, { on := 14, ground := Ground.guard }], guard := some (14, false) }) (v := ?_) rfl (by kernel_rfl) (by kernel_rfl) (by kernel_rfl) (fun _ _ _ h => h) (Or.inl ⟨by rfl, ?_⟩) (by assumption) ?_
          rotate_left 1
          · intro w hSw
            try dsimp only at hSw
            go_simp
            first | done | with_reducible rfl
          try simp only [Act.put, List.setIfInBounds_toArray, List.set_cons_zero, List.set_cons_succ]
          refine wpAnyH_take (i := 23) (oi := { dst := some 145, op := Op.pick (Operand.tmp 136) (Operand.const (Value.bool true)) (Operand.tmp 144), type := 4, pos := _, after := #[{ on := 14, ground := Ground.data }, { on := 22, ground := Ground.data }], guard := none }) (v := ?_) rfl (by kernel_rfl) (by kernel_rfl) (by kernel_rfl) (fun _ _ _ h => h) (Or.inl ⟨by rfl, ?_⟩) (by assumption) ?_
          rotate_left 1
          · intro w hSw
            try dsimp only at hSw
            go_simp
            first | done | with_reducible rfl
          try simp only [Act.put, List.setIfInBounds_toArray, List.set_cons_zero, List.set_cons_succ]
          refine wpAnyH_done (by kernel_rfl) ?_ _
          refine NoPanic.normal ?_
          have hb9w := hb7w.trans ((below_drew hb8 hb9).mono hb7w.size)
          clear hHeld19 hHeld20 t1 t2 t3 r9 hb8 hb9 hr17 hr27 hr37 hr18 hr28 hr38 hr19 hr29 hr39
          go_wp2_with fail
          refine (awake_any w9).mono ?_
          rintro e w10 ⟨rfl, hb10⟩
          have hb10w := hb9w.trans (hb10.mono hb9w.size)
          go_wp2_with fail
          go_ret
          exact ⟨rfl, hb10w⟩
        · refine (text_long _ S w6 (by omega)).mono ?_
          rintro e w7 ⟨rfl, rfl⟩
          have hb7w := hb6
          have hr17 := hr16
          have hr27 := hr26
          have hr37 := hr36
          clear hr16 hr26 hr36 hb6
          go_wp2_with fail
          have hr27 : Row w6 a2 (l ++ le N 4) := by rw [← le_mod4]; exact hr27
          have hn2 : Hid (n2 = (l ++ le N 4).length) := by rw [← le_mod4]; exact hn2
          obtain ⟨b2, o2, e2, _, _⟩ := hr27.some (by rw [List.length_append, le_length]; omega)
          subst e2
          obtain ⟨b3, o3, e3, _, _⟩ := hr37.some (by rw [List.length_append, le_length]; omega)
          subst e3
          have hl4 := app_lt hl (le_lt N 4)
          have hl8 := app_lt hl (le_lt N 8)
          have s4 := str_append l (le N 4)
          have s8 := str_append l (le N 8)
          have p1 := conv_row hn.out hr17 hl (n + 20)
          have p2 := conv_row hn2.out hr27 hl4 c2
          have p3 := conv_row hn3.out hr37 hl8 c3
          have p1d := conv_row hn.out hr17.drew hl (n + 20)
          have p2d := conv_row hn2.out hr27.drew hl4 c2
          have p3d := conv_row hn3.out hr37.drew hl8 c3
          rw [s4] at p2 p2d
          rw [s8] at p3 p3d
          have z4 : ¬ (9223372036854775807 < (str l).size + (str (le N 4)).size) := by rw [str_size, str_size, le_length]; have := hn.out; omega
          have z8 : ¬ (9223372036854775807 < (str l).size + (str (le N 8)).size) := by rw [str_size, str_size, le_length]; have := hn.out; omega
          have cA : ∀ (w : World) (a : Option Addr) (n c : Nat), Hid (n = l.length) → Row w a l → (convert 22 9 (.slice a n c)).run Try.prog w = .ok (.string (str l)) w := fun w a n c h1 h2 => conv_row h1.out h2 hl c
          have c4 : ∀ (w : World) (a : Option Addr) (n c : Nat), Hid (n = (le N 4).length) → Row w a (le N 4) → (convert 22 9 (.slice a n c)).run Try.prog w = .ok (.string (str (le N 4))) w := fun w a n c h1 h2 => conv_row h1.out h2 (le_lt _ _) c
          have c8 : ∀ (w : World) (a : Option Addr) (n c : Nat), Hid (n = (le N 8).length) → Row w a (le N 8) → (convert 22 9 (.slice a n c)).run Try.prog w = .ok (.string (str (le N 8))) w := fun w a n c h1 h2 => conv_row h1.out h2 (le_lt _ _) c
          have cA4 : ∀ (w : World) (a : Option Addr) (n c : Nat), Hid (n = (l ++ le N 4).length) → Row w a (l ++ le N 4) → (convert 22 9 (.slice a n c)).run Try.prog w = .ok (.string (str l ++ str (le N 4))) w := fun w a n c h1 h2 => by rw [← s4]; exact conv_row h1.out h2 hl4 c
          have cA8 : ∀ (w : World) (a : Option Addr) (n c : Nat), Hid (n = (l ++ le N 8).length) → Row w a (l ++ le N 8) → (convert 22 9 (.slice a n c)).run Try.prog w = .ok (.string (str l ++ str (le N 8))) w := fun w a n c h1 h2 => by rw [← s8]; exact conv_row h1.out h2 hl8 c
          clear s4 s8 hl4 hl8
          have HcA := Lib.hid cA
          have Hc4 := Lib.hid c4
          have Hc8 := Lib.hid c8
          have HcA4 := Lib.hid cA4
          have HcA8 := Lib.hid cA8
          clear cA c4 c8 cA4 cA8
          generalize str l = A at *
          generalize str (le N 4) = B4 at *
          generalize str (le N 8) = B8 at *
          refine wp_region_noPanic ?_
          refine wp_region_held_drew (S := (fun w' => (convert 22 9 (.slice (some ⟨g, 0, none⟩) n (n + 20))).run Try.prog w' = .ok (.string A) w' ∧ (convert 22 9 (.slice (some ⟨b2, o2, none⟩) n2 c2)).run Try.prog w' = .ok (.string (A ++ B4)) w' ∧ (convert 22 9 (.slice (some ⟨b3, o3, none⟩) n3 c3)).run Try.prog w' = .ok (.string (A ++ B8)) w')) (by kernel_rfl) ⟨p1d, p2d, p3d⟩ (fun hHeld0 => ?_)
          refine wpAnyH_take (i := 0) (oi := { dst := some 122, op := Op.move (Operand.tmp 8), type := 22, pos := _, after := #[], guard := none }) (v := ?_) rfl (by kernel_rfl) (by kernel_rfl) (by kernel_rfl) (fun _ _ _ h => h) (Or.inl ⟨by rfl, ?_⟩) (by assumption) ?_
          rotate_left 1
          · intro w hSw
            try dsimp only at hSw
            go_simp
            first | done | with_reducible rfl
          try simp only [Act.put, List.setIfInBounds_toArray, List.set_cons_zero, List.set_cons_succ]
          refine wpAnyH_take (i := 2) (oi := { dst := some 124, op := Op.move (Operand.tmp 7), type := 9, pos := _, after := #[], guard := none }) (v := ?_) rfl (by kernel_rfl) (by kernel_rfl) (by kernel_rfl) (fun _ _ _ h => h) (Or.inl ⟨by rfl, ?_⟩) (by assumption) ?_
          rotate_left 1
          · intro w hSw
            try dsimp only at hSw
            go_simp
            first | done | with_reducible rfl
          try simp only [Act.put, List.setIfInBounds_toArray, List.set_cons_zero, List.set_cons_succ]
          refine wpAnyH_take (i := 1) (oi := { dst := some 123, op := Op.convert 22 9 (Operand.tmp 122), type := 9, pos := _, after := #[{ on := 0, ground := Ground.data }], guard := none }) (v := ?_) rfl (by kernel_rfl) (by kernel_rfl) (by kernel_rfl) (fun _ _ _ h => h) (Or.inl ⟨by rfl, ?_⟩) (by assumption) ?_
          rotate_left 1
          · intro w hSw
            try dsimp only at hSw
            go_simp
            first | done | with_reducible rfl
          try simp only [Act.put, List.setIfInBounds_toArray, List.set_cons_zero, List.set_cons_succ]
          refine wpAnyH_take (i := 3) (oi := { dst := some 125, op := Op.binOp BinOp.neq 9 (Operand.tmp 123) (Operand.tmp 124) 9, type := 4, pos := _, after := #[{ on := 1, ground := Ground.data }, { on := 2, ground := Ground.data }], guard := none }) (v := ?_) rfl (by kernel_rfl) (by kernel_rfl) (by kernel_rfl) (fun _ _ _ h => h) (Or.inl ⟨by rfl, ?_⟩) (by assumption) ?_
          rotate_left 1
          · intro w hSw
            try dsimp only at hSw
            go_simp
            first | done | with_reducible rfl
          try simp only [Act.put, List.setIfInBounds_toArray, List.set_cons_zero, List.set_cons_succ]
          refine wpAnyH_take (i := 4) (oi := { dst := some 126, op := Op.move (Operand.tmp 125), type := 4, pos := _, after := #[{ on := 3, ground := Ground.data }], guard := none }) (v := ?_) rfl (by kernel_rfl) (by kernel_rfl) (by kernel_rfl) (fun _ _ _ h => h) (Or.inl ⟨by rfl, ?_⟩) (by assumption) ?_
          rotate_left 1
          · intro w hSw
            try dsimp only at hSw
            go_simp
            first | done | with_reducible rfl
          try simp only [Act.put, List.setIfInBounds_toArray, List.set_cons_zero, List.set_cons_succ]
          refine wpAnyH_take (i := 5) (oi := { dst := some 127, op := Op.move (Operand.tmp 9), type := 22, pos := _, after := #[{ on := 4, ground := Ground.guard }], guard := some (4, false) }) (v := ?_) rfl (by kernel_rfl) (by kernel_rfl) (by kernel_rfl) (fun _ _ _ h => h) (Or.inl ⟨by rfl, ?_⟩) (by assumption) ?_
          rotate_left 1
          · intro w hSw
            try dsimp only at hSw
            go_simp
            first | done | with_reducible rfl
          try simp only [Act.put, List.setIfInBounds_toArray, List.set_cons_zero, List.set_cons_succ]
          refine wpAnyH_take (i := 6) (oi := { dst := some 128, op := Op.convert 22 9 (Operand.tmp 127), type := 9, pos := _, after := #[{ on := 5, ground := Ground.data }, { on := 4, ground := Ground.guard }], guard := some (4, false) }) (v := ?_) rfl (by kernel_rfl) (by kernel_rfl) (by kernel_rfl) (fun _ _ _ h => h) (Or.inl ⟨by rfl, ?_⟩) (by assumption) ?_
          rotate_left 1
          · intro w hSw
            try dsimp only at hSw
            go_simp
            first | done | with_reducible rfl
          try simp only [Act.put, List.setIfInBounds_toArray, List.set_cons_zero, List.set_cons_succ]
          refine wpAnyH_take (i := 7) (oi := { dst := some 129, op := Op.move (Operand.tmp 7), type := 9, pos := _, after := #[{ on := 4, ground := Ground.guard }], guard := some (4, false) }) (v := ?_) rfl (by kernel_rfl) (by kernel_rfl) (by kernel_rfl) (fun _ _ _ h => h) (Or.inl ⟨by rfl, ?_⟩) (by assumption) ?_
          rotate_left 1
          · intro w hSw
            try dsimp only at hSw
            go_simp
            first | done | with_reducible rfl
          try simp only [Act.put, List.setIfInBounds_toArray, List.set_cons_zero, List.set_cons_succ]
          refine wpAnyH_take (i := 8) (oi := { dst := some 130, op := Op.move (Operand.tmp 4), type := 23, pos := _, after := #[{ on := 4, ground := Ground.guard }], guard := some (4, false) }) (v := ?_) rfl (by kernel_rfl) (by kernel_rfl) (by kernel_rfl) (fun _ _ _ h => h) (Or.inl ⟨by rfl, ?_⟩) (by assumption) ?_
          rotate_left 1
          · intro w hSw
            try dsimp only at hSw
            go_simp
            first | done | with_reducible rfl
          try simp only [Act.put, List.setIfInBounds_toArray, List.set_cons_zero, List.set_cons_succ]
          refine wpAnyH_ready (rs := [9]) (by kernel_rfl) (by simp) ?_
          refine AllReadyH.cons (o := { dst := some 131, op := Op.call { callee := Callee.value (Operand.func 12), args := #[Operand.tmp 130, Operand.const (Value.int IntKind.i64 4)], argTypes := #[23, 3] }, type := 22, pos := _, after := #[{ on := 8, ground := Ground.data }, { on := 4, ground := Ground.chain }, { on := 4, ground := Ground.guard }], guard := some (4, false) }) rfl (fun K hK => ?_) AllReadyH.nil
          go_simp
          refine (refnum_any N 4 _ hN (by omega)).mono ?_
          rintro e w8 ⟨a8, n8, c8, rfl, hown8, hb8⟩
          obtain ⟨hn8, hr8, _⟩ := owned_row hown8
          obtain ⟨b8, o8, e8, _, _⟩ := hr8.some (by rw [le_length]; omega)
          subst e8
          have r8 := Hc4.out w8 _ n8 c8 hn8 hr8
          have hr18 := hr17.drew.below hb8
          have hr28 := hr27.drew.below hb8
          have hr38 := hr37.drew.below hb8
          have q1 := HcA.out w8 _ n (n + 20) hn hr18
          have q2 := HcA4.out w8 _ n2 c2 hn2 hr28
          have q3 := HcA8.out w8 _ n3 c3 hn3 hr38
          clear hown8 hHeld0
          go_wp2_with fail
          refine hK.out _ _ ⟨q1, q2, q3⟩ (fun hHeld9 => ?_)
          clear hK K
          try simp only [Act.put, List.setIfInBounds_toArray, List.set_cons_zero, List.set_cons_succ]
          refine wpAnyH_ready (rs := [10]) (by kernel_rfl) (by simp) ?_
          refine AllReadyH.cons (o := { dst := some 132, op := Op.convert 22 9 (Operand.tmp 131), type := 9, pos := _, after := #[{ on := 9, ground := Ground.data }, { on := 4, ground := Ground.guard }], guard := some (4, false) }) rfl (fun K hK => ?_) AllReadyH.nil
          go_simp
          refine hK.out _ _ ⟨q1, q2, q3⟩ (fun hHeld10 => ?_)
          clear hK K
          try simp only [Act.put, List.setIfInBounds_toArray, List.set_cons_zero, List.set_cons_succ]
          clear hHeld9 p1 p2 p3 p1d p2d p3d r8
          refine wpAnyH_take (i := 11) (oi := { dst := some 133, op := Op.binOp BinOp.add 9 (Operand.tmp 129) (Operand.tmp 132) 9, type := 9, pos := _, after := #[{ on := 7, ground := Ground.data }, { on := 10, ground := Ground.data }, { on := 4, ground := Ground.guard }], guard := some (4, false) }) (v := ?_) rfl (by kernel_rfl) (by kernel_rfl) (by kernel_rfl) (fun _ _ _ h => h) (Or.inl ⟨by rfl, ?_⟩) (by assumption) ?_
          rotate_left 1
          · intro w hSw
            try dsimp only at hSw
            go_simp
            first | done | with_reducible rfl
          try simp only [Act.put, List.setIfInBounds_toArray, List.set_cons_zero, List.set_cons_succ]
          refine wpAnyH_take (i := 12) (oi := { dst := some 134, op := Op.binOp BinOp.neq 9 (Operand.tmp 128) (Operand.tmp 133) 9, type := 4, pos := _, after := #[{ on := 6, ground := Ground.data }, { on := 11, ground := Ground.data }, { on := 4, ground := Ground.guard }], guard := some (4, false) }) (v := ?_) rfl (by kernel_rfl) (by kernel_rfl) (by kernel_rfl) (fun _ _ _ h => h) (Or.inl ⟨by rfl, ?_⟩) (by assumption) ?_
          rotate_left 1
          · intro w hSw
            try dsimp only at hSw
            go_simp
            first | done | with_reducible rfl
          try simp only [Act.put, List.setIfInBounds_toArray, List.set_cons_zero, List.set_cons_succ]
          refine wpAnyH_take (i := 13) (oi := { dst := some 135, op := Op.pick (Operand.tmp 126) (Operand.const (Value.bool true)) (Operand.tmp 134), type := 4, pos := _, after := #[{ on := 4, ground := Ground.data }, { on := 12, ground := Ground.data }], guard := none }) (v := ?_) rfl (by kernel_rfl) (by kernel_rfl) (by kernel_rfl) (fun _ _ _ h => h) (Or.inl ⟨by rfl, ?_⟩) (by assumption) ?_
          rotate_left 1
          · intro w hSw
            try dsimp only at hSw
            go_simp
            first | done | with_reducible rfl
          try simp only [Act.put, List.setIfInBounds_toArray, List.set_cons_zero, List.set_cons_succ]
          refine wpAnyH_take (i := 14) (oi := { dst := some 136, op := Op.move (Operand.tmp 135), type := 4, pos := _, after := #[{ on := 13, ground := Ground.data }, { on := 9, ground := Ground.chain }], guard := none }) (v := ?_) rfl (by kernel_rfl) (by kernel_rfl) (by kernel_rfl) (fun _ _ _ h => h) (Or.inl ⟨by rfl, ?_⟩) (by assumption) ?_
          rotate_left 1
          · intro w hSw
            try dsimp only at hSw
            go_simp
            first | done | with_reducible rfl
          try simp only [Act.put, List.setIfInBounds_toArray, List.set_cons_zero, List.set_cons_succ]
          refine wpAnyH_take (i := 15) (oi := { dst := some 137, op := Op.move (Operand.tmp 10), type := 22, pos := _, after := #[{ on := 14, ground := Ground.guard }], guard := some (14, false) }) (v := ?_) rfl (by kernel_rfl) (by kernel_rfl) (by kernel_rfl) (fun _ _ _ h => h) (Or.inl ⟨by rfl, ?_⟩) (by assumption) ?_
          rotate_left 1
          · intro w hSw
            try dsimp only at hSw
            go_simp
            first | done | with_reducible rfl
          try simp only [Act.put, List.setIfInBounds_toArray, List.set_cons_zero, List.set_cons_succ]
          refine wpAnyH_take (i := 16) (oi := { dst := some 138, op := Op.convert 22 9 (Operand.tmp 137), type := 9, pos := _, after := #[{ on := 15, ground := Ground.data }, { on := 14, ground := Ground.guard }], guard := some (14, false) }) (v := ?_) rfl (by kernel_rfl) (by kernel_rfl) (by kernel_rfl) (fun _ _ _ h => h) (Or.inl ⟨by rfl, ?_⟩) (by assumption) ?_
          rotate_left 1
          · intro w hSw
            try dsimp only at hSw
            go_simp
            first | done | with_reducible rfl
          try simp only [Act.put, List.setIfInBounds_toArray, List.set_cons_zero, List.set_cons_succ]
          refine wpAnyH_take (i := 17) (oi := { dst := some 139, op := Op.move (Operand.tmp 7), type := 9, pos := _, after := #[{ on := 14, ground := Ground.guard }], guard := some (14, false) }) (v := ?_) rfl (by kernel_rfl) (by kernel_rfl) (by kernel_rfl) (fun _ _ _ h => h) (Or.inl ⟨by rfl, ?_⟩) (by assumption) ?_
          rotate_left 1
          · intro w hSw
            try dsimp only at hSw
            go_simp
            first | done | with_reducible rfl
          try simp only [Act.put, List.setIfInBounds_toArray, List.set_cons_zero, List.set_cons_succ]
          refine wpAnyH_take (i := 18) (oi := { dst := some 140, op := Op.move (Operand.tmp 4), type := 23, pos := _, after := #[{ on := 14, ground := Ground.guard }], guard := some (14, false) }) (v := ?_) rfl (by kernel_rfl) (by kernel_rfl) (by kernel_rfl) (fun _ _ _ h => h) (Or.inl ⟨by rfl, ?_⟩) (by assumption) ?_
          rotate_left 1
          · intro w hSw
            try dsimp only at hSw
            go_simp
            first | done | with_reducible rfl
          try simp only [Act.put, List.setIfInBounds_toArray, List.set_cons_zero, List.set_cons_succ]
          refine wpAnyH_ready (rs := [19]) (by kernel_rfl) (by simp) ?_
          refine AllReadyH.cons (o := { dst := some 141, op := Op.call { callee := Callee.value (Operand.func 12), args := #[Operand.tmp 140, Operand.const (Value.int IntKind.i64 8)], argTypes := #[23, 3] }, type := 22, pos := _, after := #[{ on := 18, ground := Ground.data }, { on := 14, ground := Ground.chain }, { on := 14, ground := Ground.guard }], guard := some (14, false) }) rfl (fun K hK => ?_) AllReadyH.nil
          go_simp
          refine (refnum_any N 8 _ hN (by omega)).mono ?_
          rintro e w9 ⟨a9, n9, c9, rfl, hown9, hb9⟩
          obtain ⟨hn9, hr9, _⟩ := owned_row hown9
          obtain ⟨b9, o9, e9, _, _⟩ := hr9.some (by rw [le_length]; omega)
          subst e9
          have r9 := Hc8.out w9 _ n9 c9 hn9 hr9
          have hr19 := hr18.below hb9
          have hr29 := hr28.below hb9
          have hr39 := hr38.below hb9
          have t1 := HcA.out w9 _ n (n + 20) hn hr19
          have t2 := HcA4.out w9 _ n2 c2 hn2 hr29
          have t3 := HcA8.out w9 _ n3 c3 hn3 hr39
          clear hown9 q1 q2 q3 hHeld10
          go_wp2_with fail
          refine hK.out _ _ ⟨t1, t2, t3⟩ (fun hHeld19 => ?_)
          clear hK K
          try simp only [Act.put, List.setIfInBounds_toArray, List.set_cons_zero, List.set_cons_succ]
          refine wpAnyH_ready (rs := [20]) (by kernel_rfl) (by simp) ?_
          refine AllReadyH.cons (o := { dst := some 142, op := Op.convert 22 9 (Operand.tmp 141), type := 9, pos := _, after := #[{ on := 19, ground := Ground.data }, { on := 14, ground := Ground.guard }], guard := some (14, false) }) rfl (fun K hK => ?_) AllReadyH.nil
          go_simp
          refine hK.out _ _ ⟨t1, t2, t3⟩ (fun hHeld20 => ?_)
          clear hK K
          try simp only [Act.put, List.setIfInBounds_toArray, List.set_cons_zero, List.set_cons_succ]
          refine wpAnyH_take (i := 21) (oi := { dst := some 143, op := Op.binOp BinOp.add 9 (Operand.tmp 139) (Operand.tmp 142) 9, type := 9, pos := _, after := #[{ on := 17, ground := Ground.data }, { on := 20, ground := Ground.data }, { on := 14, ground := Ground.guard }], guard := some (14, false) }) (v := ?_) rfl (by kernel_rfl) (by kernel_rfl) (by kernel_rfl) (fun _ _ _ h => h) (Or.inl ⟨by rfl, ?_⟩) (by assumption) ?_
          rotate_left 1
          · intro w hSw
            try dsimp only at hSw
            go_simp
            first | done | with_reducible rfl
          try simp only [Act.put, List.setIfInBounds_toArray, List.set_cons_zero, List.set_cons_succ]
          refine wpAnyH_take (i := 22) (oi := { dst := some 144, op := Op.binOp BinOp.neq 9 (Operand.tmp 138) (Operand.tmp 143) 9, type := 4, pos := _, after := #[{ on := 16, ground := Ground.data }, { on := 21, ground := Ground.data }, { on := 14, ground := Ground.guard }], guard := some (14, false) }) (v := ?_) rfl (by kernel_rfl) (by kernel_rfl) (by kernel_rfl) (fun _ _ _ h => h) (Or.inl ⟨by rfl, ?_⟩) (by assumption) ?_
          rotate_left 1
          · intro w hSw
            try dsimp only at hSw
            go_simp
            first | done | with_reducible rfl
          try simp only [Act.put, List.setIfInBounds_toArray, List.set_cons_zero, List.set_cons_succ]
          refine wpAnyH_take (i := 23) (oi := { dst := some 145, op := Op.pick (Operand.tmp 136) (Operand.const (Value.bool true)) (Operand.tmp 144), type := 4, pos := _, after := #[{ on := 14, ground := Ground.data }, { on := 22, ground := Ground.data }], guard := none }) (v := ?_) rfl (by kernel_rfl) (by kernel_rfl) (by kernel_rfl) (fun _ _ _ h => h) (Or.inl ⟨by rfl, ?_⟩) (by assumption) ?_
          rotate_left 1
          · intro w hSw
            try dsimp only at hSw
            go_simp
            first | done | with_reducible rfl
          try simp only [Act.put, List.setIfInBounds_toArray, List.set_cons_zero, List.set_cons_succ]
          refine wpAnyH_done (by kernel_rfl) ?_ _
          refine NoPanic.normal ?_
          have hb9w := hb7w.trans ((below_drew hb8 hb9).mono hb7w.size)
          clear hHeld19 hHeld20 t1 t2 t3 r9 hb8 hb9 hr17 hr27 hr37 hr18 hr28 hr38 hr19 hr29 hr39
          go_wp2_with fail
          refine (awake_any w9).mono ?_
          rintro e w10 ⟨rfl, hb10⟩
          have hb10w := hb9w.trans (hb10.mono hb9w.size)
          go_wp2_with fail
          go_ret
          exact ⟨rfl, hb10w⟩
end Go.Proofs.Ytppboldeocjbhab
