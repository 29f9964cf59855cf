/-
  THREE SCOPES THAT THE LAWS BUILD, walked.
-/
import Derived.Test.YtbohnjiachnadaaScBuilt
import Derived.Test.YtbohnjiachnadaaRgHold
namespace Go.Proofs.Ytbohnjiachnadaa.Sc
open Go.RowKit Go.Maps

theorem mk6 (w : World) : (Instr.makeSlice 30 (.int .i64 3) (.int .i64 3)).run Try.prog w = .ok (.slice (some ⟨w.heap.size, 0, none⟩) 3 3) (w.alloc (.cells #[.slice none 0 0, .slice none 0 0, .slice none 0 0, .slice none 0 0, .slice none 0 0, .slice none 0 0] 54)) := by kernel_rfl

/-- the state ahead of the first set -/
theorem bu_start {w w1 w2 w3 : World} {p2 p1 p0 : Nat} (h1 : p2 = w.heap.size ∧ Node w1 0 p2 (.map none) none (fun _ => none) ∧ Below w.heap.size w w1) (h2 : p1 = w1.heap.size ∧ Node w2 0 p1 (.map none) (some p2) (fun _ => none) ∧ Below w1.heap.size w1 w2)
    (h3 : p0 = w2.heap.size ∧ Node w3 0 p0 (.map none) (some p1) (fun _ => none) ∧ Below w2.heap.size w2 w3) :
    Bu w ((w3.alloc (.cells #[.pointer (some ⟨p0, 0, none⟩), .pointer (some ⟨p1, 0, none⟩), .pointer (some ⟨p2, 0, none⟩)] 29)).alloc (.cells #[.slice none 0 0, .slice none 0 0, .slice none 0 0, .slice none 0 0, .slice none 0 0, .slice none 0 0] 54)) w3.heap.size (w3.heap.size + 1) (fun k => if k = 0 then p0 else if k = 1 then p1 else p2) (fun _ => .map none) (fun _ => .slice none 0 0) (fun _ => .slice none 0 0) [] [] := by
  obtain ⟨e2, N2, b1⟩ := h1
  obtain ⟨e1, N1, b2⟩ := h2
  obtain ⟨e0, N0, b3⟩ := h3
  have hs1 := b1.size
  have l2 := lt_some N2.box
  have l1 := lt_some N1.box
  have l0 := lt_some N0.box
  have hal := below_alloc w3 (.cells #[.pointer (some ⟨p0, 0, none⟩), .pointer (some ⟨p1, 0, none⟩), .pointer (some ⟨p2, 0, none⟩)] 29)
  have hal2 := below_alloc (w3.alloc (.cells #[.pointer (some ⟨p0, 0, none⟩), .pointer (some ⟨p1, 0, none⟩), .pointer (some ⟨p2, 0, none⟩)] 29)) (.cells #[.slice none 0 0, .slice none 0 0, .slice none 0 0, .slice none 0 0, .slice none 0 0, .slice none 0 0] 54)
  have hall := hal.trans (hal2.mono (by simp))
  have hnew := heap_alloc_new w3 (.cells #[.pointer (some ⟨p0, 0, none⟩), .pointer (some ⟨p1, 0, none⟩), .pointer (some ⟨p2, 0, none⟩)] 29)
  have hnew2 := heap_alloc_new (w3.alloc (.cells #[.pointer (some ⟨p0, 0, none⟩), .pointer (some ⟨p1, 0, none⟩), .pointer (some ⟨p2, 0, none⟩)] 29)) (.cells #[.slice none 0 0, .slice none 0 0, .slice none 0 0, .slice none 0 0, .slice none 0 0, .slice none 0 0] 54)
  refine ⟨(hal2.block _ (by simp)).trans hnew, by simpa using hnew2, fun k hk => ?_, fun k _ => World.ownsRow_nil _ _ _ _, fun k _ => World.ownsRow_nil _ _ _ _, ?_, ?_, ?_, ?_, ?_, ?_, ?_⟩
  · match k, hk with
    | 0, _ => exact N0.below hall
    | 1, _ => exact (N1.below b3).below hall
    | 2, _ => exact ((N2.below b2).below b3).below hall
  · show w.heap.size ≤ p2 ∧ p2 < p1 ∧ p1 < p0 ∧ p0 < w3.heap.size ∧ w3.heap.size < w3.heap.size + 1
    have := b2.size
    omega
  · intro j k _ _ _ m hm; cases hm
  · intro k _ m hm; cases hm
  · intro j k _ _ _ m hm; cases hm
  · intro j k _ _ _ m hm; cases hm
  · intro j k _ _ m hm; cases hm
  · exact ((b1.trans (b2.mono hs1)).trans (b3.mono (Nat.le_trans hs1 b2.size))).trans (hall.mono (Nat.le_trans (Nat.le_trans hs1 b2.size) b3.size))

theorem all_cell {w W : World} {ba bw : Nat} {p : Nat → Nat} {mv un tn : Nat → Value} {L M : List S3} (h : Bu w W ba bw p mv un tn L M) {k : Nat} (hk : k < 3) : W.cell? ⟨ba, k, none⟩ = some (.pointer (some ⟨p k, 0, none⟩)) := by
  match k, hk with
  | 0, _ => simp [World.cell?, h.all, ptr]
  | 1, _ => simp [World.cell?, h.all, ptr]
  | 2, _ => simp [World.cell?, h.all, ptr]

theorem ref_cells {w W : World} {ba bw : Nat} {p : Nat → Nat} {mv un tn : Nat → Value} {L M : List S3} (h : Bu w W ba bw p mv un tn L M) {k : Nat} (hk : k < 3) : W.cell? ⟨bw, k * 2, none⟩ = some (un k) ∧ W.cell? ⟨bw, k * 2 + 1, none⟩ = some (tn k) ∧ W.frozen? ⟨bw, k * 2, none⟩ = false ∧ W.frozen? ⟨bw, k * 2 + 1, none⟩ = false := by
  match k, hk with
  | 0, _ => simp [World.cell?, World.frozen?, h.ref]
  | 1, _ => simp [World.cell?, World.frozen?, h.ref]
  | 2, _ => simp [World.cell?, World.frozen?, h.ref]

theorem news1 {W : World} {s : Nat} {v : Value} (h : W.heap[s]? = some (.cells #[v] 9 (0, 0))) : ∀ j u, [v][j]? = some u → W.cell? ((⟨s, 0, none⟩ : Addr).add j) = some u :=
  fun j u hu => World.news_of_block (cs := #[v]) h j u hu

theorem take_snoc3 {L : List S3} {j : Nat} {x : S3} (h : L[j]? = some x) : L.take (j + 1) = L.take j ++ [x] := by
  rw [List.take_add_one, h]; rfl

def BuiltQ (w : World) (L : List S3) (e : Ending) (w' : World) : Prop := ∃ (ba bw : Nat) (p : Nat → Nat) (mv un tn : Nat → Value),
    e = .returned (.tuple #[.pointer (some ⟨p 0, 0, none⟩), .slice (some ⟨bw, 0, none⟩) 3 3, .bool true]) ∧ Bu w w' ba bw p mv un tn L L

set_option maxRecDepth 100000 in
set_option maxHeartbeats 8000000 in
theorem built_c {w : World} {v : Value} {L : List S3} (h : SetRow w v L) (hl : lightB L = true) : Calls Try.prog 17 #[v] w (BuiltQ w L) := by
  obtain ⟨hlen, hsmall⟩ := lightB_true hl
  obtain ⟨a, c, rfl, hc, _, hrow⟩ := h
  obtain ⟨n, hn⟩ : ∃ n, L.length = n := ⟨_, rfl⟩
  rw [hn] at hc hlen ⊢
  have HN := Lib.hid hn
  have HROW := Lib.hid hrow
  have HSM := Lib.hid hsmall
  clear hn hrow hsmall hl
  have hn1 := new_n none w (fun q h => by cases h)
  rw [ptr_none] at hn1
  have hmk6 := mk6
  go_enter Try.func17, Try.ntmps17
  go_wp2_with fail
  refine hn1.mono ?_
  rintro e w1 ⟨p2, rfl, H1⟩
  have hn2 := new_n (some p2) w1 (fun q h => by cases h; exact lt_some H1.out.2.1.box)
  rw [ptr_some] at hn2
  clear hn1
  go_wp2_with fail
  refine hn2.mono ?_
  rintro e w2 ⟨p1, rfl, H2⟩
  have hn3 := new_n (some p1) w2 (fun q h => by cases h; exact lt_some H2.out.2.1.box)
  rw [ptr_some] at hn3
  clear hn2
  go_wp2_with fail
  refine hn3.mono ?_
  rintro e w3 ⟨p0, rfl, H3⟩
  have HB0 := Lib.hid (bu_start H1.out H2.out H3.out)
  clear hn3 H1 H2 H3
  obtain ⟨ba, hba⟩ : ∃ ba, w3.heap.size = ba := ⟨_, rfl⟩
  rw [hba] at HB0
  have HBA := Lib.hid hba
  obtain ⟨p, hp⟩ : ∃ p : Nat → Nat, (fun k => if k = 0 then p0 else if k = 1 then p1 else p2) = p := ⟨_, rfl⟩
  rw [hp] at HB0
  have hp0 : p0 = p 0 := by rw [← hp]; rfl
  rw [hp0] at HB0 ⊢
  clear hp0 hp
  obtain ⟨bw, hbw⟩ : ∃ bw, ba + 1 = bw := ⟨_, rfl⟩
  rw [hbw] at HB0
  go_wp2_with fail
  clear hbw hba
  go_loopw [9, 10, 11, 12] (fun i _ _ _ W' => ∃ (j : Nat) (mv un tn : Nat → Value), i = .int .i64 j ∧ j ≤ n ∧ Hid (Bu w W' ba bw p mv un tn (L.take j) (L.take j))) (fun i _ _ _ _ => n - (intOf i).toNat)
  case atStart => exact ⟨0, _, _, _, rfl, Nat.zero_le _, HB0⟩
  case round =>
    clear HB0
    obtain ⟨j, mv, un, tn, rfl, hj, HB⟩ := hrel
    by_cases hlt : j < n
    · obtain ⟨x, hx⟩ : ∃ x, L[j]? = some x := ⟨_, List.getElem?_eq_getElem (by rw [HN.out]; exact hlt)⟩
      have hne : L ≠ [] := by rintro rfl; cases hx
      obtain ⟨b, off, rfl, hblt, hcell⟩ := HROW.out.resolve_left hne
      obtain ⟨_, z0, z1, z2⟩ := hcell j x hx
      have hbb := HB.out.bel.block b hblt
      have x0 := (cell_of_block hbb).trans z0
      have x1 := (cell_of_block hbb).trans z1
      have x2 := (cell_of_block hbb).trans z2
      clear hbb
      obtain ⟨k, hk⟩ : ∃ k : Nat, x.lv % 3 = k := ⟨_, rfl⟩
      have hk3 : k < 3 := by omega
      have hki : (x.lv : Int) % 3 = (k : Int) := by omega
      have HK := Lib.hid hk
      have hk3i : (k : Int) < 3 := by omega
      have hk0i : (0 : Int) ≤ (k : Int) := by omega
      have hnl := HSM.out x (List.mem_of_getElem? hx)
      have hcp := all_cell HB.out hk3
      have hnm := name_c x.name (by omega)
      have hrn := refName_c x.name (by omega)
      have hlj : (L.take j).length ≤ 30 := by rw [List.length_take]; omega
      obtain ⟨hnl1, hnl2⟩ := hnl
      have HX := Lib.hid hx
      have hba := HB.out.pk hk3
      clear hcell hne hk hx
      have hj3 : (j : Int) < (n : Int) := by omega
      cases hnb : nameB x.name with
      | false =>
        have hset := fun W => set_bad (p k) x.name x.text (by omega) hnb W
        simp only [hnb] at hnm hrn
        have HB2 := Lib.hid (show Bu w wr ba bw p mv un tn (L.take (j + 1)) (L.take (j + 1)) by rw [take_snoc3 HX.out]; exact HB.out.skip hnb)
        clear hnb
        go_wp2_with fail
        go_region_held3 (fun w' => w'.cell? ⟨ba, k, none⟩ = some (.pointer (some ⟨p k, 0, none⟩)) ∧ w'.cell? ⟨b, off + j * 3 + 1, none⟩ = some (.string (mk x.name)) ∧ w'.cell? ⟨b, off + j * 3 + 2, none⟩ = some (.string (mk x.text))) (exact ⟨hcp, x1, x2⟩) ((go_at_call 22; refine (hset _).mono ?_; rintro e w4 ⟨rfl, rfl⟩))
        go_wp2_with fail
        refine (hrn _).mono ?_
        rintro e w5 ⟨rfl, rfl⟩
        go_wp2_with fail
        refine (hnm _).mono ?_
        rintro e w5 ⟨rfl, rfl⟩
        go_wp2_with fail
        go_roundw
        case rel => exact ⟨j + 1, mv, un, tn, by go_num, by omega, Lib.hid (HB2.out.keep ((Below.refl wr.heap.size wr).drew))⟩
        case measure => simp [intOf]; omega
      | true =>
        have hset := fun W (hW : Bu w W ba bw p mv un tn (L.take j) (L.take j)) => set_c (hW.node k hk3) (by omega) x.name x.text (by omega) hnb
        have hset0 := hset _ (HB.out.keep ((Below.refl wr.heap.size wr).drew))
        simp only [hnb] at hnm hrn
        go_wp2_with fail
        go_region_held3 (fun w' => w'.cell? ⟨ba, k, none⟩ = some (.pointer (some ⟨p k, 0, none⟩)) ∧ w'.cell? ⟨b, off + j * 3 + 1, none⟩ = some (.string (mk x.name)) ∧ w'.cell? ⟨b, off + j * 3 + 2, none⟩ = some (.string (mk x.text))) (first | exact ⟨hcp, x1, x2⟩ | exact ⟨hcp4, y1, y2⟩)
          ((go_at_call 22; refine hset0.mono ?_; rintro e w4 ⟨rfl, mv', hq⟩; have B4 := (HB.out.keep ((Below.refl wr.heap.size wr).drew)).set hk3 HK.out hnb hq; have hcp4 := all_cell B4 hk3; have hbb4 := B4.bel.block b hblt; have y1 := (cell_of_block hbb4).trans z1; have y2 := (cell_of_block hbb4).trans z2))
        clear hq hset hset0 hcp hcp4 hbb4 x1 x2 z0 z1 z2
        go_wp2_with fail
        refine (hrn _).mono ?_
        rintro e w5 ⟨rfl, rfl⟩
        go_wp2_with fail
        refine (hnm _).mono ?_
        rintro e w5 ⟨rfl, rfl⟩
        have hB4 := B4.keep ((Below.refl w4.heap.size w4).drew)
        have hnkl : (nk (L.take j) k).length ≤ 30 := Nat.le_trans (nk_len _ _) hlj
        have htkl : (tk (L.take j) k).length ≤ 30 := Nat.le_trans (tk_len _ _) hlj
        have hbwl : bw + 1 ≤ w4.drew.heap.size := lt_some hB4.ref
        have X0 := Lib.hid (PS.start (hB4.names k hk3) (hB4.texts k hk3) (hB4.dUT k k hk3 hk3))
        have hblt4 : b < w.heap.size := hblt
        have hbwb : b < bw := by have := hB4.ord; omega
        have HS := Lib.hid (show ∀ (W : World) (u t : Value) (n m : Nat) (xs ys : List Value), PS (bw + 1) w4.drew W (un k) (tn k) u t n m xs ys →
            W.cell? ⟨bw, k * 2, none⟩ = some (un k) ∧ W.cell? ⟨bw, k * 2 + 1, none⟩ = some (tn k) ∧ W.cell? ⟨b, off + j * 3 + 1, none⟩ = some (.string (mk x.name)) ∧ W.cell? ⟨b, off + j * 3 + 2, none⟩ = some (.string (mk x.text)) from fun W u t n m xs ys hps => by
          obtain ⟨q1, q2, _, _⟩ := ref_cells hB4 hk3
          have hk1 : W.heap[bw]? = w4.drew.heap[bw]? := hps.keep bw (by omega) (fun e => by have := (owns_block (hB4.names k hk3) e.symm).1; omega) (fun e => by have := (owns_block (hB4.texts k hk3) e.symm).1; omega)
          have hk2 : W.heap[b]? = w4.drew.heap[b]? := hps.keep b (by omega) (fun e => by have := (owns_block (hB4.names k hk3) e.symm).1; omega) (fun e => by have := (owns_block (hB4.texts k hk3) e.symm).1; omega)
          exact ⟨(cell_of_block hk1).trans q1, (cell_of_block hk1).trans q2, (cell_of_block hk2).trans y1, (cell_of_block hk2).trans y2⟩)
        have HF := Lib.hid (show ∀ (W : World) (u t : Value) (n m : Nat) (xs ys : List Value), PS (bw + 1) w4.drew W (un k) (tn k) u t n m xs ys →
            W.frozen? ⟨bw, k * 2, none⟩ = false ∧ W.frozen? ⟨bw, k * 2 + 1, none⟩ = false from fun W u t n m xs ys hps => by
          obtain ⟨_, _, q3, q4⟩ := ref_cells hB4 hk3
          have hk1 : W.heap[bw]? = w4.drew.heap[bw]? := hps.keep bw (by omega) (fun e => by have := (owns_block (hB4.names k hk3) e.symm).1; omega) (fun e => by have := (owns_block (hB4.texts k hk3) e.symm).1; omega)
          constructor
          · rw [← q3]; simp [World.frozen?, hk1]
          · rw [← q4]; simp [World.frozen?, hk1])
        have HOB := Lib.hid (show ∀ g, (un k).ownBlock = some g → g < w4.drew.heap.size from fun g hg => by obtain ⟨_, cur, hc⟩ := owns_block (hB4.names k hk3) hg; exact lt_some hc)
        have HB4 := Lib.hid hB4
        have HNB := Lib.hid hnb
        obtain ⟨i0, hi, hz0, hz1, hz2⟩ := info_parts info9
        obtain ⟨s1, s2, s3, s4⟩ := HS.out _ _ _ _ _ _ _ X0.out
        have HNE := Lib.hid (show ∀ (W : World) (u t : Value) (n m : Nat) (xs ys : List Value) (s : Nat) (o : Obj), PS (bw + 1) w4.drew W (un k) (tn k) u t n m xs ys → W.heap[s]? = some o → w4.drew.heap.size ≤ s → u = un k → ¬ some s = u.ownBlock from fun W u t n m xs ys s o hps hso hge hu e => by
          subst hu
          have := HOB.out s e.symm
          omega)
        clear hB4 hnb y1 y2
        go_wp2_with fail
        refine wp_region_noPanic ?_
        refine Nt.wp_region_N 30 (fun w' => w'.cell? ⟨bw, k * 2, none⟩ = some (un k) ∧ w'.cell? ⟨bw, k * 2 + 1, none⟩ = some (tn k) ∧ w'.cell? ⟨b, off + j * 3 + 1, none⟩ = some (.string (mk x.name)) ∧ w'.cell? ⟨b, off + j * 3 + 2, none⟩ = some (.string (mk x.text))) (by kernel_rfl) ?_
        refine Nt.takeT (i := 0) (v := ?_) rfl (by kernel_rfl) (by kernel_rfl) (by kernel_rfl) (by kernel_rfl) (fun _ _ _ h => h) (Or.inl ⟨by rfl, ?_⟩) (fun _ => ⟨s1, s2, s3, s4⟩) ?_
        rotate_left 1
        · intro w hSw
          clear hSw
          go_simp
          first | done | with_reducible rfl
        try simp only [Act.put, List.setIfInBounds_toArray]
        refine Nt.takeT (i := 1) (v := ?_) rfl (by kernel_rfl) (by kernel_rfl) (by kernel_rfl) (by kernel_rfl) (fun _ _ _ h => h) (Or.inl ⟨by rfl, ?_⟩) (fun _ => ⟨s1, s2, s3, s4⟩) ?_
        rotate_left 1
        · intro w hSw
          clear hSw
          go_simp
          first | done | with_reducible rfl
        try simp only [Act.put]
        refine Nt.takeT (i := 2) (v := ?_) rfl (by kernel_rfl) (by kernel_rfl) (by kernel_rfl) (by kernel_rfl) (fun _ _ _ h => h) (Or.inl ⟨by rfl, ?_⟩) (fun _ => ⟨s1, s2, s3, s4⟩) ?_
        rotate_left 1
        · intro w hSw
          clear hSw
          go_simp
          first | done | with_reducible rfl
        try simp only [Act.put]
        refine Nt.takeT (i := 3) (v := ?_) rfl (by kernel_rfl) (by kernel_rfl) (by kernel_rfl) (by kernel_rfl) (fun _ _ _ h => h) (Or.inl ⟨by rfl, ?_⟩) (fun _ => ⟨s1, s2, s3, s4⟩) ?_
        rotate_left 1
        · intro w hSw
          clear hSw
          go_simp
          first | done | with_reducible rfl
        try simp only [Act.put]
        refine Nt.takeT (i := 4) (v := ?_) rfl (by kernel_rfl) (by kernel_rfl) (by kernel_rfl) (by kernel_rfl) (fun _ _ _ h => h) (Or.inl ⟨by rfl, ?_⟩) (fun _ => ⟨s1, s2, s3, s4⟩) ?_
        rotate_left 1
        · intro w hSw
          clear hSw
          go_simp
          first | done | with_reducible rfl
        try simp only [Act.put]
        refine Nt.takeT (i := 5) (v := ?_) rfl (by kernel_rfl) (by kernel_rfl) (by kernel_rfl) (by kernel_rfl) (fun _ _ _ h => h) (Or.inl ⟨by rfl, ?_⟩) (fun _ => ⟨s1, s2, s3, s4⟩) ?_
        rotate_left 1
        · intro w hSw
          clear hSw
          go_simp
          first | done | with_reducible rfl
        try simp only [Act.put]
        refine Nt.takeT (i := 6) (v := ?_) rfl (by kernel_rfl) (by kernel_rfl) (by kernel_rfl) (by kernel_rfl) (fun _ _ _ h => h) (Or.inl ⟨by rfl, ?_⟩) (fun _ => ⟨s1, s2, s3, s4⟩) ?_
        rotate_left 1
        · intro w hSw
          clear hSw
          go_simp
          first | done | with_reducible rfl
        try simp only [Act.put]
        refine Nt.takeT (i := 7) (v := ?_) rfl (by kernel_rfl) (by kernel_rfl) (by kernel_rfl) (by kernel_rfl) (fun _ _ _ h => h) (Or.inl ⟨by rfl, ?_⟩) (fun _ => ⟨s1, s2, s3, s4⟩) ?_
        rotate_left 1
        · intro w hSw
          clear hSw
          go_simp
          first | done | with_reducible rfl
        try simp only [Act.put]
        refine Nt.takeS (i := 8) (v := ?_) rfl (by kernel_rfl) (by kernel_rfl) (by kernel_rfl) (by kernel_rfl) (by kernel_rfl) (by kernel_rfl) (fun _ _ _ h => h) (Or.inl ⟨by rfl, ?_⟩) ⟨s1, s2, s3, s4⟩ ?_
        rotate_left 1
        · intro w hSw
          try dsimp only at hSw
          go_simp
          first | done | with_reducible rfl
        try simp only [Act.put]
        refine Nt.takeT (i := 9) (v := ?_) rfl (by kernel_rfl) (by kernel_rfl) (by kernel_rfl) (by kernel_rfl) (fun _ _ _ h => h) (Or.inl ⟨by rfl, ?_⟩) (fun _ => ⟨s1, s2, s3, s4⟩) ?_
        rotate_left 1
        · intro w hSw
          clear hSw
          go_simp
          first | done | with_reducible rfl
        try simp only [Act.put]
        refine Nt.takeT (i := 10) (v := ?_) rfl (by kernel_rfl) (by kernel_rfl) (by kernel_rfl) (by kernel_rfl) (fun _ _ _ h => h) (Or.inl ⟨by rfl, ?_⟩) (fun _ => ⟨s1, s2, s3, s4⟩) ?_
        rotate_left 1
        · intro w hSw
          clear hSw
          go_simp
          first | done | with_reducible rfl
        try simp only [Act.put]
        refine Nt.takeT (i := 11) (v := ?_) rfl (by kernel_rfl) (by kernel_rfl) (by kernel_rfl) (by kernel_rfl) (fun _ _ _ h => h) (Or.inl ⟨by rfl, ?_⟩) (fun _ => ⟨s1, s2, s3, s4⟩) ?_
        rotate_left 1
        · intro w hSw
          clear hSw
          go_simp
          first | done | with_reducible rfl
        try simp only [Act.put]
        refine Nt.takeT (i := 12) (v := ?_) rfl (by kernel_rfl) (by kernel_rfl) (by kernel_rfl) (by kernel_rfl) (fun _ _ _ h => h) (Or.inl ⟨by rfl, ?_⟩) (fun _ => ⟨s1, s2, s3, s4⟩) ?_
        rotate_left 1
        · intro w hSw
          clear hSw
          go_simp
          first | done | with_reducible rfl
        try simp only [Act.put]
        refine Nt.takeS (i := 13) (v := ?_) rfl (by kernel_rfl) (by kernel_rfl) (by kernel_rfl) (by kernel_rfl) (by kernel_rfl) (by kernel_rfl) (fun _ _ _ h => h) (Or.inl ⟨by rfl, ?_⟩) ⟨s1, s2, s3, s4⟩ ?_
        rotate_left 1
        · intro w hSw
          try dsimp only at hSw
          go_simp
          first | done | with_reducible rfl
        try simp only [Act.put]
        refine Nt.takeT (i := 16) (v := ?_) rfl (by kernel_rfl) (by kernel_rfl) (by kernel_rfl) (by kernel_rfl) (fun _ _ _ h => h) (Or.inl ⟨by rfl, ?_⟩) (fun _ => ⟨s1, s2, s3, s4⟩) ?_
        rotate_left 1
        · intro w hSw
          clear hSw
          go_simp
          first | done | with_reducible rfl
        try simp only [Act.put]
        refine Nt.takeT (i := 17) (v := ?_) rfl (by kernel_rfl) (by kernel_rfl) (by kernel_rfl) (by kernel_rfl) (fun _ _ _ h => h) (Or.inl ⟨by rfl, ?_⟩) (fun _ => ⟨s1, s2, s3, s4⟩) ?_
        rotate_left 1
        · intro w hSw
          clear hSw
          go_simp
          first | done | with_reducible rfl
        try simp only [Act.put]
        refine Nt.takeT (i := 18) (v := ?_) rfl (by kernel_rfl) (by kernel_rfl) (by kernel_rfl) (by kernel_rfl) (fun _ _ _ h => h) (Or.inl ⟨by rfl, ?_⟩) (fun _ => ⟨s1, s2, s3, s4⟩) ?_
        rotate_left 1
        · intro w hSw
          clear hSw
          go_simp
          first | done | with_reducible rfl
        try simp only [Act.put]
        refine Nt.takeT (i := 19) (v := ?_) rfl (by kernel_rfl) (by kernel_rfl) (by kernel_rfl) (by kernel_rfl) (fun _ _ _ h => h) (Or.inl ⟨by rfl, ?_⟩) (fun _ => ⟨s1, s2, s3, s4⟩) ?_
        rotate_left 1
        · intro w hSw
          clear hSw
          go_simp
          first | done | with_reducible rfl
        try simp only [Act.put]
        refine Nt.takeS (i := 20) (v := ?_) rfl (by kernel_rfl) (by kernel_rfl) (by kernel_rfl) (by kernel_rfl) (by kernel_rfl) (by kernel_rfl) (fun _ _ _ h => h) (Or.inl ⟨by rfl, ?_⟩) ⟨s1, s2, s3, s4⟩ ?_
        rotate_left 1
        · intro w hSw
          try dsimp only at hSw
          go_simp
          first | done | with_reducible rfl
        try simp only [Act.put]
        refine Nt.takeT (i := 21) (v := ?_) rfl (by kernel_rfl) (by kernel_rfl) (by kernel_rfl) (by kernel_rfl) (fun _ _ _ h => h) (Or.inl ⟨by rfl, ?_⟩) (fun _ => ⟨s1, s2, s3, s4⟩) ?_
        rotate_left 1
        · intro w hSw
          clear hSw
          go_simp
          first | done | with_reducible rfl
        try simp only [Act.put]
        refine Nt.takeT (i := 22) (v := ?_) rfl (by kernel_rfl) (by kernel_rfl) (by kernel_rfl) (by kernel_rfl) (fun _ _ _ h => h) (Or.inl ⟨by rfl, ?_⟩) (fun _ => ⟨s1, s2, s3, s4⟩) ?_
        rotate_left 1
        · intro w hSw
          clear hSw
          go_simp
          first | done | with_reducible rfl
        try simp only [Act.put]
        refine Nt.takeT (i := 23) (v := ?_) rfl (by kernel_rfl) (by kernel_rfl) (by kernel_rfl) (by kernel_rfl) (fun _ _ _ h => h) (Or.inl ⟨by rfl, ?_⟩) (fun _ => ⟨s1, s2, s3, s4⟩) ?_
        rotate_left 1
        · intro w hSw
          clear hSw
          go_simp
          first | done | with_reducible rfl
        try simp only [Act.put]
        refine Nt.takeT (i := 24) (v := ?_) rfl (by kernel_rfl) (by kernel_rfl) (by kernel_rfl) (by kernel_rfl) (fun _ _ _ h => h) (Or.inl ⟨by rfl, ?_⟩) (fun _ => ⟨s1, s2, s3, s4⟩) ?_
        rotate_left 1
        · intro w hSw
          clear hSw
          go_simp
          first | done | with_reducible rfl
        try simp only [Act.put]
        refine Nt.takeS (i := 25) (v := ?_) rfl (by kernel_rfl) (by kernel_rfl) (by kernel_rfl) (by kernel_rfl) (by kernel_rfl) (by kernel_rfl) (fun _ _ _ h => h) (Or.inl ⟨by rfl, ?_⟩) ⟨s1, s2, s3, s4⟩ ?_
        rotate_left 1
        · intro w hSw
          try dsimp only at hSw
          go_simp
          first | done | with_reducible rfl
        try simp only [Act.put]
        refine Nt.twoN (i := 14) (j := 26) (by kernel_rfl) rfl rfl (fun K hK => ?_) (fun K hK => ?_)
        · go_simp
          have X1 := Lib.hid (X0.out.alloc (.cells #[.string (mk x.name)] 9))
          have hs1 := heap_alloc_new (w4.drew) (.cells #[.string (mk x.name)] 9)
          refine hK.out _ _ (fun _ => (HS.out _ _ _ _ _ _ _ X1.out)) ?_
          clear hK K
          try simp only [Act.put, List.setIfInBounds_toArray, List.set_cons_zero, List.set_cons_succ]
          refine Nt.twoN (i := 15) (j := 26) (by kernel_rfl) rfl rfl (fun K hK => ?_) (fun K hK => ?_)
          · refine step_append_lies _ rfl (.tmp 87) (.tmp 93) 22 rfl (bw + 1) 9 i0 (.string ⟨#[]⟩) 1 16 Try.underlying22 hi hz0 hz1 hz2 rfl (by decide) (un k) (nk (L.take j) k).length (strV (nk (L.take j) k)) (by simp [Act.eval]) X1.out.own1 ⟨_, 0, none⟩ 1 1 [.string (mk x.name)] (by simp [Act.eval]) rfl (news1 hs1) (by simp [Value.oneCell']) (by decide) (by unfold maxLen; omega) (by omega) (Nat.le_trans hbwl X1.out.size) _ rfl ?_
            intro g15 c15 W8 ho15 hg15 ha15 hl15
            have X2 := Lib.hid (X1.out.appU (n' := (nk (L.take j) k).length + 1) (xs' := strV ((nk (L.take j) k) ++ [x.name])) (by rw [strV_snoc]; exact ho15) hg15 (fun g hg => by cases hg; exact ha15))
            clear ho15 hg15 ha15 hl15
            refine hK.out _ _ (fun _ => (HS.out _ _ _ _ _ _ _ X2.out)) ?_
            clear hK K
            try simp only [Act.put, List.setIfInBounds_toArray]
            refine Nt.nextN (i := 26) (by kernel_rfl) rfl (fun K hK => ?_)
            go_simp
            have X3 := Lib.hid (X2.out.alloc (.cells #[.string (mk x.text)] 9))
            have hs2 := heap_alloc_new (W8) (.cells #[.string (mk x.text)] 9)
            refine hK.out _ _ (fun _ => (HS.out _ _ _ _ _ _ _ X3.out)) ?_
            clear hK K
            try simp only [Act.put, List.setIfInBounds_toArray, List.set_cons_zero, List.set_cons_succ]
            refine Nt.nextN (i := 27) (by kernel_rfl) rfl (fun K hK => ?_)
            refine step_append_lies _ rfl (.tmp 99) (.tmp 105) 22 rfl (bw + 1) 9 i0 (.string ⟨#[]⟩) 1 16 Try.underlying22 hi hz0 hz1 hz2 rfl (by decide) (tn k) (tk (L.take j) k).length (strV (tk (L.take j) k)) (by simp [Act.eval]) X3.out.own2 ⟨_, 0, none⟩ 1 1 [.string (mk x.text)] (by simp [Act.eval]) rfl (news1 hs2) (by simp [Value.oneCell']) (by decide) (by unfold maxLen; omega) (by omega) (Nat.le_trans hbwl X3.out.size) _ rfl ?_
            intro g27 c27 W9 ho27 hg27 ha27 hl27
            have X4 := Lib.hid (X3.out.appT (m' := (tk (L.take j) k).length + 1) (ys' := strV ((tk (L.take j) k) ++ [x.text])) (by rw [strV_snoc]; exact ho27) hg27 (fun g hg => by cases hg; exact ha27))
            clear ho27 hg27 ha27 hl27
            refine hK.out _ _ (fun _ => (HS.out _ _ _ _ _ _ _ X4.out)) ?_
            clear hK K
            try simp only [Act.put, List.setIfInBounds_toArray]
            have hq := HS.out _ _ _ _ _ _ _ X4.out
            obtain ⟨t1, t2, _, _⟩ := hq
            obtain ⟨fz1, fz2⟩ := HF.out _ _ _ _ _ _ _ X4.out
            have HE := Lib.hid (HB4.out.rows hk3 HK.out HNB.out X4.out)
            refine Nt.takeT (i := 28) (v := ?_) rfl (by kernel_rfl) (by kernel_rfl) (by kernel_rfl) (by kernel_rfl) (fun _ _ _ h => h) (Or.inl ⟨by rfl, ?_⟩) (fun _ => (HS.out _ _ _ _ _ _ _ X4.out)) ?_
            rotate_left 1
            · intro w hSw
              clear hSw
              go_simp
              first | done | with_reducible rfl
            try simp only [Act.put]
            refine Nt.takeT (i := 29) (v := ?_) rfl (by kernel_rfl) (by kernel_rfl) (by kernel_rfl) (by kernel_rfl) (fun _ _ _ h => h) (Or.inl ⟨by rfl, ?_⟩) (fun _ => (HS.out _ _ _ _ _ _ _ X4.out)) ?_
            rotate_left 1
            · intro w hSw
              clear hSw
              go_simp
              first | done | with_reducible rfl
            try simp only [Act.put]
            refine Nt.nextN (i := 30) (by kernel_rfl) rfl (fun K hK => ?_)
            go_simp
            refine hK.out _ _ (fun h => by simp at h) ?_
            clear hK K
            try simp only [Act.put, List.setIfInBounds_toArray, List.set_cons_zero, List.set_cons_succ]
            refine Nt.takeT (i := 31) (v := ?_) rfl (by kernel_rfl) (by kernel_rfl) (by kernel_rfl) (by kernel_rfl) (fun _ _ _ h => h) (Or.inl ⟨by rfl, ?_⟩) (fun h => by simp at h) ?_
            rotate_left 1
            · intro w hSw
              clear hSw
              go_simp
              first | done | with_reducible rfl
            try simp only [Act.put, List.setIfInBounds_toArray]
            refine Nt.takeT (i := 32) (v := ?_) rfl (by kernel_rfl) (by kernel_rfl) (by kernel_rfl) (by kernel_rfl) (fun _ _ _ h => h) (Or.inl ⟨by rfl, ?_⟩) (fun h => by simp at h) ?_
            rotate_left 1
            · intro w hSw
              clear hSw
              go_simp
              first | done | with_reducible rfl
            try simp only [Act.put]
            refine Nt.nextN (i := 33) (by kernel_rfl) rfl (fun K hK => ?_)
            go_simp
            refine hK.out _ _ (fun h => by simp at h) ?_
            clear hK K
            try simp only [Act.put, List.setIfInBounds_toArray, List.set_cons_zero, List.set_cons_succ]
            refine Nt.doneN (by kernel_rfl) ?_ _
            refine NoPanic.normal ?_
            go_wp2_with fail
            go_roundw
            case rel => exact ⟨j + 1, put mv k mv', _, _, by go_num, by omega, Lib.hid (by rw [take_snoc3 HX.out]; exact HE.out)⟩
            case measure => simp [intOf]; omega
          · go_simp
            have X2 := Lib.hid (X1.out.alloc (.cells #[.string (mk x.text)] 9))
            have hs1b := (Below.heap_alloc (w4.drew.alloc (.cells #[.string (mk x.name)] 9)) (.cells #[.string (mk x.text)] 9) _ (lt_some hs1)).trans hs1
            have hs2 := heap_alloc_new ((w4.drew.alloc (.cells #[.string (mk x.name)] 9))) (.cells #[.string (mk x.text)] 9)
            refine hK.out _ _ (fun _ => (HS.out _ _ _ _ _ _ _ X2.out)) ?_
            clear hK K
            try simp only [Act.put, List.setIfInBounds_toArray, List.set_cons_zero, List.set_cons_succ]
            clear hs1
            have hs1 := hs1b
            clear hs1b
            refine Nt.nextN (i := 15) (by kernel_rfl) rfl (fun K hK => ?_)
            refine step_append_lies _ rfl (.tmp 87) (.tmp 93) 22 rfl (bw + 1) 9 i0 (.string ⟨#[]⟩) 1 16 Try.underlying22 hi hz0 hz1 hz2 rfl (by decide) (un k) (nk (L.take j) k).length (strV (nk (L.take j) k)) (by simp [Act.eval]) X2.out.own1 ⟨_, 0, none⟩ 1 1 [.string (mk x.name)] (by simp [Act.eval]) rfl (news1 hs1) (by simp [Value.oneCell']) (by decide) (by unfold maxLen; omega) (by omega) (Nat.le_trans hbwl X2.out.size) _ rfl ?_
            intro g15 c15 W8 ho15 hg15 ha15 hl15
            have X3 := Lib.hid (X2.out.appU (n' := (nk (L.take j) k).length + 1) (xs' := strV ((nk (L.take j) k) ++ [x.name])) (by rw [strV_snoc]; exact ho15) hg15 (fun g hg => by cases hg; exact ha15))
            have hs2b := (hg15.block _ (lt_some hs2) (fun e => HNE.out _ _ _ _ _ _ _ _ _ X2.out hs2 (by simp) rfl e)).trans hs2
            clear ho15 hg15 ha15 hl15
            refine hK.out _ _ (fun _ => (HS.out _ _ _ _ _ _ _ X3.out)) ?_
            clear hK K
            try simp only [Act.put, List.setIfInBounds_toArray]
            clear hs2
            have hs2 := hs2b
            clear hs2b
            refine Nt.nextN (i := 27) (by kernel_rfl) rfl (fun K hK => ?_)
            refine step_append_lies _ rfl (.tmp 99) (.tmp 105) 22 rfl (bw + 1) 9 i0 (.string ⟨#[]⟩) 1 16 Try.underlying22 hi hz0 hz1 hz2 rfl (by decide) (tn k) (tk (L.take j) k).length (strV (tk (L.take j) k)) (by simp [Act.eval]) X3.out.own2 ⟨_, 0, none⟩ 1 1 [.string (mk x.text)] (by simp [Act.eval]) rfl (news1 hs2) (by simp [Value.oneCell']) (by decide) (by unfold maxLen; omega) (by omega) (Nat.le_trans hbwl X3.out.size) _ rfl ?_
            intro g27 c27 W9 ho27 hg27 ha27 hl27
            have X4 := Lib.hid (X3.out.appT (m' := (tk (L.take j) k).length + 1) (ys' := strV ((tk (L.take j) k) ++ [x.text])) (by rw [strV_snoc]; exact ho27) hg27 (fun g hg => by cases hg; exact ha27))
            clear ho27 hg27 ha27 hl27
            refine hK.out _ _ (fun _ => (HS.out _ _ _ _ _ _ _ X4.out)) ?_
            clear hK K
            try simp only [Act.put]
            have hq := HS.out _ _ _ _ _ _ _ X4.out
            obtain ⟨t1, t2, _, _⟩ := hq
            obtain ⟨fz1, fz2⟩ := HF.out _ _ _ _ _ _ _ X4.out
            have HE := Lib.hid (HB4.out.rows hk3 HK.out HNB.out X4.out)
            refine Nt.takeT (i := 28) (v := ?_) rfl (by kernel_rfl) (by kernel_rfl) (by kernel_rfl) (by kernel_rfl) (fun _ _ _ h => h) (Or.inl ⟨by rfl, ?_⟩) (fun _ => (HS.out _ _ _ _ _ _ _ X4.out)) ?_
            rotate_left 1
            · intro w hSw
              clear hSw
              go_simp
              first | done | with_reducible rfl
            try simp only [Act.put]
            refine Nt.takeT (i := 29) (v := ?_) rfl (by kernel_rfl) (by kernel_rfl) (by kernel_rfl) (by kernel_rfl) (fun _ _ _ h => h) (Or.inl ⟨by rfl, ?_⟩) (fun _ => (HS.out _ _ _ _ _ _ _ X4.out)) ?_
            rotate_left 1
            · intro w hSw
              clear hSw
              go_simp
              first | done | with_reducible rfl
            try simp only [Act.put]
            refine Nt.nextN (i := 30) (by kernel_rfl) rfl (fun K hK => ?_)
            go_simp
            refine hK.out _ _ (fun h => by simp at h) ?_
            clear hK K
            try simp only [Act.put, List.setIfInBounds_toArray, List.set_cons_zero, List.set_cons_succ]
            refine Nt.takeT (i := 31) (v := ?_) rfl (by kernel_rfl) (by kernel_rfl) (by kernel_rfl) (by kernel_rfl) (fun _ _ _ h => h) (Or.inl ⟨by rfl, ?_⟩) (fun h => by simp at h) ?_
            rotate_left 1
            · intro w hSw
              clear hSw
              go_simp
              first | done | with_reducible rfl
            try simp only [Act.put, List.setIfInBounds_toArray]
            refine Nt.takeT (i := 32) (v := ?_) rfl (by kernel_rfl) (by kernel_rfl) (by kernel_rfl) (by kernel_rfl) (fun _ _ _ h => h) (Or.inl ⟨by rfl, ?_⟩) (fun h => by simp at h) ?_
            rotate_left 1
            · intro w hSw
              clear hSw
              go_simp
              first | done | with_reducible rfl
            try simp only [Act.put]
            refine Nt.nextN (i := 33) (by kernel_rfl) rfl (fun K hK => ?_)
            go_simp
            refine hK.out _ _ (fun h => by simp at h) ?_
            clear hK K
            try simp only [Act.put, List.setIfInBounds_toArray, List.set_cons_zero, List.set_cons_succ]
            refine Nt.doneN (by kernel_rfl) ?_ _
            refine NoPanic.normal ?_
            go_wp2_with fail
            go_roundw
            case rel => exact ⟨j + 1, put mv k mv', _, _, by go_num, by omega, Lib.hid (by rw [take_snoc3 HX.out]; exact HE.out)⟩
            case measure => simp [intOf]; omega
        · go_simp
          have X1 := Lib.hid (X0.out.alloc (.cells #[.string (mk x.text)] 9))
          have hs2 := heap_alloc_new (w4.drew) (.cells #[.string (mk x.text)] 9)
          refine hK.out _ _ (fun _ => (HS.out _ _ _ _ _ _ _ X1.out)) ?_
          clear hK K
          try simp only [Act.put, List.setIfInBounds_toArray, List.set_cons_zero, List.set_cons_succ]
          refine Nt.nextN (i := 14) (by kernel_rfl) rfl (fun K hK => ?_)
          go_simp
          have X2 := Lib.hid (X1.out.alloc (.cells #[.string (mk x.name)] 9))
          have hs2b := (Below.heap_alloc (w4.drew.alloc (.cells #[.string (mk x.text)] 9)) (.cells #[.string (mk x.name)] 9) _ (lt_some hs2)).trans hs2
          have hs1 := heap_alloc_new ((w4.drew.alloc (.cells #[.string (mk x.text)] 9))) (.cells #[.string (mk x.name)] 9)
          refine hK.out _ _ (fun _ => (HS.out _ _ _ _ _ _ _ X2.out)) ?_
          clear hK K
          try simp only [Act.put, List.setIfInBounds_toArray, List.set_cons_zero, List.set_cons_succ]
          clear hs2
          have hs2 := hs2b
          clear hs2b
          refine Nt.nextN (i := 15) (by kernel_rfl) rfl (fun K hK => ?_)
          refine step_append_lies _ rfl (.tmp 87) (.tmp 93) 22 rfl (bw + 1) 9 i0 (.string ⟨#[]⟩) 1 16 Try.underlying22 hi hz0 hz1 hz2 rfl (by decide) (un k) (nk (L.take j) k).length (strV (nk (L.take j) k)) (by simp [Act.eval]) X2.out.own1 ⟨_, 0, none⟩ 1 1 [.string (mk x.name)] (by simp [Act.eval]) rfl (news1 hs1) (by simp [Value.oneCell']) (by decide) (by unfold maxLen; omega) (by omega) (Nat.le_trans hbwl X2.out.size) _ rfl ?_
          intro g15 c15 W8 ho15 hg15 ha15 hl15
          have X3 := Lib.hid (X2.out.appU (n' := (nk (L.take j) k).length + 1) (xs' := strV ((nk (L.take j) k) ++ [x.name])) (by rw [strV_snoc]; exact ho15) hg15 (fun g hg => by cases hg; exact ha15))
          have hs2b := (hg15.block _ (lt_some hs2) (fun e => HNE.out _ _ _ _ _ _ _ _ _ X2.out hs2 (by simp) rfl e)).trans hs2
          clear ho15 hg15 ha15 hl15
          refine hK.out _ _ (fun _ => (HS.out _ _ _ _ _ _ _ X3.out)) ?_
          clear hK K
          try simp only [Act.put, List.setIfInBounds_toArray]
          clear hs2
          have hs2 := hs2b
          clear hs2b
          refine Nt.nextN (i := 27) (by kernel_rfl) rfl (fun K hK => ?_)
          refine step_append_lies _ rfl (.tmp 99) (.tmp 105) 22 rfl (bw + 1) 9 i0 (.string ⟨#[]⟩) 1 16 Try.underlying22 hi hz0 hz1 hz2 rfl (by decide) (tn k) (tk (L.take j) k).length (strV (tk (L.take j) k)) (by simp [Act.eval]) X3.out.own2 ⟨_, 0, none⟩ 1 1 [.string (mk x.text)] (by simp [Act.eval]) rfl (news1 hs2) (by simp [Value.oneCell']) (by decide) (by unfold maxLen; omega) (by omega) (Nat.le_trans hbwl X3.out.size) _ rfl ?_
          intro g27 c27 W9 ho27 hg27 ha27 hl27
          have X4 := Lib.hid (X3.out.appT (m' := (tk (L.take j) k).length + 1) (ys' := strV ((tk (L.take j) k) ++ [x.text])) (by rw [strV_snoc]; exact ho27) hg27 (fun g hg => by cases hg; exact ha27))
          clear ho27 hg27 ha27 hl27
          refine hK.out _ _ (fun _ => (HS.out _ _ _ _ _ _ _ X4.out)) ?_
          clear hK K
          try simp only [Act.put]
          have hq := HS.out _ _ _ _ _ _ _ X4.out
          obtain ⟨t1, t2, _, _⟩ := hq
          obtain ⟨fz1, fz2⟩ := HF.out _ _ _ _ _ _ _ X4.out
          have HE := Lib.hid (HB4.out.rows hk3 HK.out HNB.out X4.out)
          refine Nt.takeT (i := 28) (v := ?_) rfl (by kernel_rfl) (by kernel_rfl) (by kernel_rfl) (by kernel_rfl) (fun _ _ _ h => h) (Or.inl ⟨by rfl, ?_⟩) (fun _ => (HS.out _ _ _ _ _ _ _ X4.out)) ?_
          rotate_left 1
          · intro w hSw
            clear hSw
            go_simp
            first | done | with_reducible rfl
          try simp only [Act.put]
          refine Nt.takeT (i := 29) (v := ?_) rfl (by kernel_rfl) (by kernel_rfl) (by kernel_rfl) (by kernel_rfl) (fun _ _ _ h => h) (Or.inl ⟨by rfl, ?_⟩) (fun _ => (HS.out _ _ _ _ _ _ _ X4.out)) ?_
          rotate_left 1
          · intro w hSw
            clear hSw
            go_simp
            first | done | with_reducible rfl
          try simp only [Act.put]
          refine Nt.nextN (i := 30) (by kernel_rfl) rfl (fun K hK => ?_)
          go_simp
          refine hK.out _ _ (fun h => by simp at h) ?_
          clear hK K
          try simp only [Act.put, List.setIfInBounds_toArray, List.set_cons_zero, List.set_cons_succ]
          refine Nt.takeT (i := 31) (v := ?_) rfl (by kernel_rfl) (by kernel_rfl) (by kernel_rfl) (by kernel_rfl) (fun _ _ _ h => h) (Or.inl ⟨by rfl, ?_⟩) (fun h => by simp at h) ?_
          rotate_left 1
          · intro w hSw
            clear hSw
            go_simp
            first | done | with_reducible rfl
          try simp only [Act.put, List.setIfInBounds_toArray]
          refine Nt.takeT (i := 32) (v := ?_) rfl (by kernel_rfl) (by kernel_rfl) (by kernel_rfl) (by kernel_rfl) (fun _ _ _ h => h) (Or.inl ⟨by rfl, ?_⟩) (fun h => by simp at h) ?_
          rotate_left 1
          · intro w hSw
            clear hSw
            go_simp
            first | done | with_reducible rfl
          try simp only [Act.put]
          refine Nt.nextN (i := 33) (by kernel_rfl) rfl (fun K hK => ?_)
          go_simp
          refine hK.out _ _ (fun h => by simp at h) ?_
          clear hK K
          try simp only [Act.put, List.setIfInBounds_toArray, List.set_cons_zero, List.set_cons_succ]
          refine Nt.doneN (by kernel_rfl) ?_ _
          refine NoPanic.normal ?_
          go_wp2_with fail
          go_roundw
          case rel => exact ⟨j + 1, put mv k mv', _, _, by go_num, by omega, Lib.hid (by rw [take_snoc3 HX.out]; exact HE.out)⟩
          case measure => simp [intOf]; omega
    · have hji : ¬ (j : Int) < (n : Int) := by omega
      have hall : L.take j = L := List.take_of_length_le (by rw [HN.out]; omega)
      have hb := HB.out
      rw [hall] at hb
      have HB2 := Lib.hid hb
      have hcp := all_cell hb (k := 0) (by omega)
      clear hb hall HB
      go_wp2_with fail
      go_ret3
      exact ⟨ba, bw, p, mv, un, tn, rfl, HB2.out⟩
end Go.Proofs.Ytbohnjiachnadaa.Sc
