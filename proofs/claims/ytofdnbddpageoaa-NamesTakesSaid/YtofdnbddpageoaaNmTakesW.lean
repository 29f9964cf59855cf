/-
  ANY RECORDS, ONE BY ONE: the law NamesTakes, walked.
-/
import Derived.Test.YtofdnbddpageoaaNmCopy
namespace Go.Proofs.Ytofdnbddpageoaa.Nm
open Go.RowKit Go.Maps

theorem look_out {B : Bo} {s : ByteArray} {x : Dp} (hx : lookB B s = some x) : x.out = s := by
  unfold lookB at hx
  cases e : ixOf B.N s with
  | none => rw [e] at hx; cases hx
  | some i =>
    rw [e, Option.bind_some] at hx
    cases e2 : B.F[i]? with
    | none => rw [e2] at hx; cases hx
    | some o =>
      rw [e2] at hx
      cases o with
      | none => cases hx
      | some fd =>
        have hx : some (depOf B.N s fd) = some x := hx
        cases hx
        rfl
def isA (A : List Dp) (s : ByteArray) : Bool := A.any fun x => decide (x.out = s)
theorem is_look {B : Bo} (hl : B.F.length = B.N.length) (hn : B.N.Nodup) (s : ByteArray) : isA (allL B) s = (lookB B s).isSome := by
  have houts := found_nodup hl hn
  have key : ∀ x, x ∈ allL B ↔ lookB B x.out = some x := fun x => (sort_mem houts x).trans (mem_found hl hn x)
  unfold isA
  cases h : lookB B s with
  | none =>
    show _ = false
    rw [List.any_eq_false]
    intro x hx
    have := (key x).1 hx
    simp only [decide_eq_true_eq]
    intro e
    rw [e, h] at this
    cases this
  | some d =>
    show _ = true
    rw [List.any_eq_true]
    have ho := look_out h
    exact ⟨d, (key d).2 (by rw [ho]; exact h), by simpa using ho⟩
theorem is_take {A : List Dp} {s : ByteArray} {j : Nat} {x : Dp} (hx : A[j]? = some x) : isA (A.take (j + 1)) s = (isA (A.take j) s || decide (x.out = s)) := by
  unfold isA
  rw [List.take_add_one, hx]
  simp

theorem TwoB.rb {w0 w : World} {p q : Nat} {B : Bo} (h : TwoB w0 w p q B) : ∃ S2 vN vL G, Rb S2 w q B.N (allL B) vN vL G := by
  obtain ⟨S1, S2, v1, v2, v3, Q, vN, vL, G, h1, h2, _⟩ := h
  exact ⟨S2, vN, vL, G, h2⟩
theorem TwoB.own {w0 w : World} {p q : Nat} {B : Bo} (h : TwoB w0 w p q B) : Own w0.heap.size 0 0 w p B := by
  obtain ⟨S1, S2, v1, v2, v3, Q, vN, vL, G, h1, h2, h3, h4, h5, h6, h7, h8⟩ := h
  exact ⟨S1, v1, v2, v3, Q, h1, fun k hk => ⟨(h5 k hk).1, (h5 k hk).2, .inr (Nat.zero_le _)⟩⟩

set_option maxRecDepth 100000 in
set_option maxHeartbeats 8000000 in
theorem takesW_c {w : World} {v : Value} {rs : List (List Nat)} {s : ByteArray} (h : RecNo w v rs) (hx : ∀ r ∈ rs, ∀ x ∈ r, x < 256) :
    Calls Try.prog 3 #[v, .string s] w fun e w' => e = .returned (.bool true) ∧ Below w.heap.size w w' := by
  have hlight := light_c h.row
  obtain ⟨a, c, rfl, hc, -⟩ := id h
  have HROW := Lib.hid h
  have HX := Lib.hid hx
  clear h hx
  cases hlt : lightB rs with
  | false =>
    rw [hlt] at hlight
    clear hlt
    go_enter Try.func3, Try.ntmps3
    go_wp2_with fail
    refine hlight.mono ?_
    rintro e w1 ⟨rfl, rfl⟩
    go_wp2_with fail
    go_ret
    exact ⟨rfl, Below.refl _ _⟩
  | true =>
  rw [hlt] at hlight
  by_cases hs : s.size ≤ 1000
  rotate_left 1
  · have t0 : (1000 : Int) < (s.size : Int) := by omega
    clear hlt hs
    go_enter Try.func3, Try.ntmps3
    go_wp2_with fail
    refine hlight.mono ?_
    rintro e w1 ⟨rfl, rfl⟩
    go_wp2_with fail
    go_ret
    exact ⟨rfl, Below.refl _ _⟩
  have t0 : decide ((1000 : Int) < (s.size : Int)) = false := decide_eq_false (by omega)
  have hl60 : rs.length ≤ 60 ∧ ∀ r ∈ rs, r.length ≤ 1000 := by
    unfold lightB at hlt
    simp only [Bool.and_eq_true, decide_eq_true_eq, List.all_eq_true] at hlt
    exact hlt
  have HL60 := Lib.hid hl60
  have HSS := Lib.hid hs
  clear hlt hs hl60
  go_enter Try.func3, Try.ntmps3
  go_wp2_with fail
  refine hlight.mono ?_
  rintro e w1 ⟨rfl, rfl⟩
  clear hlight
  have hnew := new_c w
  go_wp2_with fail
  refine hnew.mono ?_
  rintro e w1 ⟨rfl, rfl⟩
  clear hnew
  go_wp2_with fail
  have T0 := Lib.hid (two_new w)
  have z1 : (w.alloc (.cells #[.slice Option.none 0 0, .map Option.none, .slice Option.none 0 0] 69)).heap.size = w.heap.size + 1 := World.size_alloc _ _
  try rw [z1]
  obtain ⟨p, hp⟩ : ∃ p, w.heap.size = p := ⟨_, rfl⟩
  obtain ⟨q, hq⟩ : ∃ q, w.heap.size + 1 = q := ⟨_, rfl⟩
  generalize hW0 : (w.alloc (.cells #[.slice Option.none 0 0, .map Option.none, .slice Option.none 0 0] 69)).alloc (.cells #[.slice Option.none 0 0, .slice Option.none 0 0] 30) = W0 at *
  have T1 : Hid (TwoB w W0 p q ⟨[], []⟩) := by rw [← hp, ← hq]; exact T0
  rw [hq, hp]
  have S0 := Lib.hid sz_nil
  clear hW0 T0 z1 hp hq t0
  go_loopw [4, 7, 8, 9, 10] (fun _ all i _ _ wr => ∃ (j : Nat) (B : Bo), j ≤ rs.length ∧ i = .int .i64 j ∧ all = .bool (takeAll ⟨[], []⟩ (rs.take j)).isSome ∧ Hid (goAll ⟨[], []⟩ (rs.take j) = B) ∧ Hid (TwoB w wr p q B) ∧ Hid (SzB B j)) (fun _ _ i _ _ _ => rs.length - (intOf i).toNat)
  case atStart => exact ⟨0, ⟨[], []⟩, Nat.zero_le _, rfl, rfl, Lib.hid rfl, T1, S0⟩
  case round =>
    obtain ⟨j, B, hj, rfl, rfl, hG, hT, hS⟩ := hrel
    clear T1 S0
    by_cases hlt : j < rs.length
    · have hxj := List.getElem?_eq_getElem hlt
      have hmem := List.getElem_mem hlt
      obtain ⟨_, _, e1, _, hr⟩ := HROW.out
      cases e1
      rcases hr with h0 | ⟨b, off, rfl, hb, hcell⟩
      · rw [h0] at hlt; simp at hlt
      obtain ⟨u, k, xw, hk, hroww, hno⟩ := hcell j _ hxj
      have hr3 := HL60.out.2 _ hmem
      have hxb := HX.out _ hmem
      have htk : rs.take (j + 1) = rs.take j ++ [rs[j]] := by rw [List.take_add_one, hxj]; rfl
      generalize rs[j] = r at *
      have HC : Hid (∀ W, Below w.heap.size w W → W.cell? ⟨b, off + j, Option.none⟩ = some (.slice u r.length k) ∧ Pk.Row W u r) := Lib.hid fun W hW => ⟨(cell_of_block (hW.block b hb)).trans xw, hroww.below hW⟩
      obtain ⟨x0, hrow⟩ := HC.out _ hT.out.bel
      have HTK := Lib.hid htk
      have HNJ : Hid (B.N.length ≤ 60) := Lib.hid (by have := hS.out.n; have := HL60.out.1; omega)
      have hAl : (allL B).length ≤ 60 := Nat.le_trans (allL_len B) (by rw [hS.out.f]; exact HNJ.out)
      have cr := hT.out.ref (l := r) hrow (Lib.hid rfl) hk (by omega) hxb (by have := HNJ.out; omega) (by omega)
      have HALL := Lib.hid (all_snoc ⟨[], []⟩ (rs.take j) r)
      have HGN := Lib.hid (goAll_snoc ⟨[], []⟩ (rs.take j) r)
      have HR3 := Lib.hid hr3
      have HXB := Lib.hid hxb
      have HBELT := Lib.hid hT.out.bel
      have h60 : rs.length ≤ 60 := HL60.out.1
      have hi0 : (0 : Int) ≤ (j : Int) := by omega
      have hi1 : (j : Int) < (rs.length : Int) := by omega
      clear htk hxj hmem hcell hrow hAl hr3 hxb
      go_wp2_with fail
      refine cr.mono ?_
      rintro e w3 ⟨rfl, hM⟩
      have HM := Lib.hid hM
      clear cr hM
      have x3 := (HC.out _ HM.out.bel).1
      have x3a := (HC.out _ (HM.out.bel.alloc HM.out.bel.size (.cells #[] 5))).1
      obtain ⟨a', c', W', hr9, hrow9, hc9, hb9⟩ := run_copyB (HC.out _ HM.out.bel).2 hno hk (by have := HR3.out; omega)
      have ct := (HM.out.below hb9).take (l := r) hrow9 (Lib.hid rfl) hc9 (by have := HR3.out; omega) HXB.out (by have := HNJ.out; omega)
      have HR9 := Lib.hid hr9
      clear hr9 hrow9 hc9 hb9 x0
      have HSN := Lib.hid (sz_step hS.out HR3.out)
      rw [← HTK.out] at HALL HGN
      rw [hG.out] at HALL HGN
      have HFIN : Hid (∀ y, (takeB B r).isSome = y → (takeAll ⟨[], []⟩ (rs.take (j + 1))).isSome = ((takeAll ⟨[], []⟩ (rs.take j)).isSome && y)) := Lib.hid fun y hy => by rw [HALL.out, hy]
      obtain ⟨z, hz⟩ : ∃ z, (takeAll ⟨[], []⟩ (rs.take j)).isSome = z := ⟨_, rfl⟩
      obtain ⟨y, hy⟩ : ∃ y, (takeB B r).isSome = y := ⟨_, rfl⟩
      rw [hz] at HFIN ⊢
      rw [hy] at ct ⊢
      have HAL := Lib.hid (HFIN.out y hy)
      clear hz hy HFIN HALL
      cases z <;> cases y
      all_goals
        go_wp2_with (at_builtin; refine wpList_run rfl (.tmp 45) (.tmp 49) rfl rfl rfl HR9.out ?_)
        refine ct.mono ?_
        rintro e w5 ⟨rfl, hT5⟩
        have cs := hT5.same (sz_all HSN.out hT5.few.2)
        clear ct
        go_wp2_with fail
        refine cs.mono ?_
        rintro e w6 ⟨rfl, hT6⟩
        have HT6 := Lib.hid hT6
        clear cs hT5 hT6
        go_wp2_with fail
        go_roundw
        case rel => exact ⟨j + 1, (takeB B r).getD B, by omega, by go_num, by rw [HAL.out]; rfl, Lib.hid HGN.out, HT6, HSN⟩
        case measure => simp [intOf]; omega
    · obtain rfl : j = rs.length := by omega
      rw [List.take_length] at hG ⊢
      have hrow := (HROW.out.below hT.out.bel).row
      have hsm : ∀ r ∈ rs, r.length ≤ 1000000 ∧ ∀ x ∈ r, x < 256 := fun r hr => ⟨by have := HL60.out.2 r hr; omega, HX.out r hr⟩
      have h60 : rs.length ≤ 900000 := by have := HL60.out.1; omega
      rcases hTA : takeAll ⟨[], []⟩ rs with _ | C
      · have cl := loadNo_c hrow hsm h60 hTA
        clear hrow hsm h60 hTA
        go_wp2_with fail
        refine cl.mono ?_
        rintro e wv ⟨rfl, hb3⟩
        have TV := Lib.hid (hT.out.below hb3)
        clear cl hb3
        go_wp2_with fail
        have cl := look_c (s := s) TV.out.own (by have := HSS.out; omega)
        have cl2 : Calls Try.prog 15 #[.pointer (some ⟨p, 0, Option.none⟩), .string s] wv fun e w' => ∃ (s1 : ByteArray) (t1 : Int) (a1 : Option Addr) (n1 c1 : Nat), e = .returned (.tuple #[.agg #[.string s1, .int .i64 t1, .slice a1 n1 c1], .bool (lookB B s).isSome]) ∧ Below wv.heap.size wv w' ∧ ((lookB B s).isSome = false → s1 = ⟨#[]⟩ ∧ t1 = 0 ∧ a1 = Option.none ∧ n1 = 0 ∧ c1 = 0) := cl.mono fun e w' hq => by
          unfold LoQ at hq
          obtain ⟨hq, hb⟩ := hq
          cases hk : lookB B s with
          | none => rw [hk] at hq; exact ⟨_, _, _, _, _, hq, hb, fun _ => ⟨rfl, rfl, rfl, rfl, rfl⟩⟩
          | some d =>
            rw [hk] at hq
            obtain ⟨a, c, he, -⟩ := hq
            exact ⟨_, _, _, _, _, he, hb, fun h => by cases h⟩
        clear cl
        refine cl2.mono ?_
        rintro e w3 ⟨s1, t1, a1, n1, c1, rfl, hb3, hz⟩
        clear cl2
        obtain ⟨W5, hW5⟩ : ∃ W, w3.alloc (.cells #[.string ⟨#[]⟩, .int .i64 0, .slice Option.none 0 0] 39) = W := ⟨_, rfl⟩
        have z5 : W5.heap[w3.heap.size]? = some (.cells #[.string ⟨#[]⟩, .int .i64 0, .slice Option.none 0 0] 39 (0, 0)) := by rw [← hW5]; exact heap_alloc_new _ _
        have b5 : Below w3.heap.size w3 W5 := by rw [← hW5]; exact Pk.below_alloc _ _
        obtain ⟨⟨y0, y1, y2⟩, f0, f1, f2⟩ := thr_cells z5
        have z6 := thr_same (v0 := .string s1) (v1 := .int .i64 t1) (v2 := .slice a1 n1 c1) z5
        have b6 := thr_below (v0 := .string s1) (v1 := .int .i64 t1) (v2 := .slice a1 n1 c1) b5 (Nat.le_refl _) (Nat.le_refl w3.heap.size)
        have bm6 := hb3.trans (b6.mono hb3.size)
        obtain ⟨W6, hW6⟩ : ∃ W, thr W5 w3.heap.size (.string s1) (.int .i64 t1) (.slice a1 n1 c1) = W := ⟨_, rfl⟩
        rw [hW6] at z6 bm6
        have Z6 := Lib.hid z6
        have T6 := Lib.hid (TV.out.below bm6)
        unfold thr at hW6
        have HZ := Lib.hid hz
        clear hb3 hz z5 b5 b6 bm6 z6
        go_wp2_with fail
        clear hW6 hW5 y0 y1 y2 f0 f1 f2
        obtain ⟨S2, vN, vL, G, hRb⟩ := T6.out.rb
        obtain ⟨ga, gc, rfl⟩ := own_slice hRb.found
        rw [hRb.len] at hRb
        have HRB := Lib.hid hRb
        obtain ⟨-, r1, -, -⟩ := hRb.cells
        clear hRb
        have HIS := Lib.hid (is_look T6.out.few.1.len T6.out.few.2 s)
        have hAl : (allL B).length ≤ 1000000 := by have := HRB.out.fewL; omega
        go_loopw [15, 16] (fun zi i wr => ∃ j : Nat, j ≤ (allL B).length ∧ i = .int .i64 j ∧ zi = .bool (isA ((allL B).take j) s) ∧ W6 = wr) (fun _ i _ => (allL B).length - (intOf i).toNat)
        case atStart => exact ⟨0, Nat.zero_le _, rfl, rfl, rfl⟩
        case round =>
          obtain ⟨j, hj, rfl, rfl, rfl⟩ := hrel
          by_cases hlt : j < (allL B).length
          · have hx := List.getElem?_eq_getElem hlt
            obtain ⟨b2, u2, rfl, E2⟩ := rb_el HRB.out hx
            have x0 := E2.c0
            have hik := is_take (s := s) hx
            generalize (allL B)[j] = x at *
            have HIK := Lib.hid hik
            have hi0 : (0 : Int) ≤ (j : Int) := by omega
            have hi1 : (j : Int) < ((allL B).length : Int) := by omega
            obtain ⟨z, hz⟩ : ∃ z, isA ((allL B).take j) s = z := ⟨_, rfl⟩
            rw [hz] at HIK ⊢
            clear hik hx hz E2
            cases z with
            | true =>
              go_wp2_with fail
              go_roundw
              case rel => exact ⟨j + 1, by omega, by go_num, by rw [HIK.out]; rfl, by simp⟩
              case measure => simp [intOf]; omega
            | false =>
              by_cases he : x.out = s
              · have t1 : (x.out.toList == s.toList) = true := by rw [he]; simp
                have HK : Hid (isA ((allL B).take (j + 1)) s = true) := Lib.hid (by rw [HIK.out]; simp [he])
                clear he HIK
                go_wp2_with fail
                go_roundw
                case rel => exact ⟨j + 1, by omega, by go_num, by rw [HK.out], by simp⟩
                case measure => simp [intOf]; omega
              · have t1 : (x.out.toList == s.toList) = false := Pk.toList_ne he
                have HK : Hid (isA ((allL B).take (j + 1)) s = false) := Lib.hid (by rw [HIK.out]; simp [he])
                clear he HIK
                go_wp2_with fail
                go_roundw
                case rel => exact ⟨j + 1, by omega, by go_num, by rw [HK.out], by simp⟩
                case measure => simp [intOf]; omega
          · obtain rfl : j = (allL B).length := by omega
            rw [List.take_length, HIS.out]
            obtain ⟨k0, hk0⟩ : ∃ k, (lookB B s).isSome = k := ⟨_, rfl⟩
            rw [hk0] at HZ ⊢
            cases k0 with
            | true =>
              have ca := awake_c W6
              go_wp2_with fail
              refine ca.mono ?_
              rintro e w9 ⟨rfl, hb9⟩
              have T9 := Lib.hid (T6.out.below hb9)
              clear ca hb9
              go_wp2_with fail
              go_ret
              exact ⟨rfl, T9.out.bel⟩
            | false =>
              obtain ⟨rfl, rfl, rfl, rfl, rfl⟩ := HZ.out rfl
              obtain ⟨⟨d0, d1, d2⟩, -⟩ := thr_cells Z6.out
              have cf := found_c W6 ⟨#[]⟩ 0 Option.none 0 0
              go_wp2_with fail
              refine cf.mono ?_
              rintro e w7 ⟨rfl, hb7⟩
              have T7 := Lib.hid (T6.out.below hb7)
              have cs := same_c (w := w7) (d := ⟨⟨#[]⟩, 0, []⟩) (va := .slice Option.none 0 0) (vb := .slice Option.none 0 0) ⟨Option.none, 0, rfl, Nat.le_refl _, .inl rfl⟩ ⟨Option.none, 0, rfl, Nat.le_refl _, .inl rfl⟩ (by simp)
              clear cf hb7 d0 d1 d2
              go_wp2_with fail
              refine cs.mono ?_
              rintro e w8 ⟨rfl, hb8⟩
              have T8 := Lib.hid (T7.out.below hb8)
              have ca := awake_c w8
              clear cs hb8
              go_wp2_with fail
              refine ca.mono ?_
              rintro e w9 ⟨rfl, hb9⟩
              have T9 := Lib.hid (T8.out.below hb9)
              clear ca hb9
              go_wp2_with fail
              go_ret
              exact ⟨rfl, T9.out.bel⟩
      · have cl := load_c hrow hsm h60 hTA
        have hBC : B = C := by rw [← hG.out]; exact goAll_all _ _ _ hTA
        subst hBC
        clear hrow hsm h60 hTA
        go_wp2_with fail
        refine cl.mono ?_
        rintro e w3 ⟨q2, rfl, hOc, hb3⟩
        have T3 := Lib.hid (hT.out.below hb3)
        obtain ⟨S2, vN, vL, G, hRb⟩ := T3.out.rb
        have cs := sameB_c hOc T3.out.few.1 T3.out.few.2 hRb (sz_all hS.out T3.out.few.2)
        clear cl hb3 hOc hRb
        go_wp2_with fail
        refine cs.mono ?_
        rintro e wv ⟨rfl, hb4⟩
        have TV := Lib.hid (T3.out.below hb4)
        clear cs hb4 T3
        go_wp2_with fail
        have cl := look_c (s := s) TV.out.own (by have := HSS.out; omega)
        have cl2 : Calls Try.prog 15 #[.pointer (some ⟨p, 0, Option.none⟩), .string s] wv fun e w' => ∃ (s1 : ByteArray) (t1 : Int) (a1 : Option Addr) (n1 c1 : Nat), e = .returned (.tuple #[.agg #[.string s1, .int .i64 t1, .slice a1 n1 c1], .bool (lookB B s).isSome]) ∧ Below wv.heap.size wv w' ∧ ((lookB B s).isSome = false → s1 = ⟨#[]⟩ ∧ t1 = 0 ∧ a1 = Option.none ∧ n1 = 0 ∧ c1 = 0) := cl.mono fun e w' hq => by
          unfold LoQ at hq
          obtain ⟨hq, hb⟩ := hq
          cases hk : lookB B s with
          | none => rw [hk] at hq; exact ⟨_, _, _, _, _, hq, hb, fun _ => ⟨rfl, rfl, rfl, rfl, rfl⟩⟩
          | some d =>
            rw [hk] at hq
            obtain ⟨a, c, he, -⟩ := hq
            exact ⟨_, _, _, _, _, he, hb, fun h => by cases h⟩
        clear cl
        refine cl2.mono ?_
        rintro e w3 ⟨s1, t1, a1, n1, c1, rfl, hb3, hz⟩
        clear cl2
        obtain ⟨W5, hW5⟩ : ∃ W, w3.alloc (.cells #[.string ⟨#[]⟩, .int .i64 0, .slice Option.none 0 0] 39) = W := ⟨_, rfl⟩
        have z5 : W5.heap[w3.heap.size]? = some (.cells #[.string ⟨#[]⟩, .int .i64 0, .slice Option.none 0 0] 39 (0, 0)) := by rw [← hW5]; exact heap_alloc_new _ _
        have b5 : Below w3.heap.size w3 W5 := by rw [← hW5]; exact Pk.below_alloc _ _
        obtain ⟨⟨y0, y1, y2⟩, f0, f1, f2⟩ := thr_cells z5
        have z6 := thr_same (v0 := .string s1) (v1 := .int .i64 t1) (v2 := .slice a1 n1 c1) z5
        have b6 := thr_below (v0 := .string s1) (v1 := .int .i64 t1) (v2 := .slice a1 n1 c1) b5 (Nat.le_refl _) (Nat.le_refl w3.heap.size)
        have bm6 := hb3.trans (b6.mono hb3.size)
        obtain ⟨W6, hW6⟩ : ∃ W, thr W5 w3.heap.size (.string s1) (.int .i64 t1) (.slice a1 n1 c1) = W := ⟨_, rfl⟩
        rw [hW6] at z6 bm6
        have Z6 := Lib.hid z6
        have T6 := Lib.hid (TV.out.below bm6)
        unfold thr at hW6
        have HZ := Lib.hid hz
        clear hb3 hz z5 b5 b6 bm6 z6
        go_wp2_with fail
        clear hW6 hW5 y0 y1 y2 f0 f1 f2
        obtain ⟨S2, vN, vL, G, hRb⟩ := T6.out.rb
        obtain ⟨ga, gc, rfl⟩ := own_slice hRb.found
        rw [hRb.len] at hRb
        have HRB := Lib.hid hRb
        obtain ⟨-, r1, -, -⟩ := hRb.cells
        clear hRb
        have HIS := Lib.hid (is_look T6.out.few.1.len T6.out.few.2 s)
        have hAl : (allL B).length ≤ 1000000 := by have := HRB.out.fewL; omega
        go_loopw [15, 16] (fun zi i wr => ∃ j : Nat, j ≤ (allL B).length ∧ i = .int .i64 j ∧ zi = .bool (isA ((allL B).take j) s) ∧ W6 = wr) (fun _ i _ => (allL B).length - (intOf i).toNat)
        case atStart => exact ⟨0, Nat.zero_le _, rfl, rfl, rfl⟩
        case round =>
          obtain ⟨j, hj, rfl, rfl, rfl⟩ := hrel
          by_cases hlt : j < (allL B).length
          · have hx := List.getElem?_eq_getElem hlt
            obtain ⟨b2, u2, rfl, E2⟩ := rb_el HRB.out hx
            have x0 := E2.c0
            have hik := is_take (s := s) hx
            generalize (allL B)[j] = x at *
            have HIK := Lib.hid hik
            have hi0 : (0 : Int) ≤ (j : Int) := by omega
            have hi1 : (j : Int) < ((allL B).length : Int) := by omega
            obtain ⟨z, hz⟩ : ∃ z, isA ((allL B).take j) s = z := ⟨_, rfl⟩
            rw [hz] at HIK ⊢
            clear hik hx hz E2
            cases z with
            | true =>
              go_wp2_with fail
              go_roundw
              case rel => exact ⟨j + 1, by omega, by go_num, by rw [HIK.out]; rfl, by simp⟩
              case measure => simp [intOf]; omega
            | false =>
              by_cases he : x.out = s
              · have t1 : (x.out.toList == s.toList) = true := by rw [he]; simp
                have HK : Hid (isA ((allL B).take (j + 1)) s = true) := Lib.hid (by rw [HIK.out]; simp [he])
                clear he HIK
                go_wp2_with fail
                go_roundw
                case rel => exact ⟨j + 1, by omega, by go_num, by rw [HK.out], by simp⟩
                case measure => simp [intOf]; omega
              · have t1 : (x.out.toList == s.toList) = false := Pk.toList_ne he
                have HK : Hid (isA ((allL B).take (j + 1)) s = false) := Lib.hid (by rw [HIK.out]; simp [he])
                clear he HIK
                go_wp2_with fail
                go_roundw
                case rel => exact ⟨j + 1, by omega, by go_num, by rw [HK.out], by simp⟩
                case measure => simp [intOf]; omega
          · obtain rfl : j = (allL B).length := by omega
            rw [List.take_length, HIS.out]
            obtain ⟨k0, hk0⟩ : ∃ k, (lookB B s).isSome = k := ⟨_, rfl⟩
            rw [hk0] at HZ ⊢
            cases k0 with
            | true =>
              have ca := awake_c W6
              go_wp2_with fail
              refine ca.mono ?_
              rintro e w9 ⟨rfl, hb9⟩
              have T9 := Lib.hid (T6.out.below hb9)
              clear ca hb9
              go_wp2_with fail
              go_ret
              exact ⟨rfl, T9.out.bel⟩
            | false =>
              obtain ⟨rfl, rfl, rfl, rfl, rfl⟩ := HZ.out rfl
              obtain ⟨⟨d0, d1, d2⟩, -⟩ := thr_cells Z6.out
              have cf := found_c W6 ⟨#[]⟩ 0 Option.none 0 0
              go_wp2_with fail
              refine cf.mono ?_
              rintro e w7 ⟨rfl, hb7⟩
              have T7 := Lib.hid (T6.out.below hb7)
              have cs := same_c (w := w7) (d := ⟨⟨#[]⟩, 0, []⟩) (va := .slice Option.none 0 0) (vb := .slice Option.none 0 0) ⟨Option.none, 0, rfl, Nat.le_refl _, .inl rfl⟩ ⟨Option.none, 0, rfl, Nat.le_refl _, .inl rfl⟩ (by simp)
              clear cf hb7 d0 d1 d2
              go_wp2_with fail
              refine cs.mono ?_
              rintro e w8 ⟨rfl, hb8⟩
              have T8 := Lib.hid (T7.out.below hb8)
              have ca := awake_c w8
              clear cs hb8
              go_wp2_with fail
              refine ca.mono ?_
              rintro e w9 ⟨rfl, hb9⟩
              have T9 := Lib.hid (T8.out.below hb9)
              clear ca hb9
              go_wp2_with fail
              go_ret
              exact ⟨rfl, T9.out.bel⟩
end Go.Proofs.Ytofdnbddpageoaa.Nm
