/-
  THE KITCHEN: made.
-/
import Derived.Test.YtgledabcfonbeaaGreatDoorCkJ6
import Derived.BigRegion
namespace Go.Proofs.YtgledabcfonbeaaGreatDoor.Df
open Go.RowKit Go.Maps Go.Proofs.YtgledabcfonbeaaGreatDoor

abbrev Fl := Bs × Bs
/-- a file's two cells, by value -/
def fileV (x : Fl) (u : Value) : Value := .agg #[.string (mk x.1), u]
/-- a row of files; U are their bytes' slices -/
def Fls (w : World) (v : Value) (L : List Fl) (U : List Value) : Prop :=
  (∀ u ∈ U, ∃ a n c, u = .slice a n c) ∧ ∃ a c, v = .slice a L.length c ∧ L.length ≤ c ∧ (L = [] ∨ ∃ g off, a = some ⟨g, off, none⟩ ∧ g < w.heap.size ∧
    ∀ (j : Nat) x, L[j]? = some x → ∃ u, U[j]? = some u ∧ w.cell? ⟨g, off + j * 2, none⟩ = some (.string (mk x.1)) ∧ w.cell? ⟨g, off + j * 2 + 1, none⟩ = some u ∧ Byt w u x.2)
theorem Fls.below {w w' : World} {v : Value} {L : List Fl} {U : List Value} (h : Fls w v L U) (hb : Below w.heap.size w w') : Fls w' v L U := by
  obtain ⟨hU, a, c, e, hc, h⟩ := h
  refine ⟨hU, a, c, e, hc, ?_⟩
  rcases h with h | ⟨g, off, e, hg, hcell⟩
  · exact .inl h
  · refine .inr ⟨g, off, e, Nat.lt_of_lt_of_le hg hb.size, fun j x hx => ?_⟩
    obtain ⟨u, h1, h2, h3, h4⟩ := hcell j x hx
    exact ⟨u, h1, (cell_of_block (hb.block g hg)).trans h2, (cell_of_block (hb.block g hg)).trans h3, h4.below hb⟩

/-- the first file of each name, of pairs of a file and its bytes' slice -/
def putF (f : Bs → Option Value) (p : Fl × Value) : Bs → Option Value := if (f p.1.1).isSome then f else upd f p.1.1 (some (fileV p.1 p.2))
def fmap (P : List (Fl × Value)) : Bs → Option Value := P.foldl putF (fun _ => none)
theorem fmap_snoc (P : List (Fl × Value)) (p : Fl × Value) : fmap (P ++ [p]) = putF (fmap P) p := by simp [fmap]
theorem fmap_find : ∀ (n : Nat) (P : List (Fl × Value)), P.length = n → ∀ s, fmap P s = (P.find? (fun p => decide (p.1.1 = s))).map (fun p => fileV p.1 p.2) := by
  intro n
  induction n with
  | zero => intro P h s; obtain rfl : P = [] := List.eq_nil_of_length_eq_zero h; rfl
  | succ n ih =>
    intro P h s
    rcases List.eq_nil_or_concat P with rfl | ⟨K, p, rfl⟩
    · simp at h
    · rw [List.concat_eq_append] at h ⊢
      have h1 := ih K (by simp at h; exact h)
      rw [fmap_snoc, List.find?_append]
      unfold putF
      split
      · rename_i hs
        rw [h1 s]
        cases hf : K.find? (fun p => decide (p.1.1 = s)) with
        | some q => rfl
        | none =>
          by_cases hps : p.1.1 = s
          · rw [hps, h1 s, hf] at hs
            cases hs
          · simp [hps]
      · rename_i hs
        rw [h1] at hs
        by_cases hps : s = p.1.1
        · subst hps
          cases hf : K.find? (fun q => decide (q.1.1 = p.1.1)) with
          | some q => rw [hf] at hs; exact absurd rfl hs
          | none => simp [upd]
        · have hps2 : ¬ p.1.1 = s := fun e => hps e.symm
          rw [upd, if_neg hps, h1 s]
          simp [hps2]
/-- the values that may be in the map -/
def valsF (L : List Fl) (U : List Value) : List Value := zFile :: (L.zip U).map (fun p => fileV p.1 p.2)
theorem zip_at {L : List Fl} {U : List Value} {j : Nat} {x : Fl} {u : Value} (h1 : L[j]? = some x) (h2 : U[j]? = some u) : (L.zip U)[j]? = some (x, u) := by
  rw [List.getElem?_zip_eq_some]
  exact ⟨h1, h2⟩

/-- the kitchen's five cells -/
def KtO (m0 m1 : Nat) (n : Int) (fv : Value) (m2 : Nat) : Obj := .cells #[.map (some m0), .map (some m1), .int .i64 n, fv, .map (some m2)] 84 (0, 0)

/-- what newKitchen makes -/
def KiQ (w : World) (decl : List Bs) (L : List Fl) (U : List Value) (e : Ending) (w' : World) : Prop :=
  ∃ k m0 m1 m2 n1, e = .returned (.pointer (some ⟨k, 0, none⟩)) ∧ w'.heap[k]? = some (KtO m0 m1 0 (.slice none 0 0) m2) ∧ Si w' decl.length m0 (fun l => decl.contains l) ∧ n1 ≤ L.length ∧ Vi w' n1 m1 (valsF L U) (fmap (L.zip U)) ∧ Si w' 0 m2 (fun _ => false) ∧
    w.heap.size ≤ k ∧ w.heap.size ≤ m0 ∧ w.heap.size ≤ m1 ∧ w.heap.size ≤ m2 ∧ k ≠ m0 ∧ k ≠ m1 ∧ k ≠ m2 ∧ m0 ≠ m1 ∧ m0 ≠ m2 ∧ m1 ≠ m2 ∧ Below w.heap.size w w'

theorem vals_agg {L : List Fl} {U : List Value} (hU : ∀ u ∈ U, ∃ a n c, u = .slice a n c) {u : Value} (h : u ∈ valsF L U) : ∃ s a n c, u = .agg #[.string s, .slice a n c] := by
  unfold valsF at h
  rcases List.mem_cons.1 h with rfl | h
  · exact ⟨_, _, _, _, rfl⟩
  · obtain ⟨p, hp, rfl⟩ := List.mem_map.1 h
    obtain ⟨a, n, c, e⟩ := hU p.2 (List.of_mem_zip hp).2
    exact ⟨_, a, n, c, by unfold fileV; rw [e]⟩
/-- every value in the map is one of T -/
def InT (T : List Value) (P : List (Fl × Value)) : Prop := ∀ s v, fmap P s = some v → v ∈ T
theorem inT_nil (T : List Value) : InT T [] := fun s v h => by cases h
theorem inT_snoc {T : List Value} {P : List (Fl × Value)} {p : Fl × Value} (h : InT T P) (hp : fileV p.1 p.2 ∈ T) : InT T (P ++ [p]) := fun s v hv => by
  rw [fmap_snoc] at hv
  unfold putF at hv
  split at hv
  · exact h s v hv
  · unfold upd at hv
    split at hv
    · cases hv; exact hp
    · exact h s v hv

/-- the kitchen while it is made: its maps lie at b, b+1, b+2, it at b+3 -/
def KS (b : Nat) (W : World) (D : List Bs) (n0 : Nat) (T : List Value) (P : List (Fl × Value)) (n1 : Nat) : Prop :=
  W.heap[b + 3]? = some (KtO b (b + 1) 0 (.slice none 0 0) (b + 2)) ∧ Si W n0 b (fun l => D.contains l) ∧ Vi W n1 (b + 1) T (fmap P) ∧ Si W 0 (b + 2) (fun _ => false) ∧ InT T P
theorem KS.below {b n0 n1 : Nat} {W W' : World} {D : List Bs} {T : List Value} {P : List (Fl × Value)} (h : KS b W D n0 T P n1) (hb : Below W.heap.size W W') : KS b W' D n0 T P n1 := by
  obtain ⟨h1, h2, h3, h4, h5⟩ := h
  exact ⟨(hb.block _ (lt_some h1)).trans h1, h2.kept (hb.block _ h2.lt), h3.kept (hb.block _ h3.lt), h4.kept (hb.block _ h4.lt), h5⟩
theorem bel_draw (w : World) : Below w.heap.size w w.drew := ⟨rfl, rfl, rfl, Nat.le_refl _, fun _ _ => rfl⟩
theorem has_one (D : List Bs) (x : Bs) : upd (fun l => D.contains l) x true = fun l => (D ++ [x]).contains l := by
  funext l
  unfold upd
  by_cases h : l = x
  · subst h; simp
  · rw [if_neg h]; simp [h]
theorem KS.set {b n0 n1 : Nat} {W : World} {D : List Bs} {T : List Value} {P : List (Fl × Value)} (h : KS b W D n0 T P n1) (hn : n0 < maxLen) {s : Bs} (hl : s.length ≤ maxLen) :
    ∃ W', (Instr.mapUpdate 81 (.map (some b)) (.string (mk s)) (.agg #[])).run Tryz.prog W = .ok () W' ∧ KS b W' (D ++ [s]) (n0 + 1) T P n1 ∧ W.grownBy W' (some b) := by
  obtain ⟨h1, h2, h3, h4, h5⟩ := h
  obtain ⟨W', hr, h2', hg, _⟩ := h2.put hn hl
  rw [has_one] at h2'
  have ne : ∀ q, q ≠ b → some q ≠ some b := fun q hq e => hq (Option.some.inj e)
  exact ⟨W', hr, ⟨(hg.block _ (lt_some h1) (ne _ (by omega))).trans h1, h2', h3.kept (hg.block _ h3.lt (ne _ (by omega))), h4.kept (hg.block _ h4.lt (ne _ (by omega))), h5⟩, hg⟩
theorem KS.file {b n0 n1 : Nat} {W : World} {D : List Bs} {T : List Value} {P : List (Fl × Value)} (h : KS b W D n0 T P n1) (hn : n1 < maxLen) {p : Fl × Value} (hl : p.1.1.length ≤ maxLen) (hT : fileV p.1 p.2 ∈ T) (hno : fmap P p.1.1 = none) :
    ∃ W', (Instr.mapUpdate 82 (.map (some (b + 1))) (.string (mk p.1.1)) (fileV p.1 p.2)).run Tryz.prog W = .ok () W' ∧ KS b W' D n0 T (P ++ [p]) (n1 + 1) ∧ W.grownBy W' (some (b + 1)) := by
  obtain ⟨h1, h2, h3, h4, h5⟩ := h
  obtain ⟨W', hr, h3', hg⟩ := h3.put hn hl hT
  have e : upd (fmap P) p.1.1 (some (fileV p.1 p.2)) = fmap (P ++ [p]) := by
    rw [fmap_snoc]
    unfold putF
    rw [if_neg (by rw [hno]; simp)]
  rw [e] at h3'
  have ne : ∀ q, q ≠ b + 1 → some q ≠ some (b + 1) := fun q hq e => hq (Option.some.inj e)
  exact ⟨W', hr, ⟨(hg.block _ (lt_some h1) (ne _ (by omega))).trans h1, h2.kept (hg.block _ h2.lt (ne _ (by omega))), h3', h4.kept (hg.block _ h4.lt (ne _ (by omega))), inT_snoc h5 hT⟩, hg⟩
theorem grown_at {w W W' : World} {q : Nat} (hB : Below w.heap.size w W) (hg : W.grownBy W' (some q)) (hlo : w.heap.size ≤ q) : Below w.heap.size w W' :=
  hB.trans ⟨hg.os, hg.tape, hg.output, hg.size, fun k hk => hg.block k (by have := hB.size; omega) (fun e => by have := Option.some.inj e; omega)⟩

set_option maxRecDepth 100000 in
set_option maxHeartbeats 8000000 in
theorem newKitchen_c {w : World} {dv fv : Value} {decl : List Bs} {L : List Fl} {U : List Value} (hd : Strs w dv decl) (hf : Fls w fv L U) (hdl : decl.length ≤ 1000000) (hdx : ∀ x ∈ decl, x.length ≤ 9223372036854775807) (hfl : L.length ≤ 1000000) (hfx : ∀ x ∈ L, x.1.length ≤ 1000000) :
    Calls Tryz.prog 23 #[dv, fv] w (KiQ w decl L U) := by
  have hmk := @run_makeMap Tryz.prog
  have HD := Lib.hid hd
  have HF := Lib.hid hf
  have HDX := Lib.hid hdx
  have HFX := Lib.hid hfx
  obtain ⟨da, dc, rfl, -, -⟩ := hd
  obtain ⟨hU, fa, fc, rfl, -, -⟩ := hf
  have HU := Lib.hid hU
  obtain ⟨b, hb⟩ : ∃ b, w.heap.size = b := ⟨_, rfl⟩
  obtain ⟨w1, hw1⟩ : ∃ W, w.alloc (.map #[] 0) = W := ⟨_, rfl⟩
  obtain ⟨w2, hw2⟩ : ∃ W, w1.alloc (.map #[] 0) = W := ⟨_, rfl⟩
  obtain ⟨w3, hw3⟩ : ∃ W, w2.alloc (.map #[] 0) = W := ⟨_, rfl⟩
  obtain ⟨w4, hw4⟩ : ∃ W, w3.alloc (.cells #[.map (some b), .map (some (b + 1)), .int .i64 0, .slice none 0 0, .map (some (b + 2))] 84) = W := ⟨_, rfl⟩
  have s1 : w1.heap.size = b + 1 := by rw [← hw1, World.size_alloc, hb]
  have s2 : w2.heap.size = b + 2 := by rw [← hw2, World.size_alloc, s1]
  have s3 : w3.heap.size = b + 3 := by rw [← hw3, World.size_alloc, s2]
  have b1 : Below w.heap.size w w1 := by rw [← hw1]; exact below_alloc _ _
  have b2 : Below w1.heap.size w1 w2 := by rw [← hw2]; exact below_alloc _ _
  have b3 : Below w2.heap.size w2 w3 := by rw [← hw3]; exact below_alloc _ _
  have b4 : Below w3.heap.size w3 w4 := by rw [← hw4]; exact below_alloc _ _
  have m0 : Si w1 0 b (fun _ => false) := by rw [← hw1, ← hb]; exact Si.made w
  have m1 : Vi w2 0 (b + 1) (valsF L U) (fun _ => none) := by rw [← hw2, ← s1]; exact Vi.made w1 _
  have m2 : Si w3 0 (b + 2) (fun _ => false) := by rw [← hw3, ← s2]; exact Si.made w2
  have hk : w4.heap[b + 3]? = some (KtO b (b + 1) 0 (.slice none 0 0) (b + 2)) := by rw [← hw4, ← s3]; exact heap_alloc_new _ _
  have k2 := m1.kept (b3.block _ m1.lt)
  have k0 := ((m0.kept (b2.block _ m0.lt)).kept (b3.block _ (by rw [s2]; omega))).kept (b4.block _ (by rw [s3]; omega))
  have K4 : Hid (KS b w4 (decl.take 0) 0 (valsF L U) ((L.zip U).take 0) 0) := Lib.hid ⟨hk, by rw [List.take_zero]; exact k0, k2.kept (b4.block _ (by rw [s3]; omega)), m2.kept (b4.block _ (by rw [s3]; omega)), inT_nil _⟩
  have HB4 : Hid (Below w.heap.size w w4) := Lib.hid (((b1.trans (b2.mono b1.size)).trans (b3.mono (by have := b1.size; have := b2.size; omega))).trans (b4.mono (by have := b1.size; have := b2.size; have := b3.size; omega)))
  have HSB : Hid (w.heap.size = b) := Lib.hid hb
  clear hdx hfx hU b1 b2 b3 b4 m0 m1 m2 hk k2 k0
  go_enter Tryz.func23, Tryz.ntmps23
  go_wp2_with fail
  clear hb s1 s2 s3 hw1 hw2 hw3 hw4
  go_loopw [7, 19] (fun _ i wr => ∃ (j : Nat), j ≤ decl.length ∧ i = .int .i64 j ∧ Hid (KS b wr (decl.take j) j (valsF L U) ((L.zip U).take 0) 0) ∧ Hid (Below w.heap.size w wr)) (fun _ i _ => decl.length - (intOf i).toNat)
  case atStart => exact ⟨0, Nat.zero_le _, rfl, K4, HB4⟩
  case round =>
    obtain ⟨j, hj, rfl, hS, hB⟩ := hrel
    clear K4
    by_cases hlt : j < decl.length
    · have hxj := List.getElem?_eq_getElem hlt
      have hxl := HDX.out _ (List.getElem_mem hlt)
      obtain ⟨_, _, e, _, hrow⟩ := HD.out.below hB.out
      cases e
      rcases hrow with h0 | ⟨g, off, rfl, hg, hcell⟩
      · rw [h0] at hlt; simp at hlt
      have c0 := hcell j _ hxj
      have htk : decl.take (j + 1) = decl.take j ++ [decl[j]] := by rw [List.take_add_one, hxj]; rfl
      generalize decl[j] = x at *
      obtain ⟨W2, hput, hS2, hg2⟩ := hS.out.set (by unfold maxLen; omega) (s := x) (by unfold maxLen; omega)
      rw [← htk] at hS2
      have HS2 := Lib.hid hS2
      have HB2 := Lib.hid (grown_at hB.out hg2 (Nat.le_of_eq HSB.out))
      have ck : wr.cell? ⟨b + 3, 0, none⟩ = some (.map (some b)) := by have := hS.out.1; simp [World.cell?, this, KtO]
      have hi0 : (0 : Int) ≤ (j : Int) := by omega
      have hi1 : (j : Int) < (decl.length : Int) := by omega
      clear hcell hxj htk hS2 hg2
      go_wp2_with fail
      go_roundw
      case rel => exact ⟨j + 1, by omega, by go_num, HS2, HB2⟩
      case measure => simp [intOf] <;> omega
    · obtain rfl : j = decl.length := by omega
      rw [List.take_length] at hS
      have K5 := hS
      have HB5 := hB
      clear hS hB hlt hj
      go_wp2_with fail
      go_loopw [9, 10, 11, 32] (fun _ _ _ i wr => ∃ (j n1 : Nat), j ≤ L.length ∧ n1 ≤ j ∧ i = .int .i64 j ∧ Hid (∃ P, KS b wr decl decl.length (valsF L U) P n1 ∧ fmap P = fmap ((L.zip U).take j)) ∧ Hid (Below w.heap.size w wr)) (fun _ _ _ i _ => L.length - (intOf i).toNat)
      case atStart => exact ⟨0, 0, Nat.zero_le _, Nat.le_refl _, rfl, Lib.hid ⟨_, K5.out, rfl⟩, HB5⟩
      case round =>
        obtain ⟨j, n1, hj, hn1, rfl, hS, hB⟩ := hrel
        clear K5
        by_cases hlt : j < L.length
        · have hxj := List.getElem?_eq_getElem hlt
          have hxl := HFX.out _ (List.getElem_mem hlt)
          obtain ⟨-, _, _, e, _, hrow⟩ := HF.out.below hB.out
          cases e
          rcases hrow with h0 | ⟨g, off, rfl, hg, hcell⟩
          · rw [h0] at hlt; simp at hlt
          obtain ⟨u, hu, c0, c1, hby⟩ := hcell j _ hxj
          obtain ⟨ua, ul, uc, rfl⟩ : ∃ ua ul uc, u = .slice ua ul uc := by obtain ⟨ua, uc, e, _⟩ := hby; exact ⟨ua, _, uc, e⟩
          obtain ⟨u, hus⟩ : ∃ u, Value.slice ua ul uc = u := ⟨_, rfl⟩
          rw [hus] at hu c1
          have HUS := Lib.hid hus
          clear hby
          have hz := zip_at hxj hu
          have htk : (L.zip U).take (j + 1) = (L.zip U).take j ++ [(L[j], u)] := by rw [List.take_add_one, hz]; rfl
          have hmem : fileV L[j] u ∈ valsF L U := List.mem_cons_of_mem _ (List.mem_map.2 ⟨_, List.mem_of_getElem? hz, rfl⟩)
          generalize L[j] = x at *
          obtain ⟨P, hK, hP⟩ := hS.out
          have hfm : fmap ((L.zip U).take (j + 1)) = putF (fmap P) (x, u) := by rw [htk, fmap_snoc, hP]
          obtain ⟨w6, hw6⟩ : ∃ W, wr.alloc (.cells #[.string (mk x.1), u] 52) = W := ⟨_, rfl⟩
          have hb6 : Below wr.heap.size wr w6 := by rw [← hw6]; exact below_alloc _ _
          have K6 := hK.below hb6
          have hbx : w6.heap[wr.heap.size]? = some (.cells #[.string (mk x.1), u] 52 (0, 0)) := by rw [← hw6]; exact heap_alloc_new _ _
          have ck : w6.cell? ⟨b + 3, 1, none⟩ = some (.map (some (b + 1))) := by have := K6.1; simp [World.cell?, this, KtO]
          have f0 : w6.cell? ⟨wr.heap.size, 0, none⟩ = some (.string (mk x.1)) := by simp [World.cell?, hbx]
          have f1 : w6.cell? ⟨wr.heap.size, 1, none⟩ = some u := by simp [World.cell?, hbx]
          have HB6 := Lib.hid (hB.out.trans (hb6.mono hB.out.size))
          have HQ := Lib.hid hbx
          have hi0 : (0 : Int) ≤ (j : Int) := by omega
          have hi1 : (j : Int) < (L.length : Int) := by omega
          have hzf : zFile ∈ valsF L U := List.mem_cons_self
          subst hus
          cases hf : fmap P x.1 with
          | some v =>
            have hT := K6.2.2.2.2 _ _ hf
            obtain ⟨s0, ya, yn, yc, rfl⟩ := vals_agg HU.out hT
            have hl : ∀ W, Below w6.heap.size w6 W → (Instr.lookup 82 (.map (some (b + 1))) (.string (mk x.1)) true).run Tryz.prog W = .ok (.tuple #[.agg #[.string s0, .slice ya yn yc], .bool true]) W := fun W hW => (K6.below hW).2.2.1.look hzf (by unfold maxLen; omega) hf
            have l1 := hl w6.drew (bel_draw w6)
            have l2 := fun o => hl (w6.alloc o).drew ((below_alloc w6 o).trans ((bel_draw _).mono (below_alloc w6 o).size))
            have f0a : ∀ o, (w6.alloc o).drew.cell? ⟨wr.heap.size, 0, none⟩ = some (.string (mk x.1)) := fun o => (cell_of_block ((below_alloc w6 o).block _ (lt_some hbx))).trans f0
            have f1a : ∀ o, (w6.alloc o).drew.cell? ⟨wr.heap.size, 1, none⟩ = some (.slice ua ul uc) := fun o => (cell_of_block ((below_alloc w6 o).block _ (lt_some hbx))).trans f1
            have cka : ∀ o, (w6.alloc o).drew.cell? ⟨b + 3, 1, none⟩ = some (.map (some (b + 1))) := fun o => (cell_of_block ((below_alloc w6 o).block _ (lt_some K6.1))).trans ck
            have hb7 : Below w6.heap.size w6 ((w6.alloc (.cells #[.string s0, .slice ya yn yc] 52)).drew) := ⟨rfl, rfl, rfl, by simp, fun k hk => (below_alloc w6 _).block k hk⟩
            have HS7 : Hid (∃ P, KS b (w6.alloc (.cells #[.string s0, .slice ya yn yc] 52)).drew decl decl.length (valsF L U) P n1 ∧ fmap P = fmap ((L.zip U).take (j + 1))) := Lib.hid ⟨P, K6.below hb7, by rw [hfm, putF, if_pos (by rw [hf]; rfl)]⟩
            have HB7 := Lib.hid (HB6.out.trans (hb7.mono HB6.out.size))
            clear hcell hxj hu hz htk hmem hK hP hfm hb6 K6 hbx hf hb7 hzf hl hT
            go_wp2_with fail
            go_region
            go_wp2_with fail
            go_roundw
            case rel => exact ⟨j + 1, n1, by omega, by omega, by go_num, HS7, HB7⟩
            case measure => simp [intOf] <;> omega
          | none =>
            have hl : ∀ W, Below w6.heap.size w6 W → (Instr.lookup 82 (.map (some (b + 1))) (.string (mk x.1)) true).run Tryz.prog W = .ok (.tuple #[.agg #[.string ⟨#[]⟩, .slice none 0 0], .bool false]) W := fun W hW => (K6.below hW).2.2.1.miss hzf (by unfold maxLen; omega) hf
            have l1 := hl w6.drew (bel_draw w6)
            have l2 := fun o => hl (w6.alloc o).drew ((below_alloc w6 o).trans ((bel_draw _).mono (below_alloc w6 o).size))
            have hold : ∀ W, Below w6.heap.size w6 W → W.cell? ⟨wr.heap.size, 0, none⟩ = some (.string (mk x.1)) ∧ W.cell? ⟨wr.heap.size, 1, none⟩ = some (.slice ua ul uc) ∧ W.cell? ⟨b + 3, 1, none⟩ = some (.map (some (b + 1))) := fun W hW =>
              ⟨(cell_of_block (hW.block _ (lt_some hbx))).trans f0, (cell_of_block (hW.block _ (lt_some hbx))).trans f1, (cell_of_block (hW.block _ (lt_some K6.1))).trans ck⟩
            have f0a : ∀ o, (w6.alloc o).drew.cell? ⟨wr.heap.size, 0, none⟩ = some (.string (mk x.1)) := fun o => (cell_of_block ((below_alloc w6 o).block _ (lt_some hbx))).trans f0
            have f1a : ∀ o, (w6.alloc o).drew.cell? ⟨wr.heap.size, 1, none⟩ = some (.slice ua ul uc) := fun o => (cell_of_block ((below_alloc w6 o).block _ (lt_some hbx))).trans f1
            have cka : ∀ o, (w6.alloc o).drew.cell? ⟨b + 3, 1, none⟩ = some (.map (some (b + 1))) := fun o => (cell_of_block ((below_alloc w6 o).block _ (lt_some K6.1))).trans ck
            have hb7 : Below w6.heap.size w6 ((w6.alloc (.cells #[.string ⟨#[]⟩, .slice none 0 0] 52)).drew) := ⟨rfl, rfl, rfl, by simp, fun k hk => (below_alloc w6 _).block k hk⟩
            obtain ⟨w7, hw7⟩ : ∃ W, (w6.alloc (.cells #[.string ⟨#[]⟩, .slice none 0 0] 52)).drew = W := ⟨_, rfl⟩
            rw [hw7] at hb7
            have hb8 := hb7.trans ((bel_draw w7).mono hb7.size)
            obtain ⟨W9, hput, hS9, hg9⟩ := (K6.below hb8).file (p := (x, .slice ua ul uc)) (by unfold maxLen; omega) (by unfold maxLen; simp; omega) hmem hf
            have hput2 : (Instr.mapUpdate 82 (.map (some (b + 1))) (.string (mk x.1)) (.agg #[.string (mk x.1), .slice ua ul uc])).run Tryz.prog w7.drew = .ok () W9 := hput
            obtain ⟨g0, g1, gk⟩ := hold _ hb8
            obtain ⟨e0, e1, ek⟩ := hold _ hb7
            have HS9 : Hid (∃ P, KS b W9 decl decl.length (valsF L U) P (n1 + 1) ∧ fmap P = fmap ((L.zip U).take (j + 1))) := Lib.hid ⟨_, hS9, by rw [fmap_snoc, hfm]⟩
            have HB8 := HB6.out.trans (hb8.mono HB6.out.size)
            have HB9 := Lib.hid (grown_at HB8 hg9 (by have := HSB.out; omega))
            have HW7 := Lib.hid hw7
            clear hcell hxj hu hz htk hmem hK hP hfm hb6 K6 hbx hf hb7 hb8 hzf hl hold hput hS9 hg9 HB8 hw7
            go_wp2_with fail
            go_region
            go_wp2_with fail
            rw [HW7.out]
            go_region
            go_wp2_with fail
            go_roundw
            case rel => exact ⟨j + 1, n1 + 1, by omega, by omega, by go_num, HS9, HB9⟩
            case measure => simp [intOf] <;> omega
        · obtain rfl : j = L.length := by omega
          obtain ⟨P, hK, hP⟩ := hS.out
          have HSF : Hid (fmap P = fmap (L.zip U)) := Lib.hid (by rw [hP, List.take_of_length_le (by rw [List.length_zip]; omega)])
          have HK := Lib.hid hK
          clear hK hP
          go_wp2_with fail
          go_ret
          obtain ⟨q1, q2, q3, q4, -⟩ := HK.out
          rw [HSF.out] at q3
          have := HSB.out
          exact ⟨b + 3, b, b + 1, b + 2, n1, rfl, q1, q2, hn1, q3, q4, by omega, by omega, by omega, by omega, by omega, by omega, by omega, by omega, by omega, by omega, hB.out⟩
end Go.Proofs.YtgledabcfonbeaaGreatDoor.Df
