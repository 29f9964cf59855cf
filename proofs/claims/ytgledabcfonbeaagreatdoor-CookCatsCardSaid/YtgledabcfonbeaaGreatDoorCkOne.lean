/-
  THE SMALL FUNCTIONS: need, words, verbs, cut, names that are paths, and differ.
-/
import Derived.Test.YtgledabcfonbeaaGreatDoorCkBase
namespace Go.Proofs.YtgledabcfonbeaaGreatDoor.Df
open Go.RowKit Go.Maps Go.Proofs.YtgledabcfonbeaaGreatDoor

/-! ### need -/
/-- what a command that fails panics with -/
def pz : Value := .iface 72 (.agg #[.int .i64 13])
theorem need_t (w : World) : Calls Tryz.prog 32 #[.bool true] w fun e w' => e = .returned (.tuple #[]) ∧ w = w' := by
  go_enter Tryz.func32, Tryz.ntmps32
  go_wp2_with fail
  go_end0
  exact ⟨rfl, rfl⟩

/-! ### a command's words -/
set_option maxRecDepth 100000 in
set_option maxHeartbeats 4000000 in
theorem wordsOf_c (s : Bs) (hs : s.length ≤ 1000000) (w : World) : Calls Tryz.prog 30 #[.string (mk s)] w fun e w' => ∃ v, e = .returned v ∧ w'.ownsRow w.heap.size 9 1 v (words [] s).length (strV (words [] s)) ∧ Below w.heap.size w w' := by
  have hf := fields_c s (by omega) w
  have hwl := words_len s []
  have hws := words_lens s []
  simp only [if_true] at hwl
  generalize words [] s = ws at *
  have hWL : ws.length ≤ 1000000 := by omega
  have HWS := Lib.hid hws
  clear hws hwl
  go_enter Tryz.func30, Tryz.ntmps30
  go_wp2_with fail
  refine hf.mono ?_
  rintro e w1 ⟨A, rfl, hA, hown, hb⟩
  have HO := Lib.hid hown
  have HB := Lib.hid hb
  have HA := Lib.hid hA
  clear hf hown hb hA
  go_wp2_with fail
  go_loopw [5, 6, 12] (fun _ _ i wr => ∃ j : Nat, j ≤ ws.length ∧ i = .int .i64 j ∧ Hid (wr.ownsRow w.heap.size 9 1 (.slice (some ⟨A, 0, none⟩) ws.length ws.length) ws.length (strV ws)) ∧ Hid (Below w.heap.size w wr)) (fun _ _ i _ => ws.length - (intOf i).toNat)
  case atStart => exact ⟨0, Nat.zero_le _, rfl, HO, HB⟩
  case round =>
    obtain ⟨j, hj, rfl, hR, hBw⟩ := hrel
    by_cases hlt : j < ws.length
    · have hx := List.getElem?_eq_getElem hlt
      have hsm := HWS.out _ (List.getElem_mem hlt)
      have hset : (strV ws).set j (.string (mk ws[j])) = strV ws := by
        refine List.ext_getElem? fun k => ?_
        rw [List.getElem?_set]
        split
        · rename_i e
          subst e
          rw [if_pos (by rw [strV_length]; exact hlt)]
          simp [strV, hlt]
        · rfl
      generalize ws[j] = x at *
      have HSET := Lib.hid hset
      have c0 : wr.cell? ⟨A, j, none⟩ = some (.string (mk x)) := by
        have h1 : (strV ws)[j]? = some (.string (mk x)) := by unfold strV; rw [List.getElem?_map, hx]; rfl
        exact (hR.out.cellAt j (by omega)).trans h1
      have cc := clone_c (mk x) wr (by rw [mk_size]; simp at hsm; omega)
      have hi0 : (0 : Int) ≤ (j : Int) := by omega
      have hi1 : (j : Int) < (ws.length : Int) := by omega
      clear hx hsm hset
      go_wp2_with fail
      refine cc.mono ?_
      rintro e w2 ⟨rfl, hb2⟩
      have hR2 := owns_below hR.out hb2
      have f0 := hR2.frozenAt j
      obtain ⟨u, c2⟩ : ∃ u, w2.cell? ⟨A, j, none⟩ = some u := ⟨_, (cell_of_block (hb2.block A (lt_of_cell c0))).trans c0⟩
      obtain ⟨hR3, hg3⟩ := hR2.stored j (.string (mk x))
      rw [HSET.out] at hR3
      have HR3 := Lib.hid hR3
      have HB3 : Hid (Below w.heap.size w (w2.setCell ⟨A, j, none⟩ (.string (mk x)))) := Lib.hid ((hBw.out.trans (hb2.mono hBw.out.size)).trans ⟨hg3.os, hg3.tape, hg3.output, hg3.size, fun k hk => hg3.block k (by have := hBw.out.size; have := hb2.size; omega) (fun e => by have := Option.some.inj e; have := HA.out; omega)⟩)
      clear cc hb2 hR2 hR3 hg3 c0
      go_wp2_with fail
      go_roundw
      case rel => exact ⟨j + 1, by omega, by go_num, HR3, HB3⟩
      case measure => simp [intOf] <;> omega
    · obtain rfl : j = ws.length := by omega
      go_wp2_with fail
      go_ret
      exact ⟨_, rfl, hR.out, hBw.out⟩

/-! ### a map of functions -/
noncomputable def funE (v : Value) : Option (DW × List MemPlace) :=
  @ite _ (v = .nilFunc) (Classical.propDecidable _) (some (.lit (.int .i64 (-1)), []))
    (@dite _ (∃ n : Nat, v = .func (.func n) #[] #[]) (Classical.propDecidable _) (fun h => some (.lit (.int .i64 (Classical.choose h : Nat)), [])) (fun _ => none))
theorem funE_nil : funE .nilFunc = some (.lit (.int .i64 (-1)), []) := by
  unfold funE
  rw [@if_pos _ (Classical.propDecidable _) rfl]
theorem funE_at (n : Nat) : funE (.func (.func n) #[] #[]) = some (.lit (.int .i64 n), []) := by
  have h : ∃ k : Nat, (Value.func (.func n) #[] #[]) = .func (.func k) #[] #[] := ⟨n, rfl⟩
  unfold funE
  rw [@if_neg _ (Classical.propDecidable _) (by intro e; cases e), @dif_pos _ (Classical.propDecidable _) h]
  have := Classical.choose_spec h
  injection this with e
  injection e with e
  rw [← e]
theorem funE_inv {v : Value} {n : Nat} {ps : List MemPlace} (h : funE v = some (.lit (.int .i64 n), ps)) : v = .func (.func n) #[] #[] := by
  unfold funE at h
  by_cases h0 : v = .nilFunc
  · rw [@if_pos _ (Classical.propDecidable _) h0] at h
    injection h with h
    injection h with h _
    injection h with h
    injection h with _ h
    omega
  · rw [@if_neg _ (Classical.propDecidable _) h0] at h
    by_cases h1 : ∃ n : Nat, v = .func (.func n) #[] #[]
    · rw [@dif_pos _ (Classical.propDecidable _) h1] at h
      injection h with h
      injection h with h _
      injection h with h
      injection h with _ h
      have hs := Classical.choose_spec h1
      have e : Classical.choose h1 = n := by omega
      rw [e] at hs
      exact hs
    · rw [@dif_neg _ (Classical.propDecidable _) h1] at h
      cases h
theorem zeroFn (w : World) : (zeroValue 76).run Tryz.prog w = .ok .nilFunc w := by kernel_rfl

def elF : Option Nat → DW
  | none => .lit (.int .i64 (-1))
  | some n => .lit (.int .i64 n)
/-- block m is a map of at most n texts to functions -/
def Fi (w : World) (n m : Nat) (f : Bs → Option Nat) : Prop :=
  ∃ D : DW, w.ownsMap Tryz.prog 9 funE m n D ∧ (∀ l, Maps.has D (.string l) = (f l).isSome) ∧ ∀ l, D.atKey (.string l) (.lit (.int .i64 (-1))) = elF (f l)
section
variable {w w' : World} {n m : Nat} {f : Bs → Option Nat}
theorem Fi.kept (h : Fi w n m f) (hb : w'.heap[m]? = w.heap[m]?) : Fi w' n m f := by
  obtain ⟨D, ⟨es, c, hm, r1, r2, r3⟩, r⟩ := h
  exact ⟨D, ⟨es, c, hb.trans hm, r1, r2, r3⟩, r⟩
theorem Fi.lt (h : Fi w n m f) : m < w.heap.size := by obtain ⟨D, h, _⟩ := h; exact h.lt
theorem Fi.made (w : World) : Fi (w.alloc (.map #[] 0)) 0 w.heap.size (fun _ => none) := ⟨.map [], World.ownsMap_made _ _ _ _, fun _ => rfl, fun _ => rfl⟩
theorem Fi.look_ok (h : Fi w n m f) {s : Bs} (hl : s.length ≤ maxLen) :
    ∃ v, (Instr.lookup 78 (.map (some m)) (.string (mk s)) true).run Tryz.prog w = .ok (.tuple #[v, .bool (f s).isSome]) w := by
  obtain ⟨D, hD, hhas, hat⟩ := h
  obtain ⟨v, ps, hrun, hv⟩ := hD.look_ok law9 Tryz.underlying78 (zeroFn w) (zd := .lit (.int .i64 (-1))) (zp := []) funE_nil (keyS hl)
  rw [hhas] at hrun
  exact ⟨v, hrun⟩
theorem Fi.look (h : Fi w n m f) {s : Bs} (hl : s.length ≤ maxLen) {k : Nat} (hk : f s = some k) :
    (Instr.lookup 78 (.map (some m)) (.string (mk s)) false).run Tryz.prog w = .ok (.func (.func k) #[] #[]) w := by
  obtain ⟨D, hD, hhas, hat⟩ := h
  obtain ⟨v, ps, hrun, hv⟩ := hD.lookup law9 Tryz.underlying78 (zeroFn w) (zd := .lit (.int .i64 (-1))) (zp := []) funE_nil (keyS hl)
  rw [hat, hk] at hv
  rw [funE_inv hv] at hrun
  exact hrun
theorem Fi.put (h : Fi w n m f) (hn : n < maxLen) {s : Bs} (hl : s.length ≤ maxLen) (k : Nat) :
    ∃ w', (Instr.mapUpdate 78 (.map (some m)) (.string (mk s)) (.func (.func k) #[] #[])).run Tryz.prog w = .ok () w' ∧ Fi w' (n + 1) m (upd f s (some k)) ∧ w.grownBy w' (some m) ∧ w'.heap.size = w.heap.size := by
  obtain ⟨D, hD, hhas, hat⟩ := h
  obtain ⟨w', hrun, ho, ht⟩ := hD.store law9 Tryz.underlying78 hn (val := .func (.func k) #[] #[]) (d := .lit (.int .i64 k)) (ps := []) (keyS hl) (funE_at k)
  have hk : WideAt.IsKeyLit (.string s) := law9.key (keyS hl)
  refine ⟨w', hrun, ⟨_, ho, fun x => ?_, fun x => ?_⟩, ht.grown, ?_⟩
  · by_cases hx : x = s
    · subst hx; rw [has_put_same hD.isMap hk, upd, if_pos rfl]; rfl
    · rw [has_put_other (by intro e; cases e; exact hx rfl), upd, if_neg hx, hhas]
  · by_cases hx : x = s
    · subst hx; rw [atKey_put_same hD.isMap hk, upd, if_pos rfl]; rfl
    · rw [atKey_put_other (by intro e; cases e; exact hx rfl), upd, if_neg hx, hat]
  · obtain ⟨es, c, es', c', _, rfl⟩ := ht
    simp [Go.ChangeMaps.setBlock]
end
end Go.Proofs.YtgledabcfonbeaaGreatDoor.Df
