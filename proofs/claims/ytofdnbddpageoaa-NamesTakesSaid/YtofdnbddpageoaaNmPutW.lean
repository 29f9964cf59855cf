/-
  put, WALKED.
-/
import Derived.Test.YtofdnbddpageoaaNmPutM
import Derived.Test.YtofdnbddpageoaaNmLookW
namespace Go.Proofs.Ytofdnbddpageoaa.Nm
open Go.RowKit Go.Maps

theorem less_yes {x y : ByteArray} (h : bsOf x < bsOf y) : Op.bytesLess x.toList y.toList = true := by
  rw [bytesLess_eq, ByteArray.toList_eq, ByteArray.toList_eq]
  exact decide_eq_true h
theorem less_no {x y : ByteArray} (h : ¬ bsOf x < bsOf y) : Op.bytesLess x.toList y.toList = false := by
  rw [bytesLess_eq, ByteArray.toList_eq, ByteArray.toList_eq]
  exact decide_eq_false h

/-- .. the run's equation first: fails at once at another world -/
theorem step_run3 {ops : Array Oper} {o : Oper} {a : Act} {w w' : World} {K : Act → World → Prop} {Q : Exit → Act → World → Prop} {E : Prop} {t u ty : TypeId} {v src v' : Value}
    (hr : (Builtin.append_ #[t, u] ty #[v, src]).run Try.prog w = .ok v' w') (s x : Operand) (hgd : o.guard = Option.none) (ho : o.op = .call { callee := .builtin .append, args := #[s, x], argTypes := #[t, u] })
    (hty : o.type = ty) (hs : a.eval s = v) (hx : a.eval x = src) (h : K (a.put o.dst v') w') :
    if Region.wanted o (yielded ops a.tmps) = true then Oper.wp Try.prog o a w K Q else E := by
  subst hty
  exact step_run2 hgd s x ho hs hx hr h

/-- what put comes to -/
def PuQ (S : Nat → Prop) (w : World) (p : Nat) (N : List ByteArray) (L : List Dp) (vN : Value) (d : Dp) (e : Ending) (w' : World) : Prop :=
  e = .returned (.tuple #[]) ∧ (∃ vL' G', Rb (more S w w') w' p N (putL L d) vN vL' G') ∧ Mod S w w'

theorem PuQ.drew {S : Nat → Prop} {w w' : World} {p : Nat} {N : List ByteArray} {L : List Dp} {vN : Value} {d : Dp} {e : Ending} (h : PuQ S w p N L vN d e w') : PuQ S w p N L vN d e w'.drew := by
  obtain ⟨he, ⟨v, G, hk⟩, hm⟩ := h
  exact ⟨he, ⟨v, G, hk.below (below_drew (Below.refl _ _))⟩, hm.os, hm.tape, hm.output, hm.size, hm.block⟩

/-- the book, and the box of what is put -/
structure PuS (S : Nat → Prop) (w W : World) (p : Nat) (N : List ByteArray) (L : List Dp) (vN : Value) (ga : Option Addr) (gc : Nat) (G : List Gd) (d : Dp) (dv : Value) : Prop where
  rb : Rb S W p N L vN (.slice ga G.length gc) G
  box : W.heap[w.heap.size]? = some (.cells #[.string d.out, .int .i64 d.time, dv] 42 (0, 0))
  bel : Below w.heap.size w W
section
variable {S : Nat → Prop} {w W W1 : World} {p : Nat} {N : List ByteArray} {L : List Dp} {vN : Value} {ga : Option Addr} {gc : Nat} {G : List Gd} {d : Dp} {dv : Value}
theorem PuS.below (h : PuS S w W p N L vN ga gc G d dv) (hb : Below W.heap.size W W1) : PuS S w W1 p N L vN ga gc G d dv :=
  ⟨h.rb.below hb, (hb.block _ (lt_some h.box)).trans h.box, h.bel.trans (hb.mono h.bel.size)⟩
theorem PuS.drawn (h : PuS S w W p N L vN ga gc G d dv) (n : Nat) : PuS S w (W.drewN n) p N L vN ga gc G d dv := h.below (below_drawn (Below.refl _ _) n)
theorem PuS.cells (h : PuS S w W p N L vN ga gc G d dv) : W.cell? ⟨p, 1, Option.none⟩ = some (.slice ga G.length gc) ∧ W.cell? ⟨w.heap.size, 0, Option.none⟩ = some (.string d.out) ∧ W.cell? ⟨w.heap.size, 1, Option.none⟩ = some (.int .i64 d.time) ∧ W.cell? ⟨w.heap.size, 2, Option.none⟩ = some dv := by
  obtain ⟨-, c1, -, -⟩ := h.rb.cells
  obtain ⟨⟨k0, k1, k2⟩, -⟩ := thr_cells h.box
  exact ⟨c1, k0, k1, k2⟩
theorem PuS.at' (h : PuS S w W p N L vN ga gc G d dv) {j : Nat} {g : Gd} (hj : G[j]? = some g) : ∃ b, ga = some ⟨b, 0, Option.none⟩ ∧ b < W.heap.size ∧ W.cell? ⟨b, j * 3, Option.none⟩ = some (.string g.1.out) := by
  rcases own_at h.rb.found with ⟨e, h9⟩ | ⟨b, cap, e, _, hl, _, hc⟩
  · have := (List.getElem?_eq_some_iff.1 hj).1
    omega
  · cases e
    exact ⟨b, rfl, hl, hc _ _ (depV_get G j g hj).1⟩
end

theorem depV_set (G : List Gd) : ∀ (m : Nat) (g : Gd), m < G.length → (((depV G).set (m * 3) (.string g.1.out)).set (m * 3 + 1) (.int .i64 g.1.time)).set (m * 3 + 2) g.v = depV (G.set m g) := by
  induction G with
  | nil => intro m g h; simp at h
  | cons z M ih =>
    intro m g h
    have e : depV (z :: M) = .string z.1.out :: .int .i64 z.1.time :: z.v :: depV M := rfl
    cases m with
    | zero => rw [e]; rfl
    | succ m =>
      have := ih m g (by simpa using h)
      rw [e, show (m + 1) * 3 = m * 3 + 3 from by omega]
      show _ = depV (z :: M.set m g)
      rw [show depV (z :: M.set m g) = .string z.1.out :: .int .i64 z.1.time :: z.v :: depV (M.set m g) from rfl, ← this]
      rfl

theorem pu_set {S : Nat → Prop} {w W : World} {p b gc m : Nat} {N : List ByteArray} {L : List Dp} {vN : Value} {G : List Gd} {d : Dp} {da : Option Addr} {dc : Nat} (h : PuS S w W p N L vN (some ⟨b, 0, Option.none⟩) gc G d (.slice da d.deps.length dc))
    (hSw : ∀ k, S k → k < w.heap.size) (hd : StrAt (ElP S p vN (.slice (some ⟨b, 0, Option.none⟩) G.length gc)) w (.slice da d.deps.length dc) d.deps) (hm : m < G.length) (hput : putL L d = L.set m d) :
    PuQ S w p N L vN d (.returned (.tuple #[])) (((W.setCell ⟨b, m * 3, Option.none⟩ (.string d.out)).setCell ⟨b, m * 3 + 1, Option.none⟩ (.int .i64 d.time)).setCell ⟨b, m * 3 + 2, Option.none⟩ (.slice da d.deps.length dc)) := by
  have hbS : S b := h.rb.foundS b rfl
  obtain ⟨-, cur, hc⟩ := owns_block h.rb.found (g := b) rfl
  obtain ⟨s1, -⟩ := h.rb.found.stored (m * 3) (.string d.out)
  obtain ⟨s2, -⟩ := s1.stored (m * 3 + 1) (.int .i64 d.time)
  obtain ⟨s3, -⟩ := s2.stored (m * 3 + 2) (.slice da d.deps.length dc)
  have e3 := depV_set G m (d, da, dc) hm
  have e3 : (((depV G).set (m * 3) (.string d.out)).set (m * 3 + 1) (.int .i64 d.time)).set (m * 3 + 2) (.slice da d.deps.length dc) = depV (G.set m (d, da, dc)) := e3
  rw [e3] at s3
  obtain ⟨W9, hW9⟩ : ∃ V, (((W.setCell ⟨b, m * 3, Option.none⟩ (.string d.out)).setCell ⟨b, m * 3 + 1, Option.none⟩ (.int .i64 d.time)).setCell ⟨b, m * 3 + 2, Option.none⟩ (.slice da d.deps.length dc)) = V := ⟨_, rfl⟩
  have hother : ∀ k, k ≠ b → W9.heap[k]? = W.heap[k]? := fun k hk => by rw [← hW9, set_off hk, set_off hk, set_off hk]
  have hsize : W9.heap.size = W.heap.size := by rw [← hW9]; simp only [World.size_setCell]
  rw [hW9] at s3 ⊢
  have hbp : b ≠ p := fun e => ne_type hc h.rb.box (by decide) e
  have hel : ∀ k, ElP S p vN (.slice (some ⟨b, 0, Option.none⟩) G.length gc) k → W9.heap[k]? = W.heap[k]? := fun k hk => hother k fun e => hk.2.2.2 (by rw [e]; rfl)
  refine ⟨rfl, ⟨.slice (some ⟨b, 0, Option.none⟩) G.length gc, G.set m (d, da, dc), ?_⟩, ?_⟩
  · rw [hput]
    have hrb : Rb S W9 p N (L.set m d) vN (.slice (some ⟨b, 0, Option.none⟩) G.length gc) (G.set m (d, da, dc)) := {
      box := (hother p hbp.symm).trans h.rb.box
      inS := h.rb.inS
      names := owns_kept h.rb.names fun k hk => hother k fun e => by
        obtain ⟨_, _, x1⟩ := owns_block h.rb.names hk
        exact ne_type x1 hc (by decide) e
      namesS := h.rb.namesS
      found := by rw [List.length_set]; exact s3
      foundS := h.rb.foundS
      els := fun g hg => by
        rcases List.mem_or_eq_of_mem_set hg with hg | rfl
        · exact (h.rb.els g hg).keep (fun k hk _ => hel k hk) (by omega)
        · exact (hd.keep (fun k hk hl => h.bel.block k hl) h.bel.size).keep (fun k hk _ => hel k hk) (by omega)
      eq := by rw [List.map_set, h.rb.eq]
      few := h.rb.few
      fewL := by rw [List.length_set]; exact h.rb.fewL }
    exact hrb.wide fun k hk => .inl hk
  · refine ⟨?_, ?_, ?_, by rw [hsize]; exact h.bel.size, fun k hk hs => (hother k fun e => hs (by rw [e]; exact hbS)).trans (h.bel.block k hk)⟩
    · rw [← hW9]; exact h.bel.os
    · rw [← hW9]; exact h.bel.tape
    · rw [← hW9]; exact h.bel.output

theorem pu_ins {S : Nat → Prop} {w wk W : World} {p gc m n : Nat} {ga : Option Addr} {N : List ByteArray} {L : List Dp} {vN v : Value} {G : List Gd} {d : Dp} {da : Option Addr} {dc : Nat} (h : PuS S w wk p N L vN ga gc G d (.slice da d.deps.length dc))
    (hSw : ∀ k, S k → k < w.heap.size) (hd : StrAt (ElP S p vN (.slice ga G.length gc)) w (.slice da d.deps.length dc) d.deps) (hl : L.length < 900000) (hF : Fr wk W v (G.take m ++ [(d, da, dc)] ++ G.drop m)) (hput : putL L d = L.take m ++ [d] ++ L.drop m) :
    PuQ S w p N L vN d (.returned (.tuple #[])) (W.setCell ⟨p, 1, Option.none⟩ v) ∧ W.cell? ⟨p, 1, Option.none⟩ = some (.slice ga G.length gc) ∧ W.frozen? ⟨p, 1, Option.none⟩ = false := by
  have hwk := h.bel.size
  have hpl := lt_some h.rb.box
  have hpw := hSw p h.rb.inS
  have hbox : W.heap[p]? = some (.cells #[vN, .slice ga G.length gc] 30 (0, 0)) := (hF.bel.block p hpl).trans h.rb.box
  have hset := Pk.set_block (j := 1) (u := v) hbox
  obtain ⟨W9, hW9⟩ : ∃ V, W.setCell ⟨p, 1, Option.none⟩ v = V := ⟨_, rfl⟩
  rw [hW9] at hset ⊢
  have hother : ∀ k, k ≠ p → W9.heap[k]? = W.heap[k]? := fun k hk => by rw [← hW9, set_off hk]
  have hsize : W9.heap.size = W.heap.size := by rw [← hW9]; simp only [World.size_setCell]
  have hkeep : ∀ k, k < wk.heap.size → k ≠ p → W9.heap[k]? = wk.heap[k]? := fun k h1 h2 => (hother k h2).trans (hF.bel.block k h1)
  obtain ⟨a, c, rfl⟩ := own_slice hF.own
  have hnew : ∀ k, (Value.slice a (G.take m ++ [(d, da, dc)] ++ G.drop m).length c).ownBlock = some k → wk.heap.size ≤ k ∧ k < W.heap.size := fun k hk => hF.own.lt k hk
  refine ⟨⟨rfl, ⟨.slice a (G.take m ++ [(d, da, dc)] ++ G.drop m).length c, G.take m ++ [(d, da, dc)] ++ G.drop m, ?_⟩, ?_⟩, by simp [World.cell?, hbox], by simp [World.frozen?, hbox]⟩
  · rw [hput]
    have hLl : (L.take m ++ [d] ++ L.drop m).length = L.length + 1 := by
      have : (L.take m ++ L.drop m).length = L.length := by rw [List.take_append_drop]
      simp at this ⊢
      omega
    exact {
      box := hset
      inS := .inl h.rb.inS
      names := owns_kept h.rb.names fun k hk => hkeep k (h.rb.names.lt k hk).2 fun e => by
        obtain ⟨_, _, x1⟩ := owns_block h.rb.names hk
        rw [e] at x1
        exact ne_type x1 h.rb.box (by decide) rfl
      namesS := fun k hk => .inl (h.rb.namesS k hk)
      found := owns_base (owns_kept hF.own fun k hk => hother k fun e => by have := hnew k hk; omega) (Nat.zero_le _)
      foundS := fun k hk => .inr (by have := hnew k hk; omega)
      els := fun g hg => by
        have hold : ∀ (x : List ByteArray) (u : Value), StrAt (ElP S p vN (.slice ga G.length gc)) wk u x → StrAt (ElP (more S w W9) p vN (.slice a (G.take m ++ [(d, da, dc)] ++ G.drop m).length c)) W9 u x := fun x u hx =>
          (hx.wide (P' := fun k => ElP S p vN (.slice ga G.length gc) k ∧ k < wk.heap.size) fun k hk hl => ⟨hk, hl⟩).keep (fun k hk hl => hkeep k hl hk.1.2.1) (by have := hF.bel.size; omega) |>.wide fun k hk _ => ⟨.inl hk.1.1, hk.1.2.1, hk.1.2.2.1, fun e => by have := hnew k e; have := hk.2; omega⟩
        have hg' : g ∈ G ∨ g = (d, da, dc) := by
          rcases List.mem_append.1 hg with hg | hg
          · rcases List.mem_append.1 hg with hg | hg
            · exact .inl (List.mem_of_mem_take hg)
            · exact .inr (List.mem_singleton.1 hg)
          · exact .inl (List.mem_of_mem_drop hg)
        rcases hg' with hg | rfl
        · exact hold _ _ (h.rb.els g hg)
        · exact hold _ _ (hd.keep (fun k _ hl => h.bel.block k hl) h.bel.size)
      eq := by rw [List.map_append, List.map_append, List.map_take, List.map_drop, h.rb.eq]; rfl
      few := h.rb.few
      fewL := by rw [hLl]; omega }
  · refine ⟨?_, ?_, ?_, by rw [hsize]; have := hF.bel.size; omega, fun k hk hs => (hkeep k (by omega) fun e => hs (by rw [e]; exact h.rb.inS)).trans (h.bel.block k hk)⟩
    · rw [← hW9]; exact hF.bel.os.trans h.bel.os
    · rw [← hW9]; exact hF.bel.tape.trans h.bel.tape
    · rw [← hW9]; exact hF.bel.output.trans h.bel.output

set_option maxRecDepth 100000 in
set_option maxHeartbeats 8000000 in
theorem put_c {S : Nat → Prop} {w : World} {p : Nat} {N : List ByteArray} {L : List Dp} {vN vL : Value} {G : List Gd} {d : Dp} {da : Option Addr} {dc : Nat} (h : Rb S w p N L vN vL G) (hSw : ∀ k, S k → k < w.heap.size) (hd : StrAt (ElP S p vN vL) w (.slice da d.deps.length dc) d.deps) (hl : L.length < 900000) :
    Calls Try.prog 33 #[.pointer (some ⟨p, 0, Option.none⟩), .agg #[.string d.out, .int .i64 d.time, .slice da d.deps.length dc]] w (PuQ S w p N L vN d) := by
  obtain ⟨ga, gc, rfl⟩ := own_slice h.found
  have hle := own_cap h.found
  have HLEN := Lib.hid h.len
  have hGl : G.length ≤ 900000 := by have := h.len; have := h.fewL; omega
  have HEQ := Lib.hid h.eq
  have HD := Lib.hid hd
  have HSW := Lib.hid hSw
  have P0 : Hid (PuS S w (w.alloc (.cells #[.string d.out, .int .i64 d.time, .slice da d.deps.length dc] 42)) p N L vN ga gc G d (.slice da d.deps.length dc)) := Lib.hid ⟨h.below (Pk.below_alloc _ _), heap_alloc_new _ _, Pk.below_alloc _ _⟩
  clear h hd hSw
  go_enter Try.func33, Try.ntmps33
  go_wp2_with fail
  go_loopw [4] (fun i wr => ∃ m : Nat, m ≤ G.length ∧ i = .int .i64 m ∧ Hid (∀ (j : Nat) x, j < m → L[j]? = some x → bsOf x.out < bsOf d.out) ∧ Hid (PuS S w wr p N L vN ga gc G d (.slice da d.deps.length dc))) (fun i _ => G.length - (intOf i).toNat)
  case atStart => exact ⟨0, Nat.zero_le _, rfl, Lib.hid (fun j x hj => by omega), P0⟩
  case round =>
    obtain ⟨m, hm, rfl, hlo, hP⟩ := hrel
    clear P0
    obtain ⟨c1, k0, k1, k2⟩ := hP.out.cells
    by_cases hlt : m < G.length
    · have hx := List.getElem?_eq_getElem hlt
      obtain ⟨b, rfl, hbl, x0⟩ := hP.out.at' hx
      have hLx : L[m]? = some G[m].1 := by rw [← HEQ.out, List.getElem?_map, hx]; rfl
      generalize G[m] = g at *
      have hi0 : (0 : Int) ≤ (m : Int) := by omega
      have hi1 : (m : Int) < (G.length : Int) := by omega
      have HLX := Lib.hid hLx
      have HGX := Lib.hid hx
      clear hx hLx
      by_cases hless : bsOf g.1.out < bsOf d.out
      · have t0 := less_yes hless
        have HLO : Hid (∀ (j : Nat) x, j < m + 1 → L[j]? = some x → bsOf x.out < bsOf d.out) := Lib.hid fun j x hj hjx => by
          rcases Nat.lt_or_ge j m with h1 | h1
          · exact hlo.out j x h1 hjx
          · obtain rfl : j = m := by omega
            rw [HLX.out] at hjx
            cases hjx
            exact hless
        clear hless
        go_wp2_with fail
        go_quiet (fail)
        go_wp2_with fail
        go_roundw
        case rel => exact ⟨m + 1, by omega, by go_num, HLO, Lib.hid (hP.out.drawn _)⟩
        case measure => simp [intOf]; omega
      · have t0 := less_no hless
        have HNL := Lib.hid hless
        clear hless
        by_cases heq : g.1.out = d.out
        · have t1 : (g.1.out.toList == d.out.toList) = true := by rw [heq]; simp
          have HE := Lib.hid heq
          clear heq
          go_wp2_with fail
          go_quiet (fail)
          go_wp2_with fail
          have hPj := Lib.hid (hP.out.drawn nq)
          generalize wr.drewN nq = wj at *
          clear c1 k0 k1 k2 x0 hP hbl
          obtain ⟨c1, k0, k1, k2⟩ := hPj.out.cells
          obtain ⟨_, e, hbl, x0⟩ := hPj.out.at' HGX.out
          cases e
          go_upto_region 4 with fail
          go_quiet (fail)
          go_wp2_with fail
          have hPk := Lib.hid (hPj.out.drawn nq)
          generalize wj.drewN nq = wk at *
          clear c1 k0 k1 k2 x0 hPj hbl t0 t1
          obtain ⟨c1, k0, k1, k2⟩ := hPk.out.cells
          obtain ⟨_, e, hbl, x0⟩ := hPk.out.at' HGX.out
          cases e
          have hbw : b < w.heap.size := HSW.out b (hPk.out.rb.foundS b rfl)
          have hbp : b ≠ p := fun e => by
            obtain ⟨-, cur, hc⟩ := owns_block hPk.out.rb.found (g := b) rfl
            exact ne_type hc hPk.out.rb.box (by decide) e
          obtain ⟨y0, y1, y2⟩ : wk.cell? ⟨b, m * 3, Option.none⟩ = some (.string g.1.out) ∧ wk.cell? ⟨b, m * 3 + 1, Option.none⟩ = some (.int .i64 g.1.time) ∧ wk.cell? ⟨b, m * 3 + 2, Option.none⟩ = some g.v := by
            obtain ⟨q0, q1, q2⟩ := depV_get G m g HGX.out
            rcases own_at hPk.out.rb.found with ⟨e, _⟩ | ⟨b9, cap, e, _, _, _, hc⟩
            · cases e
            · cases e
              exact ⟨hc _ _ q0, hc _ _ q1, hc _ _ q2⟩
          have f0 := hPk.out.rb.found.frozenAt (m * 3)
          have f1 := hPk.out.rb.found.frozenAt (m * 3 + 1)
          have f2 := hPk.out.rb.found.frozenAt (m * 3 + 2)
          have FIN := Lib.hid (pu_set hPk.out HSW.out HD.out hlt (putL_eq hlo.out HLX.out HE.out)).drew
          have K0 : wk.drew.cell? ⟨p, 1, Option.none⟩ = some (.slice (some ⟨b, 0, Option.none⟩) G.length gc) ∧ wk.drew.cell? ⟨w.heap.size, 0, Option.none⟩ = some (.string d.out) ∧ wk.drew.cell? ⟨w.heap.size, 1, Option.none⟩ = some (.int .i64 d.time) ∧ wk.drew.cell? ⟨w.heap.size, 2, Option.none⟩ = some (.slice da d.deps.length dc) := ⟨c1, k0, k1, k2⟩
          have hw9 : w.heap.size ≠ b := by omega
          have hk9 : ∀ (k j : Nat), k ≠ b → (((wk.setCell ⟨b, m * 3, Option.none⟩ (.string d.out)).setCell ⟨b, m * 3 + 1, Option.none⟩ (.int .i64 d.time)).setCell ⟨b, m * 3 + 2, Option.none⟩ (.slice da d.deps.length dc)).drew.cell? ⟨k, j, Option.none⟩ = wk.cell? ⟨k, j, Option.none⟩ := fun k j hk => cell_of_block ((set_off hk).trans ((set_off hk).trans (set_off hk)))
          have K1 := And.intro ((hk9 p 1 hbp.symm).trans c1) (And.intro ((hk9 w.heap.size 0 hw9).trans k0) (And.intro ((hk9 w.heap.size 1 hw9).trans k1) ((hk9 w.heap.size 2 hw9).trans k2)))
          clear hk9
          go_region_held3 (fun w' => w'.cell? ⟨p, 1, Option.none⟩ = some (.slice (some ⟨b, 0, Option.none⟩) G.length gc) ∧ w'.cell? ⟨w.heap.size, 0, Option.none⟩ = some (.string d.out) ∧ w'.cell? ⟨w.heap.size, 1, Option.none⟩ = some (.int .i64 d.time) ∧ w'.cell? ⟨w.heap.size, 2, Option.none⟩ = some (.slice da d.deps.length dc))
            (first | with_reducible exact K0 | with_reducible exact K1 | fail)
            (fail)
          go_wp2_with fail
          refine bodyPost_ret (results_none rfl _ _ _) rfl ?_
          exact FIN.out
        · have t1 : (g.1.out.toList == d.out.toList) = false := Pk.toList_ne heq
          have HE := Lib.hid heq
          clear heq
          go_wp2_with fail
          go_quiet (fail)
          go_wp2_with fail
          have hPj := Lib.hid (hP.out.drawn nq)
          generalize wr.drewN nq = wj at *
          clear c1 k0 k1 k2 x0 hP hbl
          obtain ⟨c1, k0, k1, k2⟩ := hPj.out.cells
          obtain ⟨_, e, hbl, x0⟩ := hPj.out.at' HGX.out
          cases e
          go_upto_region 4 with fail
          go_quiet (fail)
          go_wp2_with fail
          have hPk := Lib.hid (hPj.out.drawn nq)
          generalize wj.drewN nq = wk at *
          clear c1 k0 k1 k2 x0 hPj hbl t0 t1
          obtain ⟨c1, k0, k1, k2⟩ := hPk.out.cells
          have hwk := hPk.out.bel.size
          have E0 : Fr wk (wk.alloc (.cells #[] 42)) (.slice (some ⟨wk.heap.size, 0, Option.none⟩) 0 0) [] := ⟨World.ownsRow_made wk #[] 0 (Nat.le_refl _) (by unfold maxLen; omega) rfl, Pk.below_alloc _ _⟩
          have zA : (wk.alloc (.cells #[] 42)).heap.size = wk.heap.size + 1 := World.size_alloc _ _
          have zX : (wk.alloc (.cells #[.string d.out, .int .i64 d.time, .slice da d.deps.length dc] 42)).heap.size = wk.heap.size + 1 := World.size_alloc _ _
          have bX : Below wk.heap.size wk (wk.alloc (.cells #[.string d.out, .int .i64 d.time, .slice da d.deps.length dc] 42)) := Pk.below_alloc _ _
          have EA : Fr wk (wk.alloc (.cells #[] 42)).drew (.slice (some ⟨wk.heap.size, 0, Option.none⟩) 0 0) [] := E0.keep (below_drew (Below.refl _ _))
          have EB : Fr wk ((wk.alloc (.cells #[] 42)).alloc (.cells #[.string d.out, .int .i64 d.time, .slice da d.deps.length dc] 42)).drew (.slice (some ⟨wk.heap.size, 0, Option.none⟩) 0 0) [] := (E0.keep (Pk.below_alloc _ _)).keep (below_drew (Below.refl _ _))
          have EC : Fr wk ((wk.alloc (.cells #[.string d.out, .int .i64 d.time, .slice da d.deps.length dc] 42)).alloc (.cells #[] 42)).drew (.slice (some ⟨wk.heap.size + 1, 0, Option.none⟩) 0 0) [] := by
            have h1 := World.ownsRow_made (base := wk.heap.size) (wk.alloc (.cells #[.string d.out, .int .i64 d.time, .slice da d.deps.length dc] 42)) #[] 0 (e := 42) (size := 3) (by rw [zX]; omega) (by unfold maxLen; omega) rfl
            rw [zX] at h1
            exact ⟨h1, below_drew (bX.alloc (by rw [zX]; omega) _)⟩
          have dB : ((wk.alloc (.cells #[] 42)).alloc (.cells #[.string d.out, .int .i64 d.time, .slice da d.deps.length dc] 42)).drew.heap[wk.heap.size + 1]? = some (.cells #[.string d.out, .int .i64 d.time, .slice da d.deps.length dc] 42 (0, 0)) := by rw [← zA]; exact heap_alloc_new _ _
          have dC : ((wk.alloc (.cells #[.string d.out, .int .i64 d.time, .slice da d.deps.length dc] 42)).alloc (.cells #[] 42)).drew.heap[wk.heap.size]? = some (.cells #[.string d.out, .int .i64 d.time, .slice da d.deps.length dc] 42 (0, 0)) := (Below.heap_alloc _ _ _ (by rw [zX]; omega)).trans (heap_alloc_new _ _)
          have hput : putL L d = L.take m ++ [d] ++ L.drop m := putL_ins hlo.out (by rw [← HLEN.out]; exact hm) (fun x hx => by
            rw [HLX.out] at hx
            cases hx
            exact ⟨HNL.out, HE.out⟩)
          have hcs : ∀ (W : World), Below wk.heap.size wk W → ∀ j u, (depV (G.take m))[j]? = some u → W.cell? ((⟨b, 0, Option.none⟩ : Addr).add j) = some u := fun W hb j u hu => by
            have h1 := depV_take G m j u hu
            obtain ⟨-, cur, hc⟩ := owns_block hPk.out.rb.found (g := b) rfl
            rw [Go.WideShapes.add_plain, Nat.zero_add]
            refine (cell_of_block (hb.block b (lt_some hc))).trans ?_
            rcases own_at hPk.out.rb.found with ⟨e, _⟩ | ⟨b9, cap, e, _, _, _, hc⟩
            · cases e
            · cases e
              exact hc _ _ h1
          have hcd : ∀ (W : World), Below wk.heap.size wk W → ∀ j u, (depV (G.drop m))[j]? = some u → W.cell? ((⟨b, m * 3, Option.none⟩ : Addr).add j) = some u := fun W hb j u hu => by
            have h1 := depV_drop G m j hm u hu
            obtain ⟨-, cur, hc⟩ := owns_block hPk.out.rb.found (g := b) rfl
            rw [Go.WideShapes.add_plain]
            refine (cell_of_block (hb.block b (lt_some hc))).trans ?_
            rcases own_at hPk.out.rb.found with ⟨e, _⟩ | ⟨b9, cap, e, _, _, _, hc⟩
            · cases e
            · cases e
              exact hc _ _ h1
          have HCD := Lib.hid hcd
          have sA : (Value.slice (some ⟨b, 0, Option.none⟩) m gc = .slice Option.none 0 0 ∧ m = 0) ∨ ∃ ad c, Value.slice (some ⟨b, 0, Option.none⟩) m gc = .slice (some ad) m c ∧ ∀ j u, (depV (G.take m))[j]? = some u → (wk.alloc (.cells #[] 42)).drew.cell? (ad.add j) = some u := .inr ⟨_, _, rfl, hcs _ EA.bel⟩
          have sB : (Value.slice (some ⟨b, 0, Option.none⟩) m gc = .slice Option.none 0 0 ∧ m = 0) ∨ ∃ ad c, Value.slice (some ⟨b, 0, Option.none⟩) m gc = .slice (some ad) m c ∧ ∀ j u, (depV (G.take m))[j]? = some u → ((wk.alloc (.cells #[] 42)).alloc (.cells #[.string d.out, .int .i64 d.time, .slice da d.deps.length dc] 42)).drew.cell? (ad.add j) = some u := .inr ⟨_, _, rfl, hcs _ EB.bel⟩
          have sC : (Value.slice (some ⟨b, 0, Option.none⟩) m gc = .slice Option.none 0 0 ∧ m = 0) ∨ ∃ ad c, Value.slice (some ⟨b, 0, Option.none⟩) m gc = .slice (some ad) m c ∧ ∀ j u, (depV (G.take m))[j]? = some u → ((wk.alloc (.cells #[.string d.out, .int .i64 d.time, .slice da d.deps.length dc] 42)).alloc (.cells #[] 42)).drew.cell? (ad.add j) = some u := .inr ⟨_, _, rfl, hcs _ EC.bel⟩
          obtain ⟨taA, tcA, UA, rA1, bA1, raA, rcA, WA, rA2, FA, bA2⟩ := (ins_of (bd := 0) (d := d) (da := da) (dc := dc) true EA hm hGl sA (fun e => by cases e)).ex
          obtain ⟨taB, tcB, UB, rB1, bB1, raB, rcB, WB, rB2, FB, bB2⟩ := (ins_of (bd := wk.heap.size + 1) (d := d) (da := da) (dc := dc) false EB hm hGl sB (fun _ => ⟨by omega, lt_some dB, dB⟩)).ex
          obtain ⟨taC, tcC, UC, rC1, bC1, raC, rcC, WC, rC2, FC, bC2⟩ := (ins_of (bd := wk.heap.size) (d := d) (da := da) (dc := dc) false EC hm hGl sC (fun _ => ⟨by omega, lt_some dC, dC⟩)).ex
          simp only [if_true, Bool.false_eq_true, if_false] at rA2 rB2 rC2 bA2 bB2 bC2
          have XS : Hid (∀ (W : World), Below wk.heap.size wk W → (W.cell? ⟨p, 1, Option.none⟩ = some (.slice (some ⟨b, 0, Option.none⟩) G.length gc) ∧ W.cell? ⟨w.heap.size, 0, Option.none⟩ = some (.string d.out) ∧ W.cell? ⟨w.heap.size, 1, Option.none⟩ = some (.int .i64 d.time) ∧ W.cell? ⟨w.heap.size, 2, Option.none⟩ = some (.slice da d.deps.length dc))) := Lib.hid (fun W hb => (hPk.out.below hb).cells)
          have HA1 := Lib.hid rA1
          have HA2 := Lib.hid rA2
          have HB1 := Lib.hid rB1
          have HB2 := Lib.hid rB2
          have HC1 := Lib.hid rC1
          have HC2 := Lib.hid rC2
          have GA := Lib.hid FA
          have GB := Lib.hid FB
          have GC := Lib.hid FC
          have KA1 := Lib.hid bA1
          have KA2 := Lib.hid bA2
          have KB1 := Lib.hid bB1
          have KC1 := Lib.hid bC1
          have K0 := Lib.hid (below_drew (Below.refl wk.heap.size wk))
          have KEA := Lib.hid EA.bel
          have KEB := Lib.hid EB.bel
          have KEC := Lib.hid EC.bel
          have KX := Lib.hid (below_drew bX)
          have HPUT := Lib.hid hput
          have hm0 : (0 : Int) ≤ ((m : Nat) : Int) := by omega
          have hm2 : ((m : Nat) : Int) ≤ ((gc : Nat) : Int) := by omega
          clear E0 zA zX bX EA EB EC dB dC sA sB sC hcs hcd rA1 rA2 rB1 rB2 rC1 rC2 FA FB FC bA1 bA2 bB1 bB2 bC1 bC2 hput
          go_region_held3 (fun w' => w'.cell? ⟨p, 1, Option.none⟩ = some (.slice (some ⟨b, 0, Option.none⟩) G.length gc) ∧ w'.cell? ⟨w.heap.size, 0, Option.none⟩ = some (.string d.out) ∧ w'.cell? ⟨w.heap.size, 1, Option.none⟩ = some (.int .i64 d.time) ∧ w'.cell? ⟨w.heap.size, 2, Option.none⟩ = some (.slice da d.deps.length dc))
            (first | with_reducible exact XS.out _ K0.out | with_reducible exact XS.out _ KEA.out | with_reducible exact XS.out _ KEB.out | with_reducible exact XS.out _ KEC.out | with_reducible exact XS.out _ KX.out | with_reducible exact XS.out _ KA1.out | with_reducible exact XS.out _ KA2.out | with_reducible exact XS.out _ KB1.out | with_reducible exact XS.out _ KC1.out | with_reducible exact XS.out _ GA.out.bel | with_reducible exact XS.out _ GB.out.bel | with_reducible exact XS.out _ GC.out.bel | fail)
            (first
              | ((with_reducible refine step_run3 HA1.out (.tmp 55) (.tmp 61) ?_ ?_ ?_ ?_ ?_ ?_); rfl; rfl; rfl; rfl; rfl)
              | ((with_reducible refine step_run3 HB1.out (.tmp 55) (.tmp 61) ?_ ?_ ?_ ?_ ?_ ?_); rfl; rfl; rfl; rfl; rfl)
              | ((with_reducible refine step_run3 HC1.out (.tmp 55) (.tmp 61) ?_ ?_ ?_ ?_ ?_ ?_); rfl; rfl; rfl; rfl; rfl)
              | ((with_reducible refine step_run3 HA2.out (.tmp 62) (.tmp 64) ?_ ?_ ?_ ?_ ?_ ?_); rfl; rfl; rfl; rfl; rfl; have F9 := GA)
              | ((with_reducible refine step_run3 HB2.out (.tmp 62) (.tmp 64) ?_ ?_ ?_ ?_ ?_ ?_); rfl; rfl; rfl; rfl; rfl; have F9 := GB)
              | ((with_reducible refine step_run3 HC2.out (.tmp 62) (.tmp 64) ?_ ?_ ?_ ?_ ?_ ?_); rfl; rfl; rfl; rfl; rfl; have F9 := GC)
              | fail)
          all_goals
            obtain ⟨q1, -, -, -⟩ := XS.out _ F9.out.bel
            have hlt9 : (G.take m ++ [(d, da, dc)]).length = m + 1 := by rw [List.length_append, List.length_take, Nat.min_eq_left hm]; rfl
            obtain ⟨ta, tc, W7, r7, F7, -⟩ := F9.out.app (M := G.drop m) (m := G.length - m) (ty := 28) (src := .slice (some ⟨b, m * 3, Option.none⟩) (G.length - m) (gc - m)) (by rw [List.length_drop]) (.inr ⟨⟨b, m * 3, Option.none⟩, gc - m, rfl, HCD.out _ F9.out.bel⟩) (by rw [hlt9]; omega)
            rw [hlt9] at r7 F7
            obtain ⟨FIN, q2, q3⟩ := pu_ins (n := 0) hPk.out HSW.out HD.out hl F7 HPUT.out
            have R7 := Lib.hid r7
            have FIN := Lib.hid FIN
            clear r7 F7 F9 hlt9
            go_wp2_with (at_builtin; refine wpList_run rfl (.tmp 67) (.tmp 73) rfl rfl rfl R7.out ?_)
            go_end0
            exact FIN.out
    · obtain rfl : m = G.length := by omega
      go_wp2_with fail
      go_quiet (fail)
      go_wp2_with fail
      have hPj := Lib.hid (hP.out.drawn nq)
      generalize wr.drewN nq = wj at *
      clear c1 k0 k1 k2 hP
      obtain ⟨c1, k0, k1, k2⟩ := hPj.out.cells
      go_upto_region 4 with fail
      go_quiet (fail)
      go_wp2_with fail
      have hPk := Lib.hid (hPj.out.drawn nq)
      generalize wj.drewN nq = wk at *
      clear c1 k0 k1 k2 hPj
      rcases own_at hPk.out.rb.found with ⟨e, h9⟩ | ⟨b, cap, e, -, -, -, -⟩
      · obtain rfl : G = [] := List.eq_nil_of_length_eq_zero h9
        obtain ⟨rfl, -, rfl⟩ := Value.slice.inj e
        simp only [List.length_nil] at *
        clear e h9
        have hm : 0 ≤ ([] : List Gd).length := Nat.le_refl _
        have hGl : ([] : List Gd).length ≤ 900000 := Nat.zero_le _
        have hwk := hPk.out.bel.size
        have E0 : Fr wk (wk.alloc (.cells #[] 42)) (.slice (some ⟨wk.heap.size, 0, Option.none⟩) 0 0) [] := ⟨World.ownsRow_made wk #[] 0 (Nat.le_refl _) (by unfold maxLen; omega) rfl, Pk.below_alloc _ _⟩
        have zA : (wk.alloc (.cells #[] 42)).heap.size = wk.heap.size + 1 := World.size_alloc _ _
        have zX : (wk.alloc (.cells #[.string d.out, .int .i64 d.time, .slice da d.deps.length dc] 42)).heap.size = wk.heap.size + 1 := World.size_alloc _ _
        have bX : Below wk.heap.size wk (wk.alloc (.cells #[.string d.out, .int .i64 d.time, .slice da d.deps.length dc] 42)) := Pk.below_alloc _ _
        have EA : Fr wk (wk.alloc (.cells #[] 42)).drew (.slice (some ⟨wk.heap.size, 0, Option.none⟩) 0 0) [] := E0.keep (below_drew (Below.refl _ _))
        have EB : Fr wk ((wk.alloc (.cells #[] 42)).alloc (.cells #[.string d.out, .int .i64 d.time, .slice da d.deps.length dc] 42)).drew (.slice (some ⟨wk.heap.size, 0, Option.none⟩) 0 0) [] := (E0.keep (Pk.below_alloc _ _)).keep (below_drew (Below.refl _ _))
        have EC : Fr wk ((wk.alloc (.cells #[.string d.out, .int .i64 d.time, .slice da d.deps.length dc] 42)).alloc (.cells #[] 42)).drew (.slice (some ⟨wk.heap.size + 1, 0, Option.none⟩) 0 0) [] := by
          have h1 := World.ownsRow_made (base := wk.heap.size) (wk.alloc (.cells #[.string d.out, .int .i64 d.time, .slice da d.deps.length dc] 42)) #[] 0 (e := 42) (size := 3) (by rw [zX]; omega) (by unfold maxLen; omega) rfl
          rw [zX] at h1
          exact ⟨h1, below_drew (bX.alloc (by rw [zX]; omega) _)⟩
        have dB : ((wk.alloc (.cells #[] 42)).alloc (.cells #[.string d.out, .int .i64 d.time, .slice da d.deps.length dc] 42)).drew.heap[wk.heap.size + 1]? = some (.cells #[.string d.out, .int .i64 d.time, .slice da d.deps.length dc] 42 (0, 0)) := by rw [← zA]; exact heap_alloc_new _ _
        have dC : ((wk.alloc (.cells #[.string d.out, .int .i64 d.time, .slice da d.deps.length dc] 42)).alloc (.cells #[] 42)).drew.heap[wk.heap.size]? = some (.cells #[.string d.out, .int .i64 d.time, .slice da d.deps.length dc] 42 (0, 0)) := (Below.heap_alloc _ _ _ (by rw [zX]; omega)).trans (heap_alloc_new _ _)
        have hput : putL L d = L.take 0 ++ [d] ++ L.drop 0 := putL_ins hlo.out (by rw [← HLEN.out]; exact Nat.le_refl _) (fun x hx => by
          have h1 := (List.getElem?_eq_some_iff.1 hx).1
          rw [← HLEN.out] at h1
          exact absurd h1 (Nat.lt_irrefl _))
        have sA : (Value.slice Option.none 0 0 = .slice Option.none 0 0 ∧ 0 = 0) ∨ ∃ ad c, Value.slice Option.none 0 0 = .slice (some ad) 0 c ∧ ∀ j u, (depV (([] : List Gd).take 0))[j]? = some u → (wk.alloc (.cells #[] 42)).drew.cell? (ad.add j) = some u := .inl ⟨rfl, rfl⟩
        have sB : (Value.slice Option.none 0 0 = .slice Option.none 0 0 ∧ 0 = 0) ∨ ∃ ad c, Value.slice Option.none 0 0 = .slice (some ad) 0 c ∧ ∀ j u, (depV (([] : List Gd).take 0))[j]? = some u → ((wk.alloc (.cells #[] 42)).alloc (.cells #[.string d.out, .int .i64 d.time, .slice da d.deps.length dc] 42)).drew.cell? (ad.add j) = some u := .inl ⟨rfl, rfl⟩
        have sC : (Value.slice Option.none 0 0 = .slice Option.none 0 0 ∧ 0 = 0) ∨ ∃ ad c, Value.slice Option.none 0 0 = .slice (some ad) 0 c ∧ ∀ j u, (depV (([] : List Gd).take 0))[j]? = some u → ((wk.alloc (.cells #[.string d.out, .int .i64 d.time, .slice da d.deps.length dc] 42)).alloc (.cells #[] 42)).drew.cell? (ad.add j) = some u := .inl ⟨rfl, rfl⟩
        obtain ⟨taA, tcA, UA, rA1, bA1, raA, rcA, WA, rA2, FA, bA2⟩ := (ins_of (bd := 0) (d := d) (da := da) (dc := dc) true EA hm hGl sA (fun e => by cases e)).ex
        obtain ⟨taB, tcB, UB, rB1, bB1, raB, rcB, WB, rB2, FB, bB2⟩ := (ins_of (bd := wk.heap.size + 1) (d := d) (da := da) (dc := dc) false EB hm hGl sB (fun _ => ⟨by omega, lt_some dB, dB⟩)).ex
        obtain ⟨taC, tcC, UC, rC1, bC1, raC, rcC, WC, rC2, FC, bC2⟩ := (ins_of (bd := wk.heap.size) (d := d) (da := da) (dc := dc) false EC hm hGl sC (fun _ => ⟨by omega, lt_some dC, dC⟩)).ex
        simp only [if_true, Bool.false_eq_true, if_false] at rA2 rB2 rC2 bA2 bB2 bC2
        have XS : Hid (∀ (W : World), Below wk.heap.size wk W → (W.cell? ⟨p, 1, Option.none⟩ = some (.slice Option.none 0 0) ∧ W.cell? ⟨w.heap.size, 0, Option.none⟩ = some (.string d.out) ∧ W.cell? ⟨w.heap.size, 1, Option.none⟩ = some (.int .i64 d.time) ∧ W.cell? ⟨w.heap.size, 2, Option.none⟩ = some (.slice da d.deps.length dc))) := Lib.hid (fun W hb => (hPk.out.below hb).cells)
        have HA1 := Lib.hid rA1
        have HA2 := Lib.hid rA2
        have HB1 := Lib.hid rB1
        have HB2 := Lib.hid rB2
        have HC1 := Lib.hid rC1
        have HC2 := Lib.hid rC2
        have GA := Lib.hid FA
        have GB := Lib.hid FB
        have GC := Lib.hid FC
        have KA1 := Lib.hid bA1
        have KA2 := Lib.hid bA2
        have KB1 := Lib.hid bB1
        have KC1 := Lib.hid bC1
        have K0 := Lib.hid (below_drew (Below.refl wk.heap.size wk))
        have KEA := Lib.hid EA.bel
        have KEB := Lib.hid EB.bel
        have KEC := Lib.hid EC.bel
        have KX := Lib.hid (below_drew bX)
        have HPUT := Lib.hid hput
        clear E0 zA zX bX EA EB EC dB dC sA sB sC rA1 rA2 rB1 rB2 rC1 rC2 FA FB FC bA1 bA2 bB1 bB2 bC1 bC2 hput
        go_region_held3 (fun w' => w'.cell? ⟨p, 1, Option.none⟩ = some (.slice Option.none 0 0) ∧ w'.cell? ⟨w.heap.size, 0, Option.none⟩ = some (.string d.out) ∧ w'.cell? ⟨w.heap.size, 1, Option.none⟩ = some (.int .i64 d.time) ∧ w'.cell? ⟨w.heap.size, 2, Option.none⟩ = some (.slice da d.deps.length dc))
          (first | with_reducible exact XS.out _ K0.out | with_reducible exact XS.out _ KEA.out | with_reducible exact XS.out _ KEB.out | with_reducible exact XS.out _ KEC.out | with_reducible exact XS.out _ KX.out | with_reducible exact XS.out _ KA1.out | with_reducible exact XS.out _ KA2.out | with_reducible exact XS.out _ KB1.out | with_reducible exact XS.out _ KC1.out | with_reducible exact XS.out _ GA.out.bel | with_reducible exact XS.out _ GB.out.bel | with_reducible exact XS.out _ GC.out.bel | fail)
          (first
            | ((with_reducible refine step_run3 HA1.out (.tmp 55) (.tmp 61) ?_ ?_ ?_ ?_ ?_ ?_); rfl; rfl; rfl; rfl; rfl)
            | ((with_reducible refine step_run3 HB1.out (.tmp 55) (.tmp 61) ?_ ?_ ?_ ?_ ?_ ?_); rfl; rfl; rfl; rfl; rfl)
            | ((with_reducible refine step_run3 HC1.out (.tmp 55) (.tmp 61) ?_ ?_ ?_ ?_ ?_ ?_); rfl; rfl; rfl; rfl; rfl)
            | ((with_reducible refine step_run3 HA2.out (.tmp 62) (.tmp 64) ?_ ?_ ?_ ?_ ?_ ?_); rfl; rfl; rfl; rfl; rfl; have F9 := GA)
            | ((with_reducible refine step_run3 HB2.out (.tmp 62) (.tmp 64) ?_ ?_ ?_ ?_ ?_ ?_); rfl; rfl; rfl; rfl; rfl; have F9 := GB)
            | ((with_reducible refine step_run3 HC2.out (.tmp 62) (.tmp 64) ?_ ?_ ?_ ?_ ?_ ?_); rfl; rfl; rfl; rfl; rfl; have F9 := GC)
            | fail)
        all_goals
          obtain ⟨q1, -, -, -⟩ := XS.out _ F9.out.bel
          have hlt9 : (([] : List Gd).take 0 ++ [(d, da, dc)]).length = 0 + 1 := by rw [List.length_append, List.length_take, Nat.min_eq_left hm]; rfl
          obtain ⟨ta, tc, W7, r7, F7, -⟩ := F9.out.app (M := []) (m := 0) (ty := 28) (src := .slice Option.none 0 0) rfl (.inl ⟨rfl, rfl⟩) (by rw [hlt9]; omega)
          rw [hlt9] at r7 F7
          have F7 : Fr wk W7 (.slice ta (0 + 1 + 0) tc) (([] : List Gd).take 0 ++ [(d, da, dc)] ++ ([] : List Gd).drop 0) := by
            have e9 : ([] : List Gd).drop 0 = [] := List.drop_of_length_le (Nat.le_refl _)
            rw [e9]
            exact F7
          obtain ⟨FIN, q2, q3⟩ := pu_ins (n := 0) (G := []) (m := 0) hPk.out HSW.out HD.out hl F7 HPUT.out
          have R7 := Lib.hid r7
          have FIN := Lib.hid FIN
          clear r7 F7 F9 hlt9
          go_wp2_with (at_builtin; refine wpList_run rfl (.tmp 67) (.tmp 73) rfl rfl rfl R7.out ?_)
          go_end0
          exact FIN.out
      · obtain ⟨rfl, -, rfl⟩ := Value.slice.inj e
        clear e
        by_cases hmc : G.length < gc
        · skip
          have hm : G.length ≤ G.length := Nat.le_refl _
          have hq4 : ((G.length : Nat) : Int) ≤ ((gc : Nat) : Int) := by omega
          have hq5 : ((G.length : Nat) : Int) < ((gc : Nat) : Int) := by omega
          have hwk := hPk.out.bel.size
          have E0 : Fr wk (wk.alloc (.cells #[] 42)) (.slice (some ⟨wk.heap.size, 0, Option.none⟩) 0 0) [] := ⟨World.ownsRow_made wk #[] 0 (Nat.le_refl _) (by unfold maxLen; omega) rfl, Pk.below_alloc _ _⟩
          have zA : (wk.alloc (.cells #[] 42)).heap.size = wk.heap.size + 1 := World.size_alloc _ _
          have zX : (wk.alloc (.cells #[.string d.out, .int .i64 d.time, .slice da d.deps.length dc] 42)).heap.size = wk.heap.size + 1 := World.size_alloc _ _
          have bX : Below wk.heap.size wk (wk.alloc (.cells #[.string d.out, .int .i64 d.time, .slice da d.deps.length dc] 42)) := Pk.below_alloc _ _
          have EA : Fr wk (wk.alloc (.cells #[] 42)).drew (.slice (some ⟨wk.heap.size, 0, Option.none⟩) 0 0) [] := E0.keep (below_drew (Below.refl _ _))
          have EB : Fr wk ((wk.alloc (.cells #[] 42)).alloc (.cells #[.string d.out, .int .i64 d.time, .slice da d.deps.length dc] 42)).drew (.slice (some ⟨wk.heap.size, 0, Option.none⟩) 0 0) [] := (E0.keep (Pk.below_alloc _ _)).keep (below_drew (Below.refl _ _))
          have EC : Fr wk ((wk.alloc (.cells #[.string d.out, .int .i64 d.time, .slice da d.deps.length dc] 42)).alloc (.cells #[] 42)).drew (.slice (some ⟨wk.heap.size + 1, 0, Option.none⟩) 0 0) [] := by
            have h1 := World.ownsRow_made (base := wk.heap.size) (wk.alloc (.cells #[.string d.out, .int .i64 d.time, .slice da d.deps.length dc] 42)) #[] 0 (e := 42) (size := 3) (by rw [zX]; omega) (by unfold maxLen; omega) rfl
            rw [zX] at h1
            exact ⟨h1, below_drew (bX.alloc (by rw [zX]; omega) _)⟩
          have dB : ((wk.alloc (.cells #[] 42)).alloc (.cells #[.string d.out, .int .i64 d.time, .slice da d.deps.length dc] 42)).drew.heap[wk.heap.size + 1]? = some (.cells #[.string d.out, .int .i64 d.time, .slice da d.deps.length dc] 42 (0, 0)) := by rw [← zA]; exact heap_alloc_new _ _
          have dC : ((wk.alloc (.cells #[.string d.out, .int .i64 d.time, .slice da d.deps.length dc] 42)).alloc (.cells #[] 42)).drew.heap[wk.heap.size]? = some (.cells #[.string d.out, .int .i64 d.time, .slice da d.deps.length dc] 42 (0, 0)) := (Below.heap_alloc _ _ _ (by rw [zX]; omega)).trans (heap_alloc_new _ _)
          have hput : putL L d = L.take G.length ++ [d] ++ L.drop G.length := putL_ins hlo.out (by rw [← HLEN.out]; exact Nat.le_refl _) (fun x hx => by
            have h1 := (List.getElem?_eq_some_iff.1 hx).1
            rw [← HLEN.out] at h1
            exact absurd h1 (Nat.lt_irrefl _))
          have hcs : ∀ (W : World), Below wk.heap.size wk W → ∀ j u, (depV (G.take G.length))[j]? = some u → W.cell? ((⟨b, 0, Option.none⟩ : Addr).add j) = some u := fun W hb j u hu => by
            have h1 := depV_take G G.length j u hu
            obtain ⟨-, cur, hc⟩ := owns_block hPk.out.rb.found (g := b) rfl
            rw [Go.WideShapes.add_plain, Nat.zero_add]
            refine (cell_of_block (hb.block b (lt_some hc))).trans ?_
            rcases own_at hPk.out.rb.found with ⟨e, _⟩ | ⟨b9, cap, e, _, _, _, hc⟩
            · cases e
            · cases e
              exact hc _ _ h1
          have sA : (Value.slice (some ⟨b, 0, Option.none⟩) G.length gc = .slice Option.none 0 0 ∧ G.length = 0) ∨ ∃ ad c, Value.slice (some ⟨b, 0, Option.none⟩) G.length gc = .slice (some ad) G.length c ∧ ∀ j u, (depV (G.take G.length))[j]? = some u → (wk.alloc (.cells #[] 42)).drew.cell? (ad.add j) = some u := .inr ⟨_, _, rfl, hcs _ EA.bel⟩
          have sB : (Value.slice (some ⟨b, 0, Option.none⟩) G.length gc = .slice Option.none 0 0 ∧ G.length = 0) ∨ ∃ ad c, Value.slice (some ⟨b, 0, Option.none⟩) G.length gc = .slice (some ad) G.length c ∧ ∀ j u, (depV (G.take G.length))[j]? = some u → ((wk.alloc (.cells #[] 42)).alloc (.cells #[.string d.out, .int .i64 d.time, .slice da d.deps.length dc] 42)).drew.cell? (ad.add j) = some u := .inr ⟨_, _, rfl, hcs _ EB.bel⟩
          have sC : (Value.slice (some ⟨b, 0, Option.none⟩) G.length gc = .slice Option.none 0 0 ∧ G.length = 0) ∨ ∃ ad c, Value.slice (some ⟨b, 0, Option.none⟩) G.length gc = .slice (some ad) G.length c ∧ ∀ j u, (depV (G.take G.length))[j]? = some u → ((wk.alloc (.cells #[.string d.out, .int .i64 d.time, .slice da d.deps.length dc] 42)).alloc (.cells #[] 42)).drew.cell? (ad.add j) = some u := .inr ⟨_, _, rfl, hcs _ EC.bel⟩
          obtain ⟨taA, tcA, UA, rA1, bA1, raA, rcA, WA, rA2, FA, bA2⟩ := (ins_of (bd := 0) (d := d) (da := da) (dc := dc) true EA hm hGl sA (fun e => by cases e)).ex
          obtain ⟨taB, tcB, UB, rB1, bB1, raB, rcB, WB, rB2, FB, bB2⟩ := (ins_of (bd := wk.heap.size + 1) (d := d) (da := da) (dc := dc) false EB hm hGl sB (fun _ => ⟨by omega, lt_some dB, dB⟩)).ex
          obtain ⟨taC, tcC, UC, rC1, bC1, raC, rcC, WC, rC2, FC, bC2⟩ := (ins_of (bd := wk.heap.size) (d := d) (da := da) (dc := dc) false EC hm hGl sC (fun _ => ⟨by omega, lt_some dC, dC⟩)).ex
          simp only [if_true, Bool.false_eq_true, if_false] at rA2 rB2 rC2 bA2 bB2 bC2
          have XS : Hid (∀ (W : World), Below wk.heap.size wk W → (W.cell? ⟨p, 1, Option.none⟩ = some (.slice (some ⟨b, 0, Option.none⟩) G.length gc) ∧ W.cell? ⟨w.heap.size, 0, Option.none⟩ = some (.string d.out) ∧ W.cell? ⟨w.heap.size, 1, Option.none⟩ = some (.int .i64 d.time) ∧ W.cell? ⟨w.heap.size, 2, Option.none⟩ = some (.slice da d.deps.length dc))) := Lib.hid (fun W hb => (hPk.out.below hb).cells)
          have HA1 := Lib.hid rA1
          have HA2 := Lib.hid rA2
          have HB1 := Lib.hid rB1
          have HB2 := Lib.hid rB2
          have HC1 := Lib.hid rC1
          have HC2 := Lib.hid rC2
          have GA := Lib.hid FA
          have GB := Lib.hid FB
          have GC := Lib.hid FC
          have KA1 := Lib.hid bA1
          have KA2 := Lib.hid bA2
          have KB1 := Lib.hid bB1
          have KC1 := Lib.hid bC1
          have K0 := Lib.hid (below_drew (Below.refl wk.heap.size wk))
          have KEA := Lib.hid EA.bel
          have KEB := Lib.hid EB.bel
          have KEC := Lib.hid EC.bel
          have KX := Lib.hid (below_drew bX)
          have HPUT := Lib.hid hput
          have hm0 : (0 : Int) ≤ ((G.length : Nat) : Int) := by omega
          have hm2 : ((G.length : Nat) : Int) ≤ ((gc : Nat) : Int) := by omega
          clear E0 zA zX bX EA EB EC dB dC sA sB sC hcs rA1 rA2 rB1 rB2 rC1 rC2 FA FB FC bA1 bA2 bB1 bB2 bC1 bC2 hput
          go_region_held3 (fun w' => w'.cell? ⟨p, 1, Option.none⟩ = some (.slice (some ⟨b, 0, Option.none⟩) G.length gc) ∧ w'.cell? ⟨w.heap.size, 0, Option.none⟩ = some (.string d.out) ∧ w'.cell? ⟨w.heap.size, 1, Option.none⟩ = some (.int .i64 d.time) ∧ w'.cell? ⟨w.heap.size, 2, Option.none⟩ = some (.slice da d.deps.length dc))
            (first | with_reducible exact XS.out _ K0.out | with_reducible exact XS.out _ KEA.out | with_reducible exact XS.out _ KEB.out | with_reducible exact XS.out _ KEC.out | with_reducible exact XS.out _ KX.out | with_reducible exact XS.out _ KA1.out | with_reducible exact XS.out _ KA2.out | with_reducible exact XS.out _ KB1.out | with_reducible exact XS.out _ KC1.out | with_reducible exact XS.out _ GA.out.bel | with_reducible exact XS.out _ GB.out.bel | with_reducible exact XS.out _ GC.out.bel | fail)
            (first
              | ((with_reducible refine step_run3 HA1.out (.tmp 55) (.tmp 61) ?_ ?_ ?_ ?_ ?_ ?_); rfl; rfl; rfl; rfl; rfl)
              | ((with_reducible refine step_run3 HB1.out (.tmp 55) (.tmp 61) ?_ ?_ ?_ ?_ ?_ ?_); rfl; rfl; rfl; rfl; rfl)
              | ((with_reducible refine step_run3 HC1.out (.tmp 55) (.tmp 61) ?_ ?_ ?_ ?_ ?_ ?_); rfl; rfl; rfl; rfl; rfl)
              | ((with_reducible refine step_run3 HA2.out (.tmp 62) (.tmp 64) ?_ ?_ ?_ ?_ ?_ ?_); rfl; rfl; rfl; rfl; rfl; have F9 := GA)
              | ((with_reducible refine step_run3 HB2.out (.tmp 62) (.tmp 64) ?_ ?_ ?_ ?_ ?_ ?_); rfl; rfl; rfl; rfl; rfl; have F9 := GB)
              | ((with_reducible refine step_run3 HC2.out (.tmp 62) (.tmp 64) ?_ ?_ ?_ ?_ ?_ ?_); rfl; rfl; rfl; rfl; rfl; have F9 := GC)
              | fail)
          all_goals
            obtain ⟨q1, -, -, -⟩ := XS.out _ F9.out.bel
            have hlt9 : (G.take G.length ++ [(d, da, dc)]).length = G.length + 1 := by rw [List.length_append, List.length_take, Nat.min_eq_left hm]; rfl
            obtain ⟨ta, tc, W7, r7, F7, -⟩ := F9.out.app (M := []) (m := 0) (ty := 28) (src := .slice (some ⟨b, G.length * 3, Option.none⟩) 0 (gc - G.length)) rfl (.inr ⟨⟨b, G.length * 3, Option.none⟩, gc - G.length, rfl, fun j u hu => by simp [depV] at hu⟩) (by rw [hlt9]; omega)
            rw [hlt9] at r7 F7
            have F7 : Fr wk W7 (.slice ta (G.length + 1 + 0) tc) (G.take G.length ++ [(d, da, dc)] ++ G.drop G.length) := by
              have e9 : G.drop G.length = [] := List.drop_of_length_le (Nat.le_refl _)
              rw [e9]
              exact F7
            obtain ⟨FIN, q2, q3⟩ := pu_ins (n := 0) (G := G) (m := G.length) hPk.out HSW.out HD.out hl F7 HPUT.out
            have R7 := Lib.hid r7
            have FIN := Lib.hid FIN
            clear r7 F7 F9 hlt9
            go_wp2_with (at_builtin; refine wpList_run rfl (.tmp 67) (.tmp 73) rfl rfl rfl R7.out ?_)
            go_end0
            exact FIN.out
        · obtain rfl : gc = G.length := by omega
          have hm : G.length ≤ G.length := Nat.le_refl _
          have hwk := hPk.out.bel.size
          have E0 : Fr wk (wk.alloc (.cells #[] 42)) (.slice (some ⟨wk.heap.size, 0, Option.none⟩) 0 0) [] := ⟨World.ownsRow_made wk #[] 0 (Nat.le_refl _) (by unfold maxLen; omega) rfl, Pk.below_alloc _ _⟩
          have zA : (wk.alloc (.cells #[] 42)).heap.size = wk.heap.size + 1 := World.size_alloc _ _
          have zX : (wk.alloc (.cells #[.string d.out, .int .i64 d.time, .slice da d.deps.length dc] 42)).heap.size = wk.heap.size + 1 := World.size_alloc _ _
          have bX : Below wk.heap.size wk (wk.alloc (.cells #[.string d.out, .int .i64 d.time, .slice da d.deps.length dc] 42)) := Pk.below_alloc _ _
          have EA : Fr wk (wk.alloc (.cells #[] 42)).drew (.slice (some ⟨wk.heap.size, 0, Option.none⟩) 0 0) [] := E0.keep (below_drew (Below.refl _ _))
          have EB : Fr wk ((wk.alloc (.cells #[] 42)).alloc (.cells #[.string d.out, .int .i64 d.time, .slice da d.deps.length dc] 42)).drew (.slice (some ⟨wk.heap.size, 0, Option.none⟩) 0 0) [] := (E0.keep (Pk.below_alloc _ _)).keep (below_drew (Below.refl _ _))
          have EC : Fr wk ((wk.alloc (.cells #[.string d.out, .int .i64 d.time, .slice da d.deps.length dc] 42)).alloc (.cells #[] 42)).drew (.slice (some ⟨wk.heap.size + 1, 0, Option.none⟩) 0 0) [] := by
            have h1 := World.ownsRow_made (base := wk.heap.size) (wk.alloc (.cells #[.string d.out, .int .i64 d.time, .slice da d.deps.length dc] 42)) #[] 0 (e := 42) (size := 3) (by rw [zX]; omega) (by unfold maxLen; omega) rfl
            rw [zX] at h1
            exact ⟨h1, below_drew (bX.alloc (by rw [zX]; omega) _)⟩
          have dB : ((wk.alloc (.cells #[] 42)).alloc (.cells #[.string d.out, .int .i64 d.time, .slice da d.deps.length dc] 42)).drew.heap[wk.heap.size + 1]? = some (.cells #[.string d.out, .int .i64 d.time, .slice da d.deps.length dc] 42 (0, 0)) := by rw [← zA]; exact heap_alloc_new _ _
          have dC : ((wk.alloc (.cells #[.string d.out, .int .i64 d.time, .slice da d.deps.length dc] 42)).alloc (.cells #[] 42)).drew.heap[wk.heap.size]? = some (.cells #[.string d.out, .int .i64 d.time, .slice da d.deps.length dc] 42 (0, 0)) := (Below.heap_alloc _ _ _ (by rw [zX]; omega)).trans (heap_alloc_new _ _)
          have hput : putL L d = L.take G.length ++ [d] ++ L.drop G.length := putL_ins hlo.out (by rw [← HLEN.out]; exact Nat.le_refl _) (fun x hx => by
            have h1 := (List.getElem?_eq_some_iff.1 hx).1
            rw [← HLEN.out] at h1
            exact absurd h1 (Nat.lt_irrefl _))
          have hcs : ∀ (W : World), Below wk.heap.size wk W → ∀ j u, (depV (G.take G.length))[j]? = some u → W.cell? ((⟨b, 0, Option.none⟩ : Addr).add j) = some u := fun W hb j u hu => by
            have h1 := depV_take G G.length j u hu
            obtain ⟨-, cur, hc⟩ := owns_block hPk.out.rb.found (g := b) rfl
            rw [Go.WideShapes.add_plain, Nat.zero_add]
            refine (cell_of_block (hb.block b (lt_some hc))).trans ?_
            rcases own_at hPk.out.rb.found with ⟨e, _⟩ | ⟨b9, cap, e, _, _, _, hc⟩
            · cases e
            · cases e
              exact hc _ _ h1
          have sA : (Value.slice (some ⟨b, 0, Option.none⟩) G.length G.length = .slice Option.none 0 0 ∧ G.length = 0) ∨ ∃ ad c, Value.slice (some ⟨b, 0, Option.none⟩) G.length G.length = .slice (some ad) G.length c ∧ ∀ j u, (depV (G.take G.length))[j]? = some u → (wk.alloc (.cells #[] 42)).drew.cell? (ad.add j) = some u := .inr ⟨_, _, rfl, hcs _ EA.bel⟩
          have sB : (Value.slice (some ⟨b, 0, Option.none⟩) G.length G.length = .slice Option.none 0 0 ∧ G.length = 0) ∨ ∃ ad c, Value.slice (some ⟨b, 0, Option.none⟩) G.length G.length = .slice (some ad) G.length c ∧ ∀ j u, (depV (G.take G.length))[j]? = some u → ((wk.alloc (.cells #[] 42)).alloc (.cells #[.string d.out, .int .i64 d.time, .slice da d.deps.length dc] 42)).drew.cell? (ad.add j) = some u := .inr ⟨_, _, rfl, hcs _ EB.bel⟩
          have sC : (Value.slice (some ⟨b, 0, Option.none⟩) G.length G.length = .slice Option.none 0 0 ∧ G.length = 0) ∨ ∃ ad c, Value.slice (some ⟨b, 0, Option.none⟩) G.length G.length = .slice (some ad) G.length c ∧ ∀ j u, (depV (G.take G.length))[j]? = some u → ((wk.alloc (.cells #[.string d.out, .int .i64 d.time, .slice da d.deps.length dc] 42)).alloc (.cells #[] 42)).drew.cell? (ad.add j) = some u := .inr ⟨_, _, rfl, hcs _ EC.bel⟩
          obtain ⟨taA, tcA, UA, rA1, bA1, raA, rcA, WA, rA2, FA, bA2⟩ := (ins_of (bd := 0) (d := d) (da := da) (dc := dc) true EA hm hGl sA (fun e => by cases e)).ex
          obtain ⟨taB, tcB, UB, rB1, bB1, raB, rcB, WB, rB2, FB, bB2⟩ := (ins_of (bd := wk.heap.size + 1) (d := d) (da := da) (dc := dc) false EB hm hGl sB (fun _ => ⟨by omega, lt_some dB, dB⟩)).ex
          obtain ⟨taC, tcC, UC, rC1, bC1, raC, rcC, WC, rC2, FC, bC2⟩ := (ins_of (bd := wk.heap.size) (d := d) (da := da) (dc := dc) false EC hm hGl sC (fun _ => ⟨by omega, lt_some dC, dC⟩)).ex
          simp only [if_true, Bool.false_eq_true, if_false] at rA2 rB2 rC2 bA2 bB2 bC2
          have XS : Hid (∀ (W : World), Below wk.heap.size wk W → (W.cell? ⟨p, 1, Option.none⟩ = some (.slice (some ⟨b, 0, Option.none⟩) G.length G.length) ∧ W.cell? ⟨w.heap.size, 0, Option.none⟩ = some (.string d.out) ∧ W.cell? ⟨w.heap.size, 1, Option.none⟩ = some (.int .i64 d.time) ∧ W.cell? ⟨w.heap.size, 2, Option.none⟩ = some (.slice da d.deps.length dc))) := Lib.hid (fun W hb => (hPk.out.below hb).cells)
          have HA1 := Lib.hid rA1
          have HA2 := Lib.hid rA2
          have HB1 := Lib.hid rB1
          have HB2 := Lib.hid rB2
          have HC1 := Lib.hid rC1
          have HC2 := Lib.hid rC2
          have GA := Lib.hid FA
          have GB := Lib.hid FB
          have GC := Lib.hid FC
          have KA1 := Lib.hid bA1
          have KA2 := Lib.hid bA2
          have KB1 := Lib.hid bB1
          have KC1 := Lib.hid bC1
          have K0 := Lib.hid (below_drew (Below.refl wk.heap.size wk))
          have KEA := Lib.hid EA.bel
          have KEB := Lib.hid EB.bel
          have KEC := Lib.hid EC.bel
          have KX := Lib.hid (below_drew bX)
          have HPUT := Lib.hid hput
          have hm0 : (0 : Int) ≤ ((G.length : Nat) : Int) := by omega
          have hm2 : ((G.length : Nat) : Int) ≤ ((G.length : Nat) : Int) := by omega
          clear E0 zA zX bX EA EB EC dB dC sA sB sC hcs rA1 rA2 rB1 rB2 rC1 rC2 FA FB FC bA1 bA2 bB1 bB2 bC1 bC2 hput
          go_region_held3 (fun w' => w'.cell? ⟨p, 1, Option.none⟩ = some (.slice (some ⟨b, 0, Option.none⟩) G.length G.length) ∧ w'.cell? ⟨w.heap.size, 0, Option.none⟩ = some (.string d.out) ∧ w'.cell? ⟨w.heap.size, 1, Option.none⟩ = some (.int .i64 d.time) ∧ w'.cell? ⟨w.heap.size, 2, Option.none⟩ = some (.slice da d.deps.length dc))
            (first | with_reducible exact XS.out _ K0.out | with_reducible exact XS.out _ KEA.out | with_reducible exact XS.out _ KEB.out | with_reducible exact XS.out _ KEC.out | with_reducible exact XS.out _ KX.out | with_reducible exact XS.out _ KA1.out | with_reducible exact XS.out _ KA2.out | with_reducible exact XS.out _ KB1.out | with_reducible exact XS.out _ KC1.out | with_reducible exact XS.out _ GA.out.bel | with_reducible exact XS.out _ GB.out.bel | with_reducible exact XS.out _ GC.out.bel | fail)
            (first
              | ((with_reducible refine step_run3 HA1.out (.tmp 55) (.tmp 61) ?_ ?_ ?_ ?_ ?_ ?_); rfl; rfl; rfl; rfl; rfl)
              | ((with_reducible refine step_run3 HB1.out (.tmp 55) (.tmp 61) ?_ ?_ ?_ ?_ ?_ ?_); rfl; rfl; rfl; rfl; rfl)
              | ((with_reducible refine step_run3 HC1.out (.tmp 55) (.tmp 61) ?_ ?_ ?_ ?_ ?_ ?_); rfl; rfl; rfl; rfl; rfl)
              | ((with_reducible refine step_run3 HA2.out (.tmp 62) (.tmp 64) ?_ ?_ ?_ ?_ ?_ ?_); rfl; rfl; rfl; rfl; rfl; have F9 := GA)
              | ((with_reducible refine step_run3 HB2.out (.tmp 62) (.tmp 64) ?_ ?_ ?_ ?_ ?_ ?_); rfl; rfl; rfl; rfl; rfl; have F9 := GB)
              | ((with_reducible refine step_run3 HC2.out (.tmp 62) (.tmp 64) ?_ ?_ ?_ ?_ ?_ ?_); rfl; rfl; rfl; rfl; rfl; have F9 := GC)
              | fail)
          all_goals
            obtain ⟨q1, -, -, -⟩ := XS.out _ F9.out.bel
            have hlt9 : (G.take G.length ++ [(d, da, dc)]).length = G.length + 1 := by rw [List.length_append, List.length_take, Nat.min_eq_left hm]; rfl
            obtain ⟨ta, tc, W7, r7, F7, -⟩ := F9.out.app (M := []) (m := 0) (ty := 28) (src := .slice (some ⟨b, 0, Option.none⟩) 0 0) rfl (.inr ⟨⟨b, 0, Option.none⟩, 0, rfl, fun j u hu => by simp [depV] at hu⟩) (by rw [hlt9]; omega)
            rw [hlt9] at r7 F7
            have F7 : Fr wk W7 (.slice ta (G.length + 1 + 0) tc) (G.take G.length ++ [(d, da, dc)] ++ G.drop G.length) := by
              have e9 : G.drop G.length = [] := List.drop_of_length_le (Nat.le_refl _)
              rw [e9]
              exact F7
            obtain ⟨FIN, q2, q3⟩ := pu_ins (n := 0) (G := G) (m := G.length) hPk.out HSW.out HD.out hl F7 HPUT.out
            have R7 := Lib.hid r7
            have FIN := Lib.hid FIN
            clear r7 F7 F9 hlt9
            go_wp2_with (at_builtin; refine wpList_run rfl (.tmp 67) (.tmp 73) rfl rfl rfl R7.out ?_)
            go_end0
            exact FIN.out
end Go.Proofs.Ytofdnbddpageoaa.Nm
