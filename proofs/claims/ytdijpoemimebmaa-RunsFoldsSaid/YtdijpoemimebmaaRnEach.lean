/-
  A RUN IN MEMORY; its parts, handed out one by one (runs.eachPart).
-/
import Derived.Test.YtdijpoemimebmaaRnBack
import Derived.Test.YtdijpoemimebmaaCrcH
namespace Go.Proofs.Ytdijpoemimebmaa.Rn
open Go.RowKit
open Go.Proofs.Ytdijpoemimebmaa.Cr

/-- a slice's value reads as these inputs; as these times -/
def InRow (w : World) (v : Value) (L : List In) : Prop :=
  ∃ a c, v = .slice a L.length c ∧ (a = Option.none → c = 0) ∧ L.length ≤ c ∧ (L = [] ∨ ∃ b off, a = some ⟨b, off, Option.none⟩ ∧ b < w.heap.size ∧
    ∀ i x, L[i]? = some x → w.cell? ⟨b, off + i * 2, Option.none⟩ = some (.string x.name) ∧ w.cell? ⟨b, off + i * 2 + 1, Option.none⟩ = some (.int .i64 x.time))

def FdRow (w : World) (v : Value) (L : List Int) : Prop :=
  ∃ a c, v = .slice a L.length c ∧ (a = Option.none → c = 0) ∧ L.length ≤ c ∧ (L = [] ∨ ∃ b off, a = some ⟨b, off, Option.none⟩ ∧ b < w.heap.size ∧
    ∀ i t, L[i]? = some t → w.cell? ⟨b, off + i, Option.none⟩ = some (.int .i64 t))

/-- the cells of a run -/
def runC (r : Run) (vi vf : Value) : Array Value := #[.string r.out, .string r.cmd, .int .i64 r.time, .int .i64 r.mark, vi, vf]

structure Box (w : World) (p : Nat) (r : Run) (vi vf : Value) : Prop where
  c0 : w.cell? ⟨p, 0, Option.none⟩ = some (.string r.out)
  c1 : w.cell? ⟨p, 1, Option.none⟩ = some (.string r.cmd)
  c2 : w.cell? ⟨p, 2, Option.none⟩ = some (.int .i64 r.time)
  c3 : w.cell? ⟨p, 3, Option.none⟩ = some (.int .i64 r.mark)
  c4 : w.cell? ⟨p, 4, Option.none⟩ = some vi
  c5 : w.cell? ⟨p, 5, Option.none⟩ = some vf
  ins : InRow w vi r.ins
  fds : FdRow w vf r.found

theorem parts_ins {r : Run} {j : Nat} {x : In} (h : r.ins[j]? = some x) : ∃ post post2,
    parts r = ([.T r.out, .T r.cmd, .M r.time, .M r.mark, .C r.ins.length] ++ insP (r.ins.take j)) ++ .T x.name :: post ∧
    parts r = ([.T r.out, .T r.cmd, .M r.time, .M r.mark, .C r.ins.length] ++ insP (r.ins.take j) ++ [.T x.name]) ++ .M x.time :: post2 ∧
    insP (r.ins.take (j + 1)) = insP (r.ins.take j) ++ [.T x.name] ++ [.M x.time] := by
  have hj : j < r.ins.length := by
    rcases Nat.lt_or_ge j r.ins.length with h' | h'
    · exact h'
    · rw [List.getElem?_eq_none h'] at h; cases h
  have e : r.ins = r.ins.take j ++ x :: r.ins.drop (j + 1) := by
    have hx : r.ins[j] = x := by rw [List.getElem?_eq_getElem hj] at h; exact Option.some.inj h
    rw [← hx, ← List.drop_eq_getElem_cons hj, List.take_append_drop]
  have ei : insP r.ins = insP (r.ins.take j) ++ (.T x.name :: .M x.time :: insP (r.ins.drop (j + 1))) := by
    conv => lhs; rw [e]
    simp [insP]
  have ep : parts r = [.T r.out, .T r.cmd, .M r.time, .M r.mark, .C r.ins.length] ++ insP r.ins ++ [.C r.found.length] ++ r.found.map .M := rfl
  refine ⟨.M x.time :: (insP (r.ins.drop (j + 1)) ++ [.C r.found.length] ++ r.found.map .M), insP (r.ins.drop (j + 1)) ++ [.C r.found.length] ++ r.found.map .M, ?_, ?_, ?_⟩
  · rw [ep, ei]; simp
  · rw [ep, ei]; simp
  · have : r.ins.take (j + 1) = r.ins.take j ++ [x] := by rw [List.take_add_one, h]; rfl
    rw [this]; simp [insP]

theorem parts_fds {r : Run} {j : Nat} {t : Int} (h : r.found[j]? = some t) : ∃ post,
    parts r = ([.T r.out, .T r.cmd, .M r.time, .M r.mark, .C r.ins.length] ++ insP r.ins ++ [.C r.found.length] ++ (r.found.take j).map .M) ++ .M t :: post ∧ (r.found.take (j + 1)).map Part.M = (r.found.take j).map .M ++ [.M t] := by
  have hj : j < r.found.length := by
    rcases Nat.lt_or_ge j r.found.length with h' | h'
    · exact h'
    · rw [List.getElem?_eq_none h'] at h; cases h
  have e : r.found = r.found.take j ++ t :: r.found.drop (j + 1) := by
    have hx : r.found[j] = t := by rw [List.getElem?_eq_getElem hj] at h; exact Option.some.inj h
    rw [← hx, ← List.drop_eq_getElem_cons hj, List.take_append_drop]
  have ep : parts r = [.T r.out, .T r.cmd, .M r.time, .M r.mark, .C r.ins.length] ++ insP r.ins ++ [.C r.found.length] ++ r.found.map .M := rfl
  refine ⟨(r.found.drop (j + 1)).map .M, ?_, ?_⟩
  · rw [ep]
    conv => lhs; rw [e]
    simp only [List.map_append, List.map_cons, List.append_assoc, List.length_append, List.length_take, List.length_cons, List.length_drop]
    rw [show min j r.found.length + (r.found.length - (j + 1) + 1) = r.found.length from by omega]
  · rw [List.take_add_one, h]; simp

/-- a closure does a part: what holds behind the parts ahead holds behind it, too -/
def Does (F : Nat) (cs : Array Value) (r : Run) (v : Part → Value) (Inv : List Part → World → Prop) (Ch : World → Nat → Prop) (p : Part → Prop) : Prop :=
  (∀ x W, Sem.run Try.prog (callFunc F (#[x] ++ cs)) W = .ok (.enter F (#[x] ++ cs)) W) ∧
  ∀ ps x post W, p x → parts r = ps ++ x :: post → Inv ps W → Calls Try.prog F (#[v x] ++ cs) W fun e W' => (∃ z, e = .returned z) ∧ Inv (ps ++ [x]) W' ∧ ∀ k, k < W.heap.size → ¬ Ch W k → W'.heap[k]? = W.heap[k]?

def pv : Part → Value
  | .T s => .string s
  | .M t => .int .i64 t
  | .C n => .int .i64 n

def isT : Part → Prop | .T _ => True | _ => False
def isM : Part → Prop | .M _ => True | _ => False
def isC : Part → Prop | .C _ => True | _ => False

theorem cell_of_block {w w' : World} {k j : Nat} (h : w'.heap[k]? = w.heap[k]?) : w'.cell? ⟨k, j, Option.none⟩ = w.cell? ⟨k, j, Option.none⟩ := by
  unfold World.cell?
  rw [h]

set_option maxHeartbeats 4000000 in
theorem each_c {FT FM FC : Nat} {cT cM cC : Array Value} {r : Run} {vi vf : Value} {Inv : List Part → World → Prop} {Ch : World → Nat → Prop} {w : World} (hni : r.ins.length ≤ 1000000) (hnf : r.found.length ≤ 1000000)
    (hT : Does FT cT r pv Inv Ch isT) (hM : Does FM cM r pv Inv Ch isM) (hC : Does FC cC r pv Inv Ch isC)
    (hA : ∀ ps W C, Inv ps W → Inv ps (W.alloc (.cells C 59)) ∧ ¬ Ch (W.alloc (.cells C 59)) W.heap.size) (hR : ∀ ps W, Inv ps W → Box W w.heap.size r vi vf) (h0 : Inv [] (w.alloc (.cells (runC r vi vf) 33))) :
    Calls Try.prog 24 #[.agg (runC r vi vf), .func (.func FT) #[] cT, .func (.func FM) #[] cM, .func (.func FC) #[] cC] w fun e w' => (∃ z, e = .returned z) ∧ Inv (parts r) w' := by
  obtain ⟨kT, hT⟩ := hT
  obtain ⟨kM, hM⟩ := hM
  obtain ⟨kC, hC⟩ := hC
  have HT := Lib.hid hT
  have HM := Lib.hid hM
  have HC := Lib.hid hC
  have HA := Lib.hid hA
  have HR := Lib.hid hR
  clear hT hM hC hA hR
  have b0 := HR.out _ _ h0
  obtain ⟨c0, c1, c2, c3, c4, c5, hI, hF⟩ := b0
  obtain ⟨W0, hW0⟩ : ∃ W, w.alloc (.cells (runC r vi vf) 33) = W := ⟨_, rfl⟩
  unfold runC at hW0 ⊢
  rw [show (w.alloc (.cells (runC r vi vf) 33)) = W0 from hW0] at *
  have H0 := Lib.hid h0
  clear h0
  obtain ⟨ai, ci, rfl, _, _, hrI⟩ := hI
  obtain ⟨af, cf, rfl, _, _, hrF⟩ := hF
  clear hrI hrF
  have P1 : parts r = [] ++ Part.T r.out :: (([.T r.cmd, .M r.time, .M r.mark, .C r.ins.length] ++ insP r.ins ++ [.C r.found.length] ++ r.found.map .M)) := rfl
  have P2 : parts r = [Part.T r.out] ++ .T r.cmd :: (([.M r.time, .M r.mark, .C r.ins.length] ++ insP r.ins ++ [.C r.found.length] ++ r.found.map .M)) := rfl
  have P3 : parts r = [Part.T r.out, .T r.cmd] ++ .M r.time :: (([.M r.mark, .C r.ins.length] ++ insP r.ins ++ [.C r.found.length] ++ r.found.map .M)) := rfl
  have P4 : parts r = [Part.T r.out, .T r.cmd, .M r.time] ++ .M r.mark :: (([.C r.ins.length] ++ insP r.ins ++ [.C r.found.length] ++ r.found.map .M)) := rfl
  have P5 : parts r = [Part.T r.out, .T r.cmd, .M r.time, .M r.mark] ++ .C r.ins.length :: ((insP r.ins ++ [.C r.found.length] ++ r.found.map .M)) := rfl
  have P6 : parts r = ([Part.T r.out, .T r.cmd, .M r.time, .M r.mark, .C r.ins.length] ++ insP r.ins) ++ .C r.found.length :: r.found.map .M := by simp [parts, insP]
  have q1 := HT.out [] (.T r.out) _ W0 trivial P1 H0.out
  have Q2 := Lib.hid fun W h => HT.out [.T r.out] (.T r.cmd) _ W trivial P2 h
  have Q3 := Lib.hid fun W h => HM.out [.T r.out, .T r.cmd] (.M r.time) _ W trivial P3 h
  have Q4 := Lib.hid fun W h => HM.out [.T r.out, .T r.cmd, .M r.time] (.M r.mark) _ W trivial P4 h
  have Q5 := Lib.hid fun W h => HC.out [.T r.out, .T r.cmd, .M r.time, .M r.mark] (.C r.ins.length) _ W trivial P5 h
  have Q6 := Lib.hid fun W h => HC.out ([.T r.out, .T r.cmd, .M r.time, .M r.mark, .C r.ins.length] ++ insP r.ins) (.C r.found.length) _ W trivial P6 h
  clear P1 P2 P3 P4 P5 P6
  go_enter Try.func24, Try.ntmps24
  go_wp2_with fail
  refine q1.mono ?_
  rintro e w1 ⟨⟨z1, rfl⟩, i1, -⟩
  clear q1 c0 c1 c2 c3 c4 c5
  obtain ⟨c0, c1, c2, c3, c4, c5, -, -⟩ := HR.out _ _ i1
  have q2 := Q2.out w1 i1
  clear i1 Q2
  go_wp2_with fail
  refine q2.mono ?_
  rintro e w2 ⟨⟨z2, rfl⟩, i2, -⟩
  clear q2 c0 c1 c2 c3 c4 c5
  obtain ⟨c0, c1, c2, c3, c4, c5, -, -⟩ := HR.out _ _ i2
  have q3 := Q3.out w2 i2
  clear i2 Q3
  go_wp2_with fail
  refine q3.mono ?_
  rintro e w3 ⟨⟨z3, rfl⟩, i3, -⟩
  clear q3 c0 c1 c2 c3 c4 c5
  obtain ⟨c0, c1, c2, c3, c4, c5, -, -⟩ := HR.out _ _ i3
  have q4 := Q4.out w3 i3
  clear i3 Q4
  go_wp2_with fail
  refine q4.mono ?_
  rintro e w4 ⟨⟨z4, rfl⟩, i4, -⟩
  clear q4 c0 c1 c2 c3 c4 c5
  obtain ⟨c0, c1, c2, c3, c4, c5, -, -⟩ := HR.out _ _ i4
  have q5 := Q5.out w4 i4
  clear i4 Q5
  go_wp2_with fail
  refine q5.mono ?_
  rintro e w5 ⟨⟨z5, rfl⟩, i5, -⟩
  clear q5 c0 c1 c2 c3 c4 c5
  obtain ⟨c0, c1, c2, c3, c4, c5, -, -⟩ := HR.out _ _ i5
  have I5 := Lib.hid i5
  clear i5
  go_wp2_with fail
  go_loopw [36] (fun i wr => ∃ j : Nat, j ≤ r.ins.length ∧ i = .int .i64 j ∧ Hid (Inv ([.T r.out, .T r.cmd, .M r.time, .M r.mark, .C r.ins.length] ++ insP (r.ins.take j)) wr)) (fun i _ => r.ins.length - (intOf i).toNat)
  case atStart => exact ⟨0, Nat.zero_le _, rfl, I5⟩
  case round =>
    obtain ⟨j, hj, rfl, hI⟩ := hrel
    clear c0 c1 c2 c3 c4 c5
    obtain ⟨c0, c1, c2, c3, c4, c5, hr, _⟩ := HR.out _ _ hI.out
    by_cases hlt : j < r.ins.length
    · obtain ⟨a', c', e', _, _, hr⟩ := hr
      cases e'
      have hx := List.getElem?_eq_getElem hlt
      obtain ⟨post, post2, e1, e2, e3⟩ := parts_ins hx
      rcases hr with h | ⟨b, off, rfl, hb, hcell⟩
      · rw [h] at hlt; simp at hlt
      obtain ⟨x0, x1⟩ := hcell j _ hx
      generalize r.ins[j] = x at *
      obtain ⟨i6, n6⟩ := HA.out _ _ #[.string x.name, .int .i64 x.time] hI.out
      have q1 := HT.out _ (.T x.name) _ _ trivial e1 i6
      have Q2 := Lib.hid fun W h => HM.out _ (.M x.time) _ W trivial e2 h
      have E3 := Lib.hid e3
      have N6 := Lib.hid n6
      clear e1 e2 e3 i6 n6 hcell hx
      go_wp2_with fail
      refine q1.mono ?_
      rintro e w6 ⟨⟨z6, rfl⟩, i6, f6⟩
      have y1 : w6.cell? ⟨wr.heap.size, 1, Option.none⟩ = some (.int .i64 x.time) := (cell_of_block (f6 wr.heap.size (by simp) N6.out)).trans (by rw [World.cell?_alloc_at _ _ _ _ rfl]; rfl)
      have q2 := Q2.out w6 i6
      clear q1 Q2 i6 f6 N6 c0 c1 c2 c3 c4 c5 x0 x1
      go_wp2_with fail
      refine q2.mono ?_
      rintro e w7 ⟨⟨z7, rfl⟩, i7, -⟩
      rw [List.append_assoc, List.append_assoc, ← List.append_assoc (insP _), ← E3.out] at i7
      have I7 := Lib.hid i7
      clear i7 q2 y1
      go_wp2_with fail
      go_roundw
      case rel => exact ⟨j + 1, by omega, by go_num, I7⟩
      case measure => simp [intOf]; omega
    · obtain rfl : j = r.ins.length := by omega
      rw [List.take_length] at hI
      have q6 := Q6.out wr hI.out
      clear Q6 hr
      go_wp2_with fail
      refine q6.mono ?_
      rintro e w6 ⟨⟨z6, rfl⟩, i6, -⟩
      clear q6 c0 c1 c2 c3 c4 c5
      obtain ⟨c0, c1, c2, c3, c4, c5, -, -⟩ := HR.out _ _ i6
      have I6 := Lib.hid i6
      clear i6
      obtain ⟨wo, hwo⟩ : ∃ wo : World, wo = wr := ⟨_, rfl⟩
      go_wp2_with fail
      go_loopw [57] (fun i wr => ∃ j : Nat, j ≤ r.found.length ∧ i = .int .i64 j ∧ Hid (Inv ([.T r.out, .T r.cmd, .M r.time, .M r.mark, .C r.ins.length] ++ insP r.ins ++ [.C r.found.length] ++ (r.found.take j).map .M) wr)) (fun i _ => r.found.length - (intOf i).toNat)
      case atStart => exact ⟨0, Nat.zero_le _, rfl, by simpa using I6⟩
      case round =>
        clear c0 c1 c2 c3 c4 c5
        obtain ⟨j, hj, rfl, hI⟩ := hrel
        obtain ⟨-, -, -, -, -, c5, -, hr⟩ := HR.out _ _ hI.out
        by_cases hlt : j < r.found.length
        · obtain ⟨a', c', e', _, _, hr⟩ := hr
          cases e'
          have hx := List.getElem?_eq_getElem hlt
          obtain ⟨post, e1, e3⟩ := parts_fds hx
          rcases hr with h | ⟨b, off, rfl, hb, hcell⟩
          · rw [h] at hlt; simp at hlt
          have x0 := hcell j _ hx
          generalize r.found[j] = t at *
          have q1 := HM.out _ (.M t) _ _ trivial e1 hI.out
          have E3 := Lib.hid e3
          clear e1 e3 hcell hx
          go_wp2_with fail
          refine q1.mono ?_
          rintro e w7 ⟨⟨z7, rfl⟩, i7, -⟩
          rw [List.append_assoc, ← E3.out] at i7
          have I7 := Lib.hid i7
          clear i7 q1 x0
          go_wp2_with fail
          go_roundw
          case rel => exact ⟨j + 1, by omega, by go_num, I7⟩
          case measure => simp [intOf]; omega
        · obtain rfl : j = r.found.length := by omega
          rw [List.take_length] at hI
          go_wp2_with fail
          go_end0
          exact ⟨⟨_, rfl⟩, hI.out⟩
end Go.Proofs.Ytdijpoemimebmaa.Rn
