/-
  The document's Shape, walked, where the command has the form.
-/
import Derived.Test.YtgledabcfonbeaaGreatDoorCkJ17
import Derived.Test.YtgledabcfonbeaaGreatDoorCkMadeR
import Derived.Deep.RegionHeld3
import Derived.BigQuiet
import Derived.BigRegion
namespace Go.Proofs.YtgledabcfonbeaaGreatDoor.Df
open Go.RowKit Go.Maps Go.Proofs.YtgledabcfonbeaaGreatDoor

theorem off_true {ws ws2 : List Bs} (h : offOnce ws = (true, ws2)) : ws = wOnce :: ws2 := by
  cases ws with
  | nil => cases h
  | cons x r =>
    by_cases hx : x = wOnce
    · simp [offOnce, hx] at h
      rw [hx, h]
    · simp [offOnce, hx] at h
theorem off_false {ws ws2 : List Bs} (h : offOnce ws = (false, ws2)) : ws = ws2 ∧ ws.head? ≠ some wOnce := by
  cases ws with
  | nil => cases h; exact ⟨rfl, by simp⟩
  | cons x r =>
    by_cases hx : x = wOnce
    · simp [offOnce, hx] at h
    · simp [offOnce, hx] at h
      exact ⟨h, fun e => hx (by simpa using e)⟩
/-- strings at an address -/
def SAt (w : World) (g off : Nat) (K : List Bs) : Prop := g < w.heap.size ∧ ∀ (j : Nat) x, K[j]? = some x → w.cell? ⟨g, off + j, none⟩ = some (.string (mk x))
theorem SAt.below {w w' : World} {g off : Nat} {K : List Bs} (h : SAt w g off K) (hb : Below w.heap.size w w') : SAt w' g off K :=
  ⟨Nat.lt_of_lt_of_le h.1 hb.size, fun j x hx => (cell_of_block (hb.block g h.1)).trans (h.2 j x hx)⟩
theorem SAt.kept {w w' : World} {g off : Nat} {K : List Bs} (h : SAt w g off K) (hs : w.heap.size ≤ w'.heap.size) (hb : w'.heap[g]? = w.heap[g]?) : SAt w' g off K :=
  ⟨Nat.lt_of_lt_of_le h.1 hs, fun j x hx => (cell_of_block hb).trans (h.2 j x hx)⟩
theorem SAt.drop {w : World} {g off n : Nat} {K : List Bs} (h : SAt w g off K) : SAt w g (off + n) (K.drop n) :=
  ⟨h.1, fun j x hx => by
    rw [List.getElem?_drop] at hx
    have := h.2 _ x hx
    rw [show off + n + j = off + (n + j) by omega]
    exact this⟩
theorem SAt.strs {w : World} {g off c : Nat} {K : List Bs} (h : SAt w g off K) (hc : K.length ≤ c) : Strs w (.slice (some ⟨g, off, none⟩) K.length c) K := ⟨_, c, rfl, hc, .inr ⟨g, off, rfl, h.1, h.2⟩⟩
theorem SAt.take {w : World} {g off : Nat} {K L : List Bs} (h : SAt w g off (K ++ L)) : SAt w g off K :=
  ⟨h.1, fun j x hx => h.2 j x (by rw [List.getElem?_append_left (List.getElem?_eq_some_iff.1 hx).1]; exact hx)⟩

def zFileR : Value := .agg #[.string ⟨#[]⟩, .slice none 0 0]
theorem infoFileR : (Tryz.prog.info? 45).map (fun i => (i.zero, i.size, i.bytes)) = some (some zFileR, 2, 40) := by kernel_rfl
set_option maxRecDepth 100000 in
theorem run_appR {W : World} {base : Nat} {a : Option Addr} {c : Nat} {L : List (Bs × Value)} (h : W.ownsRow base 45 2 (.slice a L.length c) L.length (fcells L)) (hbw : base ≤ W.heap.size) (hL : L.length ≤ 1000000) (o : Bs) {ba : Option Addr} {bn bc : Nat} :
    ∃ a' c' w', (Builtin.append_ #[22, 22] 22 #[.slice a L.length c, .slice (some ⟨W.heap.size, 0, none⟩) 1 1]).run Tryz.prog (W.alloc (.cells #[.string (mk o), .slice ba bn bc] 45)) = .ok (.slice a' (L ++ [(o, Value.slice ba bn bc)]).length c') w' ∧
      w'.ownsRow base 45 2 (.slice a' (L ++ [(o, Value.slice ba bn bc)]).length c') (L ++ [(o, Value.slice ba bn bc)]).length (fcells (L ++ [(o, Value.slice ba bn bc)])) ∧ (W.alloc (.cells #[.string (mk o), .slice ba bn bc] 45)).grownBy w' (Value.slice a L.length c).ownBlock := by
  obtain ⟨i0, hi, hz0, hz1, hz2⟩ := info_parts infoFileR
  have hb1 := below_alloc W (.cells #[.string (mk o), .slice ba bn bc] 45)
  have h1 := owns_below h hb1
  have hnew : (W.alloc (.cells #[.string (mk o), .slice ba bn bc] 45)).heap[W.heap.size]? = some (.cells #[.string (mk o), .slice ba bn bc] 45 (0, 0)) := heap_alloc_new _ _
  obtain ⟨v', w', hrun, hown, hg, _⟩ := run_append_own (P := Tryz.prog) (W.alloc (.cells #[.string (mk o), .slice ba bn bc] 45)) base 22 22 45 i0 zFileR 2 40 Tryz.underlying22 hi hz0 hz1 hz2 rfl (by decide) _ _ (fcells L) h1 ⟨W.heap.size, 0, none⟩ 1 1 [.string (mk o), .slice ba bn bc] rfl (fun j u hj => by
      rw [Go.WideShapes.add_plain]
      match j, hj with
      | 0, hj => cases hj; exact (cell_of_heap hnew).trans rfl
      | 1, hj => cases hj; exact (cell_of_heap hnew).trans rfl) (fun u hu => by simp at hu; rcases hu with rfl | rfl <;> rfl) (by unfold maxLen; omega) (by omega) (by have := hb1.size; omega)
  have e : (L ++ [(o, Value.slice ba bn bc)]).length = L.length + 1 := by simp
  have h3 : w'.ownsRow base 45 2 v' (L ++ [(o, Value.slice ba bn bc)]).length (fcells (L ++ [(o, Value.slice ba bn bc)])) := by rw [fcells_snoc, e]; exact hown
  obtain ⟨a', c', rfl⟩ := own_slice h3
  exact ⟨a', c', w', hrun, h3, hg⟩


def zRD : Array Value := #[.slice none 0 0, .bool false, .string ⟨#[]⟩, .string ⟨#[]⟩]

/-- what Shape comes to -/
def ShQ (w : World) (o : Cmd) (e : Ending) (w' : World) : Prop :=
  ∃ (ka : Option Addr) (kc : Nat) (LL : List (Bs × Value)) (oa : Option Addr) (oc : Nat), e = .returned (.tuple #[.slice ka (o.args.length + 1) kc, .agg #[.slice oa LL.length oc, .bool o.once, .string (mk o.dep), .string ⟨#[]⟩], .bool true]) ∧ o.args.length + 2 ≤ kc ∧ Strs w' (.slice ka (o.args.length + 1) kc) (o.verb :: o.args) ∧ LL = o.outs.map (fun x => (x, Value.slice none 0 0)) ∧ w'.ownsRow w.heap.size 45 2 (.slice oa LL.length oc) LL.length (fcells LL) ∧ Below w.heap.size w w'

end Go.Proofs.YtgledabcfonbeaaGreatDoor.Df
