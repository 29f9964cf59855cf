/-
  CookCats: what its commands make.
-/
import Derived.Test.YtgledabcfonbeaaGreatDoorCkLaid
namespace Go.Proofs.YtgledabcfonbeaaGreatDoor.Df
open Go.RowKit Go.Maps Go.Proofs.YtgledabcfonbeaaGreatDoor

theorem byt_len {w : World} {v : Value} {b : Bs} (h : Byt w v b) (hc : CapOk v) : b.length ≤ 9223372036854775807 := by
  obtain ⟨a, c, e, hl, -, -⟩ := h
  have := hc _ _ _ e
  omega

def sC1 : Bs := [99, 97, 116, 32, 97, 32, 98, 32, 97, 32, 62, 32, 111]
def sC2 : Bs := [114, 101, 118, 32, 97, 32, 62, 32, 111]
def sC3 : Bs := [114, 101, 118, 32, 111, 32, 62, 32, 112]
def sC4 : Bs := [115, 117, 109, 32, 97, 32, 62, 32, 111]
def sC5 : Bs := [115, 117, 109, 32, 98, 32, 62, 32, 111]
def sC6 : Bs := [112, 117, 116, 32, 97, 32, 32, 98, 32, 62, 32, 111]
theorem rC1 : readL (words [] sC1) = some ⟨false, wCat, [[97], [98], [97]], [[111]], []⟩ := by kernel_rfl
theorem rC2 : readL (words [] sC2) = some ⟨false, wRev, [[97]], [[111]], []⟩ := by kernel_rfl
theorem rC3 : readL (words [] sC3) = some ⟨false, wRev, [[111]], [[112]], []⟩ := by kernel_rfl
theorem rC4 : readL (words [] sC4) = some ⟨false, wSum, [[97]], [[111]], []⟩ := by kernel_rfl
theorem rC5 : readL (words [] sC5) = some ⟨false, wSum, [[98]], [[111]], []⟩ := by kernel_rfl
theorem rC6 : readL (words [] sC6) = some ⟨false, wPut, [[97], [98]], [[111]], []⟩ := by kernel_rfl
theorem grow_some {a b : Bs} (h : a.length + b.length ≤ 65536) : growO a b = some (a ++ b) := by unfold growO; rw [if_pos h]
section
variable {A B : Bs}
def LAB (A B : Bs) : List Fl := [([97], A), ([98], B)]
theorem argA : argO [[97], [98]] (fileL (LAB A B)) [97] = some A := rfl
theorem argB : argO [[97], [98]] (fileL (LAB A B)) [98] = some B := rfl
theorem argR : argO [[111]] (fileL [([111], A)]) [111] = some A := rfl
theorem eC1 (hA : A.length ≤ 200) (hB : B.length ≤ 200) : cookL hashT (words [] sC1) [[97], [98]] (LAB A B) = some (⟨false, wCat, [[97], [98], [97]], [[111]], []⟩, (A ++ B ++ A, [])) := by
  unfold cookL
  rw [rC1]
  have : catO [[97], [98]] (fileL (LAB A B)) [[97], [98], [97]] [] = some (A ++ B ++ A) := by
    show ((argO [[97], [98]] (fileL (LAB A B)) [97]).bind (growO [])).bind (fun s1 => ((argO [[97], [98]] (fileL (LAB A B)) [98]).bind (growO s1)).bind (fun s2 => ((argO [[97], [98]] (fileL (LAB A B)) [97]).bind (growO s2)).bind (fun s3 => some s3))) = _
    rw [argA, argB, Option.bind_some, grow_some (by simp; omega), List.nil_append, Option.bind_some, Option.bind_some, grow_some (by omega), Option.bind_some, Option.bind_some, grow_some (by rw [List.length_append]; omega), Option.bind_some]
  show ((catO [[97], [98]] (fileL (LAB A B)) [[97], [98], [97]] []).map fun r => (r, ([] : List Bs))).map _ = _
  rw [this]
  rfl
theorem eC2 (hA : A.length ≤ 200) : cookL hashT (words [] sC2) [[97], [98]] (LAB A B) = some (⟨false, wRev, [[97]], [[111]], []⟩, (A.reverse, [])) := by
  unfold cookL
  rw [rC2]
  show ((((argO [[97], [98]] (fileL (LAB A B)) [97]).bind fun b => (growO [] b).map List.reverse)).map fun r => (r, ([] : List Bs))).map _ = _
  rw [argA, Option.bind_some, grow_some (by simp; omega)]
  rfl
theorem eC3 (hA : A.length ≤ 200) : cookL hashT (words [] sC3) [[111]] [([111], A)] = some (⟨false, wRev, [[111]], [[112]], []⟩, (A.reverse, [])) := by
  unfold cookL
  rw [rC3]
  show ((((argO [[111]] (fileL [([111], A)]) [111]).bind fun b => (growO [] b).map List.reverse)).map fun r => (r, ([] : List Bs))).map _ = _
  rw [argR, Option.bind_some, grow_some (by simp; omega)]
  rfl
theorem eC4 : cookL hashT (words [] sC4) [[97], [98]] (LAB A B) = some (⟨false, wSum, [[97]], [[111]], []⟩, (hashT A, [])) := by
  unfold cookL
  rw [rC4]
  show ((sumO hashT [[97], [98]] (fileL (LAB A B)) [[97]]).map fun r => (r, ([] : List Bs))).map _ = _
  have : sumO hashT [[97], [98]] (fileL (LAB A B)) [[97]] = some (hashT A) := by
    unfold sumO
    rw [if_neg (by decide)]
    show (((argO [[97], [98]] (fileL (LAB A B)) [97]).map fun b => [] ++ b).bind fun s => some s).map hashT = _
    rw [argA]
    rfl
  rw [this]
  rfl
theorem eC5 : cookL hashT (words [] sC5) [[97], [98]] (LAB A B) = some (⟨false, wSum, [[98]], [[111]], []⟩, (hashT B, [])) := by
  unfold cookL
  rw [rC5]
  show ((sumO hashT [[97], [98]] (fileL (LAB A B)) [[98]]).map fun r => (r, ([] : List Bs))).map _ = _
  have : sumO hashT [[97], [98]] (fileL (LAB A B)) [[98]] = some (hashT B) := by
    unfold sumO
    rw [if_neg (by decide)]
    show (((argO [[97], [98]] (fileL (LAB A B)) [98]).map fun b => [] ++ b).bind fun s => some s).map hashT = _
    rw [argB]
    rfl
  rw [this]
  rfl
theorem eC6 : cookL hashT (words [] sC6) [[97], [98]] [] = some (⟨false, wPut, [[97], [98]], [[111]], []⟩, ([97, 32, 98, 10], [])) := by
  unfold cookL
  rw [rC6]
  show ((txtO [[97], [98]]).map fun r => (r, ([] : List Bs))).map _ = _
  rw [show txtO [[97], [98]] = some [97, 32, 98, 10] by kernel_rfl]
  rfl
end

/-- a dish of one output, its bytes -/
def Dis (w : World) (x r : Bs) (e : Ending) (w' : World) : Prop :=
  ∃ g c u k, e = .returned (.tuple #[.agg #[.slice (some ⟨g, 0, none⟩) 1 c, .bool false, .string ⟨#[]⟩, .string ⟨#[]⟩], .int .i64 0]) ∧ 1 ≤ c ∧ (∃ cur, w'.heap[g]? = some (.cells cur 52 (0, 0))) ∧ w'.cell? ⟨g, 0, none⟩ = some (.string (mk x)) ∧ w'.cell? ⟨g, 1, none⟩ = some (.slice u r.length k) ∧ k ≤ 9223372036854775807 ∧ Byt w' (.slice u r.length k) r ∧ Below w.heap.size w w'
theorem CoA.dis {w w' : World} {o : Cmd} {r x : Bs} {e : Ending} (h : CoA w (some (o, (r, []))) e w') (hx : o.outs = [x]) (ho : o.once = false) (hd : o.dep = []) : Dis w x r e w' := by
  obtain ⟨⟨C, er, rfl, he, base, hbase, a, c, L, hC, hfst, hob, hown⟩, hB⟩ := h
  obtain rfl : er = 0 := he
  cases hC
  have hfst2 : L.map Prod.fst = [x] := hfst.trans hx
  have hL : ∃ v, L = [(x, v)] := by
    cases L with
    | nil => cases hfst2
    | cons q L =>
      cases L with
      | nil =>
        obtain ⟨y, v⟩ := q
        rw [List.map_cons, List.map_nil] at hfst2
        injection hfst2 with h1
        have h1 : y = x := h1
        rw [h1]
        exact ⟨v, rfl⟩
      | cons r L => cases hfst2
  obtain ⟨v, rfl⟩ := hL
  obtain ⟨base2, hob2⟩ := hob (x, v) List.mem_cons_self
  obtain ⟨u, k, e1⟩ := own_slice hob2
  have e1 : v = .slice u r.length k := e1
  subst e1
  have hk : k ≤ 9223372036854775807 := by
    rcases hob2.2 with ⟨e1, _⟩ | ⟨g, cap, cur, e1, _, _, _, hcap, _⟩
    · injection e1 with _ _ e3; omega
    · cases e1; unfold maxLen at hcap; omega
  have hc1 : 1 ≤ c := by
    rcases hown.2 with ⟨e1, e2⟩ | ⟨g, cap, cur, e1, _, _, hle, _⟩
    · cases e2
    · cases e1; exact hle
  have h2 := hown.2
  obtain ⟨g, rfl⟩ : ∃ g, a = some ⟨g, 0, none⟩ := by
    rcases h2 with ⟨e1, e2⟩ | ⟨g, cap, cur, e1, _⟩
    · cases e2
    · injection e1 with e1
      exact ⟨g, e1⟩
  obtain ⟨hlo, cur, hcur⟩ := owns_block hown (g := g) rfl
  have hc0 := hown.cells (g := g) rfl 0 (.string (mk x)) rfl
  have hc2 := hown.cells (g := g) rfl 1 (.slice u r.length k) rfl
  rw [Go.WideShapes.add_plain] at hc0 hc2
  refine ⟨g, c, u, k, ?_, hc1, ⟨cur, hcur⟩, hc0, hc2, hk, owns_byt hob2, hB⟩
  have hdt : depsT o [] = [] := by unfold depsT; rw [hd]; rfl
  rw [ho, hd]
  show Ending.returned (.tuple #[.agg #[_, _, _, .string (mk (depsT o []))], _]) = _
  rw [hdt]
  rfl
end Go.Proofs.YtgledabcfonbeaaGreatDoor.Df
