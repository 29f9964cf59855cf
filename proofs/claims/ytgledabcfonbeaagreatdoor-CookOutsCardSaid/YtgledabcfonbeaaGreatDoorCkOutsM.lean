/-
  CookOuts, without a world: a command behind 'once '; a dish of which all outputs have the same bytes.
-/
import Derived.Test.YtgledabcfonbeaaGreatDoorCkOpen
import Derived.Test.YtgledabcfonbeaaGreatDoorCkSmall
import Derived.Test.YtgledabcfonbeaaGreatDoorCkLaid
namespace Go.Proofs.YtgledabcfonbeaaGreatDoor.Df
open Go.RowKit Go.Maps Go.Proofs.YtgledabcfonbeaaGreatDoor

def onceS : Bs := [111, 110, 99, 101, 32]
theorem words_once (s : Bs) : words [] (onceS ++ s) = wOnce :: words [] s := by
  simp [onceS, words, fl, wOnce]
def Cmd.on (o : Cmd) : Cmd := { o with once := true }
theorem readB_on {on : Bool} {verb : Bs} {args : List Bs} {c : List Bs × List Bs × Bool} {o : Cmd} (h : readB on verb args c = some o) : o.once = on ∧ readB true verb args c = some o.on := by
  unfold readB at h ⊢
  split at h
  · rename_i hc
    rw [if_pos hc]
    cases hd : depOf c.2.2 c.2.1 with
    | none => rw [hd] at h; cases h
    | some d => rw [hd] at h; cases h; exact ⟨rfl, rfl⟩
  · cases h
theorem readA_on {on : Bool} {c : List Bs × List Bs × Bool} {o : Cmd} (h : readA on c = some o) : o.once = on ∧ readA true c = some o.on := by
  obtain ⟨ah, be, pt⟩ := c
  cases ah with
  | nil => cases h
  | cons verb args =>
    cases pt with
    | false => cases h
    | true => exact readB_on h
theorem readL_once {ws : List Bs} {o : Cmd} (h : readL ws = some o) (ho : o.once = false) : readL (wOnce :: ws) = some o.on := by
  have h2 : offOnce (wOnce :: ws) = (true, ws) := by simp [offOnce]
  have h1 : offOnce ws = (false, ws) := by
    cases ws with
    | nil => rfl
    | cons x r =>
      by_cases hx : x = wOnce
      · exfalso
        unfold readL at h
        have h3 : offOnce (x :: r) = (true, r) := by simp [offOnce, hx]
        rw [h3] at h
        have := (readA_on h).1
        rw [ho] at this
        cases this
      · simp [offOnce, hx]
  unfold readL at h ⊢
  rw [h1] at h
  rw [h2]
  exact (readA_on h).2
theorem cookL_once {H : Bs → Bs} {ws decl : List Bs} {L : List Fl} {o : Cmd} {p : Bs × List Bs} (h : cookL H ws decl L = some (o, p)) (ho : o.once = false) : cookL H (wOnce :: ws) decl L = some (o.on, p) := by
  unfold cookL at h ⊢
  cases hr : readL ws with
  | none => rw [hr] at h; cases h
  | some q =>
    rw [hr] at h
    have h' : (doneO H decl (fileL L) q.verb q.args).map (fun p => (q, p)) = some (o, p) := h
    cases hd : doneO H decl (fileL L) q.verb q.args with
    | none => rw [hd] at h'; cases h'
    | some d =>
      rw [hd] at h'
      cases h'
      rw [readL_once hr ho]
      show (doneO H decl (fileL L) o.on.verb o.on.args).map (fun p => (o.on, p)) = _
      have e : doneO H decl (fileL L) o.on.verb o.on.args = some p := hd
      rw [e]
      rfl
theorem cookL_ok {H : Bs → Bs} (hH : ∀ r, (H r).length ≤ 65536) {ws decl : List Bs} {L : List Fl} {o : Cmd} {p : Bs × List Bs} (h : cookL H ws decl L = some (o, p)) :
    o.outs ≠ [] ∧ p.1.length ≤ 65536 ∧ decide (o.dep = []) = decide (depsT o p.2 = []) := by
  unfold cookL at h
  cases hr : readL ws with
  | none => rw [hr] at h; cases h
  | some q =>
    rw [hr] at h
    have h' : (doneO H decl (fileL L) q.verb q.args).map (fun p => (q, p)) = some (o, p) := h
    cases hd : doneO H decl (fileL L) q.verb q.args with
    | none => rw [hd] at h'; cases h'
    | some d =>
      rw [hd] at h'
      cases h'
      obtain ⟨i1, i2, -⟩ := readL_ok hr
      obtain ⟨j1, -, j3⟩ := doneO_ok (fun _ => hH) hd
      refine ⟨i1, j1, ?_⟩
      unfold depsT
      by_cases hdp : o.dep = []
      · rw [if_pos hdp, hdp]
      · have hb : ¬ (badL (o.outs.headD []) || p.2.any badL) = true := by
          rw [Bool.or_eq_true]
          rintro (hb | hb)
          · cases ho : o.outs with
            | nil => exact i1 ho
            | cons x r =>
              rw [ho] at hb
              have := i2 x (by rw [ho]; exact List.mem_cons_self)
              unfold badL at hb
              rw [List.headD_cons, this] at hb
              cases hb
          · obtain ⟨x, hx, hbx⟩ := List.any_eq_true.1 hb
            have := j3 x hx
            unfold badL at hbx
            rw [this] at hbx
            cases hbx
        rw [if_neg hdp, if_neg hb, decide_eq_false hdp]
        exact (decide_eq_false (by simp)).symm

/-- all outputs are of one row of bytes -/
theorem DiV.at {W : World} {base : Nat} {o : Cmd} {p : Bs × List Bs} {v : Value} (h : DiV W base o p v) : ∃ (a : Option Addr) (c : Nat), v = .agg #[.slice a o.outs.length c, .bool o.once, .string (mk o.dep), .string (mk (depsT o p.2))] ∧
    (o.outs ≠ [] → ∃ g : Nat, a = some ⟨g, 0, none⟩ ∧ (o.outs.length ≤ c ∧ c ≤ 9223372036854775807) ∧ base ≤ g ∧ g < W.heap.size ∧ ∀ j, j < o.outs.length → ∃ (u : Option Addr) (k : Nat), W.cell? ⟨g, j * 2 + 1, none⟩ = some (.slice u p.1.length k) ∧ Byt W (.slice u p.1.length k) p.1) := by
  obtain ⟨a, c, L, rfl, hfst, hob, hown⟩ := h
  have hlen : L.length = o.outs.length := by rw [← hfst, List.length_map]
  refine ⟨a, c, by rw [hlen], fun hne => ?_⟩
  have hpos : 0 < L.length := by
    rw [hlen]
    exact List.length_pos_iff.2 hne
  have h2 := hown.2
  obtain ⟨g, rfl, hc1, hc9⟩ : ∃ g, a = some ⟨g, 0, none⟩ ∧ L.length ≤ c ∧ c ≤ 9223372036854775807 := by
    rcases h2 with ⟨e1, e2⟩ | ⟨g, cap, cur, e1, _, _, hle, hcap, _⟩
    · omega
    · injection e1 with e1 e2 e3
      unfold maxLen at hcap
      exact ⟨g, e1, by omega, by omega⟩
  obtain ⟨hlo, cur, hcur⟩ := owns_block hown (g := g) rfl
  refine ⟨g, rfl, ⟨by omega, hc9⟩, hlo, lt_some hcur, fun j hj => ?_⟩
  obtain ⟨⟨x, v⟩, hx⟩ : ∃ q, L[j]? = some q := ⟨_, List.getElem?_eq_getElem (by omega)⟩
  obtain ⟨base2, hob2⟩ := hob (x, v) (List.mem_of_getElem? hx)
  obtain ⟨u, k, e1⟩ := own_slice hob2
  have e1 : v = .slice u p.1.length k := e1
  subst e1
  have hc2 := hown.cells (g := g) rfl (j * 2 + 1) (.slice u p.1.length k) (fcells_at L j x _ hx).2
  rw [Go.WideShapes.add_plain] at hc2
  have e0 : 0 + (j * 2 + 1) = j * 2 + 1 := by omega
  rw [e0] at hc2
  exact ⟨u, k, hc2, owns_byt hob2⟩
end Go.Proofs.YtgledabcfonbeaaGreatDoor.Df
