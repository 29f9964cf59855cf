/-
  ROWS OF RECORDS, READ; rows of one's own beside a book; Load.
-/
import Derived.Test.YtofdnbddpageoaaNmLiveM
namespace Go.Proofs.Ytofdnbddpageoaa.Nm
open Go.RowKit Go.Maps

/-- a row of records, as it is read -/
def RecRow (w : World) (v : Value) (rs : List (List Nat)) : Prop :=
  ∃ a c, v = .slice a rs.length c ∧ rs.length ≤ c ∧ (rs = [] ∨ ∃ b off, a = some ⟨b, off, Option.none⟩ ∧ b < w.heap.size ∧ ∀ i r, rs[i]? = some r → ∃ u k, w.cell? ⟨b, off + i, Option.none⟩ = some (.slice u r.length k) ∧ r.length ≤ k ∧ Pk.Row w u r)
theorem RecRow.below {w w' : World} {v : Value} {rs : List (List Nat)} (h : RecRow w v rs) (hb : Below w.heap.size w w') : RecRow w' v rs := by
  obtain ⟨a, c, e, h1, h2⟩ := h
  refine ⟨a, c, e, h1, h2.imp id fun ⟨b, off, e, hl, hc⟩ => ⟨b, off, e, Nat.lt_of_lt_of_le hl hb.size, fun i r hi => ?_⟩⟩
  obtain ⟨u, k, c0, h3, h4⟩ := hc i r hi
  exact ⟨u, k, (cell_of_block (hb.block b hl)).trans c0, h3, h4.below hb⟩

/-- rows of one's own, all of whose blocks are of P -/
def RowsAt (base : Nat) (P : Nat → Prop) (w : World) (v : Value) (rs : List (List Nat)) : Prop :=
  ∃ vs : List Value, w.ownsRow base 32 1 v rs.length vs ∧ (∀ k, v.ownBlock = some k → P k) ∧ ∀ (j : Nat) (r : List Nat), rs[j]? = some r → ∃ u, vs[j]? = some u ∧ w.ownsRow base 5 1 u r.length (Pk.bytesV r) ∧ ∀ k, u.ownBlock = some k → P k

section
variable {w w' : World} {base base' : Nat} {P P' : Nat → Prop} {v : Value} {rs : List (List Nat)}
theorem rowsAt_nil (base : Nat) (P : Nat → Prop) (w : World) : RowsAt base P w (.slice Option.none 0 0) [] := ⟨[], World.ownsRow_nil _ _ _ _, (fun k hk => by cases hk), fun j r hj => by simp at hj⟩
theorem RowsAt.val (h : RowsAt base P w v rs) : ∃ a c, v = .slice a rs.length c := by
  obtain ⟨vs, h, _⟩ := h
  exact own_slice h
theorem RowsAt.keep (h : RowsAt base P w v rs) (hb : ∀ k, P k → base ≤ k → k < w.heap.size → w'.heap[k]? = w.heap[k]?) : RowsAt base P w' v rs := by
  obtain ⟨vs, h1, h0, h2⟩ := h
  refine ⟨vs, owns_kept h1 fun k hk => hb k (h0 k hk) (h1.lt k hk).1 (h1.lt k hk).2, h0, fun j r hj => ?_⟩
  obtain ⟨u, h3, h4, h5⟩ := h2 j r hj
  exact ⟨u, h3, owns_kept h4 fun k hk => hb k (h5 k hk) (h4.lt k hk).1 (h4.lt k hk).2, h5⟩
theorem RowsAt.wide (h : RowsAt base P w v rs) (hp : ∀ k, P k → base ≤ k → k < w.heap.size → P' k) : RowsAt base P' w v rs := by
  obtain ⟨vs, h1, h0, h2⟩ := h
  refine ⟨vs, h1, fun k hk => hp k (h0 k hk) (h1.lt k hk).1 (h1.lt k hk).2, fun j r hj => ?_⟩
  obtain ⟨u, h3, h4, h5⟩ := h2 j r hj
  exact ⟨u, h3, h4, fun k hk => hp k (h5 k hk) (h4.lt k hk).1 (h4.lt k hk).2⟩
theorem RowsAt.read (h : RowsAt base P w v rs) : RecRow w v rs := by
  obtain ⟨vs, h1, h0, h2⟩ := h
  rcases own_at h1 with ⟨rfl, e⟩ | ⟨g, c, rfl, hb, hlt, hle, hc⟩
  · obtain rfl : rs = [] := List.eq_nil_of_length_eq_zero e
    exact ⟨Option.none, 0, rfl, Nat.le_refl _, .inl rfl⟩
  · refine ⟨_, c, rfl, hle, .inr ⟨g, 0, rfl, hlt, fun i r hi => ?_⟩⟩
    obtain ⟨u, h3, h4, _⟩ := h2 i r hi
    obtain ⟨a, k, rfl, -, hr, _⟩ := Pk.row_owned h4
    rw [Nat.zero_add]
    exact ⟨a, k, hc i _ h3, own_cap h4, hr⟩

/-- a record more -/
theorem RowsAt.app {a : Option Addr} {c : Nat} {u : Value} {r : List Nat} (h : RowsAt base P w (.slice a rs.length c) rs) (hu : w.ownsRow base 5 1 u r.length (Pk.bytesV r)) (hup : ∀ k, u.ownBlock = some k → P k) (hbs : base ≤ w.heap.size) (hn : rs.length ≤ 1000000) (hnew : ∀ k, w.heap.size ≤ k → P k) (ty : TypeId) :
    ∃ a' c' w', (Builtin.append_ #[22, 22] ty #[.slice a rs.length c, .slice (some ⟨w.heap.size, 0, Option.none⟩) 1 1]).run Try.prog (w.alloc (.cells #[u] 32)) = .ok (.slice a' (rs.length + 1) c') w' ∧ RowsAt base P w' (.slice a' (rs ++ [r]).length c') (rs ++ [r]) ∧
      Mod (fun k => (Value.slice a rs.length c).ownBlock = some k) w w' ∧ ((Value.slice a' (rs ++ [r]).length c').ownBlock = (Value.slice a rs.length c).ownBlock ∨ (Value.slice a' (rs ++ [r]).length c').ownBlock = some (w.heap.size + 1)) := by
  obtain ⟨i0, hi, hz0, hz1, hz2⟩ := info_parts infoRow
  obtain ⟨vs, h1, h0, h2⟩ := h
  obtain ⟨w1, hw1⟩ : ∃ W, w.alloc (.cells #[u] 32) = W := ⟨_, rfl⟩
  have hb1 : Below w.heap.size w w1 := by rw [← hw1]; exact Pk.below_alloc _ _
  have e1 : w1.heap[w.heap.size]? = some (.cells #[u] 32 (0, 0)) := by rw [← hw1]; exact heap_alloc_new _ _
  have z1 : w1.heap.size = w.heap.size + 1 := by rw [← hw1, World.size_alloc]
  rw [hw1]
  have h11 := owns_kept (w' := w1) h1 fun k hk => hb1.block k (h1.lt k hk).2
  have huo : ∀ x ∈ [u], x.oneCell' = true := by
    intro x hx
    rw [List.mem_singleton] at hx
    subst hx
    obtain ⟨ua, uc, rfl⟩ := own_slice hu
    rfl
  obtain ⟨v', w', hrun, hown, hg, -, hwhere⟩ := run_append_own_at (P := Try.prog) w1 base 22 ty 32 i0 (.slice Option.none 0 0) 1 24 Try.underlying22 hi hz0 hz1 hz2 rfl (by decide) _ _ vs h11 ⟨w.heap.size, 0, Option.none⟩ 1 1 [u] rfl (World.news_of_block (cs := #[u]) e1) huo (by unfold maxLen; omega) (by omega) (by have := hb1.size; omega)
  obtain ⟨a', c', rfl⟩ := own_slice hown
  have hg5 : ∀ (k : Nat) (v : Value) (n : Nat) (xs : List Value) (b : Nat), w1.ownsRow b 5 1 v n xs → v.ownBlock = some k → w'.heap[k]? = w1.heap[k]? := by
    intro k v n xs b hv hk
    refine hg.block k (hv.lt k hk).2 fun e => ?_
    obtain ⟨_, cur, hc⟩ := owns_block hv hk
    obtain ⟨_, cur2, hc2⟩ := owns_block h11 e.symm
    exact ne_type hc hc2 (by decide) rfl
  have hlen : (rs ++ [r]).length = rs.length + 1 := by simp
  rw [hlen]
  refine ⟨a', c', w', hrun, ⟨vs ++ [u], by rw [hlen]; exact hown, fun k hk => ?_, fun j x hj => ?_⟩, ?_, by rw [z1] at hwhere; exact hwhere⟩
  · rcases hwhere with e | e
    · exact h0 k (e.symm.trans hk)
    · rw [e] at hk
      cases hk
      exact hnew _ (by omega)
  · have hvl : vs.length = rs.length := by have := h1.1; omega
    by_cases hjl : j < rs.length
    · rw [List.getElem?_append_left hjl] at hj
      obtain ⟨y, h3, h4, h5⟩ := h2 j x hj
      have h4' := owns_kept (w' := w1) h4 fun k hk => hb1.block k (h4.lt k hk).2
      exact ⟨y, by rw [List.getElem?_append_left (by omega)]; exact h3, owns_kept h4' fun k hk => hg5 k _ _ _ _ h4' hk, h5⟩
    · rw [List.getElem?_append_right (by omega)] at hj
      have hj0 : j - rs.length = 0 := by
        have := (List.getElem?_eq_some_iff.1 hj).1
        simp at this
        omega
      rw [hj0] at hj
      simp at hj
      subst hj
      have hu' := owns_kept (w' := w1) hu fun k hk => hb1.block k (hu.lt k hk).2
      exact ⟨u, by rw [List.getElem?_append_right (by omega), hvl, hj0]; rfl, owns_kept hu' fun k hk => hg5 k _ _ _ _ hu' hk, hup⟩
  · exact (Mod.ofBelow hb1).trans2 (Mod.grown hg fun k hk => hk)
end

/-! ### Load -/
set_option maxRecDepth 100000 in
set_option maxHeartbeats 4000000 in
theorem load_c {w : World} {v : Value} {rs : List (List Nat)} (h : RecRow w v rs) (hsm : ∀ r ∈ rs, r.length ≤ 1000000 ∧ ∀ x ∈ r, x < 256) (hn : rs.length ≤ 900000) {B' : Bo} (hB : takeAll ⟨[], []⟩ rs = some B') :
    Calls Try.prog 14 #[v] w fun e w' => ∃ q, e = .returned (.tuple #[.pointer (some ⟨q, 0, Option.none⟩), .int .i64 0]) ∧ Own w.heap.size 0 0 w' q B' ∧ Below w.heap.size w w' := by
  obtain ⟨a, c, rfl, hc, hrow⟩ := h
  have HROW := Lib.hid (show RecRow w (.slice a rs.length c) rs from ⟨a, c, rfl, hc, hrow⟩)
  have HSM := Lib.hid hsm
  have HB := Lib.hid hB
  clear hrow hsm hB
  go_enter Try.func14, Try.ntmps14
  go_wp2_with fail
  refine (newO_c w).mono ?_
  rintro e w1 ⟨q, rfl, hq, hb1⟩
  have HQ := Lib.hid hq
  have HB1 := Lib.hid hb1
  clear hq hb1
  go_wp2_with fail
  go_loopw [11] (fun i wr => ∃ j : Nat, j ≤ rs.length ∧ i = .int .i64 j ∧ ∃ Bk, Hid (takeAll ⟨[], []⟩ (rs.take j) = some Bk) ∧ Hid (Own w.heap.size 0 0 wr q Bk) ∧ Hid (Below w.heap.size w wr)) (fun i _ => rs.length - (intOf i).toNat)
  case atStart => exact ⟨0, Nat.zero_le _, rfl, _, Lib.hid rfl, HQ, HB1⟩
  case round =>
    obtain ⟨j, hj, rfl, Bk, hT, hO, hBe⟩ := hrel
    by_cases hlt : j < rs.length
    · have hx := List.getElem?_eq_getElem hlt
      have hsml := HSM.out _ (List.getElem_mem hlt)
      obtain ⟨_, _, e, _, hrow⟩ := HROW.out.below hBe.out
      cases e
      rcases hrow with h | ⟨b, off, rfl, hb, hcell⟩
      · rw [h] at hlt; simp at hlt
      obtain ⟨u, k, x0, hk, hr⟩ := hcell j _ hx
      obtain ⟨Bk', e1, e2⟩ := takeAll_take HB.out j
      rw [hT.out] at e1
      obtain rfl := Option.some.inj e1
      obtain ⟨Bn, htb, htn⟩ := e2 _ hx
      have hNk : Bk.N.length < 1000000 := by have := takeAll_len hT.out; rw [List.length_take] at this; simp at this; omega
      generalize rs[j] = r at *
      have ct := take_own hO.out hBe.out.size (Nat.zero_le _) hr (Lib.hid rfl) hk hsml.1 hsml.2 hNk
      have HTB := Lib.hid htb
      have HTN := Lib.hid htn
      have hi0 : (0 : Int) ≤ (j : Int) := by omega
      have hi1 : (j : Int) < (rs.length : Int) := by omega
      clear hx hsml hr e1 e2 htb htn hcell
      go_wp2_with fail
      refine ct.mono ?_
      rintro e w5 ⟨he, hO5, hB5, -⟩
      rw [HTB.out] at he hO5
      have he : e = .returned (.int .i64 0) := he
      subst he
      have HO5 : Hid (Own w.heap.size 0 0 w5 q Bn) := Lib.hid hO5
      have HB5 := Lib.hid (hBe.out.trans hB5)
      clear ct hO5 hB5
      go_wp2_with fail
      go_roundw
      case rel => exact ⟨j + 1, by omega, by go_num, Bn, HTN, HO5, HB5⟩
      case measure => simp [intOf]; omega
    · obtain rfl : j = rs.length := by omega
      rw [List.take_length] at hT
      obtain rfl : B' = Bk := by have := HB.out; rw [hT.out] at this; exact (Option.some.inj this).symm
      go_wp2_with fail
      go_ret2
      exact ⟨q, rfl, hO.out, hBe.out⟩
end Go.Proofs.Ytofdnbddpageoaa.Nm
