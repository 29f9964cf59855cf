/-
  The law ScopeBack, walked.
-/
import Derived.Test.YtbohnjiachnadaaScBuiltW
namespace Go.Proofs.Ytbohnjiachnadaa.Sc
open Go.RowKit Go.Maps

def lvls (L : List S3) : List (Bs → Option Bs) := [fk L 0, fk L 1, fk L 2]

theorem Bu.chain {w W : World} {ba bw : Nat} {p : Nat → Nat} {mv un tn : Nat → Value} {L : List S3} (h : Bu w W ba bw p mv un tn L L) : Chain W (some (p 0)) (lvls L) := by
  have n0 : Node W L.length (p 0) (mv 0) (some (p 1)) (fk L 0) := h.node 0 (by omega)
  have n1 : Node W L.length (p 1) (mv 1) (some (p 2)) (fk L 1) := h.node 1 (by omega)
  have n2 : Node W L.length (p 2) (mv 2) none (fk L 2) := h.node 2 (by omega)
  exact .cons n0 (.cons n1 (.cons n2 .nil))

theorem lvls_le {L : List S3} {M : Nat} (h : ∀ x ∈ L, x.text.length ≤ M) : ∀ l, (getL (lvls L) l).length ≤ M := by
  refine getL_le fun f hf => ?_
  unfold lvls at hf
  simp only [List.mem_cons, List.not_mem_nil, or_false] at hf
  rcases hf with rfl | rfl | rfl
  · exact fk_le h 0
  · exact fk_le h 1
  · exact fk_le h 2

set_option maxRecDepth 100000 in
set_option maxHeartbeats 4000000 in
theorem scopeBack_w {w : World} {v : Value} {L : List S3} (h : SetRow w v L) (T : ByteArray) (hT : T.size ≤ 9223372036854775807) :
    Calls Try.prog 7 #[v, .string T] w fun e w' => e = .returned (.bool true) ∧ Below w.heap.size w w' := by
  obtain ⟨s, rfl⟩ : ∃ s, T = mk s := ⟨T.data.toList, (mk_of T).symm⟩
  have hz := mk_size s
  have hlt := light_c h
  cases hlb : lightB L with
  | false =>
    rw [hlb] at hlt
    clear hlb
    go_enter Try.func7, Try.ntmps7
    go_wp2_with fail
    refine hlt.mono ?_
    rintro e w1 ⟨rfl, rfl⟩
    go_wp2_with fail
    go_ret
    exact ⟨rfl, Below.refl _ _⟩
  | true =>
    rw [hlb] at hlt
    by_cases hl : 3000 < s.length
    · have hl' : 3000 < ((mk s).size : Int) := by omega
      clear hlb
      go_enter Try.func7, Try.ntmps7
      go_wp2_with fail
      refine hlt.mono ?_
      rintro e w1 ⟨rfl, rfl⟩
      go_wp2_with fail
      go_ret
      exact ⟨rfl, Below.refl _ _⟩
    have hl' : ¬ 3000 < ((mk s).size : Int) := by omega
    have hb := built_c h hlb
    obtain ⟨_, hsm⟩ := lightB_true hlb
    have hle : ∀ l, (getL (lvls L) l).length ≤ 900000 := fun l => Nat.le_trans (lvls_le (fun x hx => (hsm x hx).2) l) (by omega)
    have HLE := Lib.hid hle
    have hesc := fun W => escape_c s (by omega) W
    have hel := esc_len s
    have hxe := expand_some (exp_esc (getL (lvls L)) s) (by omega)
    have HXE := Lib.hid hxe
    have HEL := Lib.hid (show (esc s).length ≤ 900000 by omega)
    have ess : ((mk s).toList == (mk s).toList) = true := by simp
    have haw := awake_c
    clear hlb hsm hle hxe hel hl
    go_enter Try.func7, Try.ntmps7
    go_wp2_with fail
    refine hlt.mono ?_
    rintro e w1 ⟨rfl, rfl⟩
    go_wp2_with fail
    refine hb.mono ?_
    rintro e w2 ⟨ba, bw, p, mv, un, tn, rfl, B⟩
    have HB := Lib.hid B
    clear B hb hlt
    go_wp2_with fail
    refine (hesc _).mono ?_
    rintro e w3 ⟨rfl, hb3⟩
    have hex := expand_c (HB.out.keep hb3).chain HLE.out (esc s) HEL.out
    rw [HXE.out, ptr_some] at hex
    have B3 := Lib.hid (HB.out.bel.trans (hb3.mono HB.out.bel.size))
    clear hb3 hesc
    go_wp2_with fail
    with_reducible refine hex.mono ?_
    rintro e w4 ⟨rfl, hb4⟩
    go_wp2_with fail
    refine (haw _).mono ?_
    rintro e w5 ⟨rfl, hb5⟩
    go_wp2_with fail
    go_ret
    exact ⟨rfl, (B3.out.trans (hb4.mono B3.out.size)).trans (hb5.mono (Nat.le_trans B3.out.size hb4.size))⟩
end Go.Proofs.Ytbohnjiachnadaa.Sc
