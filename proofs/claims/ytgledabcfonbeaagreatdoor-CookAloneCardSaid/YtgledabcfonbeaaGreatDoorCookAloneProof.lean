/-
  The law 'CookAlone' of the package bellowslaw15 returns true for every input, and leaves its arguments as they were. No condition beyond what the row lists; the card ties what it lists to the program's text.
-/
import Derived.Test.YtgledabcfonbeaaGreatDoorTie
import Derived.Test.YtgledabcfonbeaaGreatDoorCards
import Derived.Test.YtgledabcfonbeaaGreatDoorCkJ14
import Derived.Test.YtgledabcfonbeaaGreatDoorCkLaid
import Derived.MakeChecks
import Derived.Test.YtgledabcfonbeaaGreatDoorCkAloneW
import Derived.Test.YtgledabcfonbeaaGreatDoorCkOpenF
import Derived.WalkKit
import Derived.ProofKit
import Derived.OpenShut
import Derived.ShutString
import Derived.LaidMore
import Derived.Lay
import Derived.SevenTiedAt
import Derived.Stop.Joined
import Derived.ChangeOld
import Derived.Below
import Derived.Lib.SmallJoins
namespace Go.Proofs.YtgledabcfonbeaaGreatDoor.cookAlone
open Go.ChangeShapes Go.WideShapes Go.ChangeAt Go.RowKit Go.Proofs.YtgledabcfonbeaaGreatDoor
open Go.ChangeMaps (open_string shut_string)
open Go.Joins (open_agg4)
set_option linter.unusedVariables false

theorem own : ownKnob Tryz.prog.godebug = none := by kernel_rfl
theorem laidOut : laidOutB Tryz.prog = true := by kernel_rfl

set_option maxRecDepth 100000 in
theorem lifted (os : Os) (started : os.Started) (H : Type) (enc : TypeId × Value → H) :
    ReturnsInHanded {} Tryz.checked os 4 .any (fun w args => (Rows.cookAloneSpec.pre enc Tryz.prog Tryz.f4 Rows.cookAloneRow.domain false w args ∧ laidMetH Tryz.prog Rows.cookAloneRow.laid w) ∧ sizedMet enc Tryz.prog Tryz.f4 (OpenSpec.ofChange Rows.cookAloneSpec) false w args)
      (Rows.cookAloneSpec.post enc Tryz.prog Tryz.f4 false true false false) := by
  refine Df.handed_and_laid (C := Tryz.checked) (X := fun w _ => laidMetH Tryz.prog Rows.cookAloneRow.laid w) own started (by kernel_rfl) Tryz.func4
    (ChangeSpec.witness_shaped (enc := enc) (C := Tryz.checked) (os := os) (X := fun w _ => laidMetH Tryz.prog Rows.cookAloneRow.laid w) false (World.laidAll Tryz.prog os Rows.cookAloneRow.laid) #[.agg #[.string ⟨#[]⟩, .slice none 0 0, .slice none 0 0, .slice none 0 0]] 8 (World.laidAll_os _ _ _)
      (World.shaped_of_ZipB (by kernel_rfl) (by kernel_rfl)) (by kernel_rfl) (by kernel_rfl) (by kernel_rfl)
      (by rw [MakeChecks.laidMetH_plain _ _ _ (by kernel_rfl)]; exact laidMet_laidAll _ (by kernel_rfl) (by kernel_rfl))) ?_
  intro W base args ds gs before hval0 hW hsh hX
  obtain ⟨W0, hh, hL⟩ := hX
  have hT : Df.Tz W := Df.tz_of hh (MakeChecks.laidMetH_plain _ _ _ (by kernel_rfl)) (List.mem_cons_of_mem _ List.mem_cons_self) hL
  have hval : ∀ (j : Nat) t v, Tryz.f4.params[j]? = some t → args[j]? = some v → Value.okWide Tryz.prog W .any base t v := hval0
  have hW' := hW
  obtain ⟨p, q, hA0, hV, rfl, _, _⟩ := hW
  have hA : DataW.TrodAll enc Tryz.prog W 0 (fun _ => true) true Tryz.f4.params.toList args.toList ds p := hA0
  rw [Tryz.params4] at hA hval
  obtain ⟨v0, vs0, dd0, ds0, p0, q0, hargs, rfl, rfl, h0, r0⟩ := trodAll_cons hA
  obtain ⟨rfl, rfl, rfl⟩ := trodAll_nil r0
  obtain rfl : args = #[v0] := by cases args; simp_all
  obtain ⟨rfl, rfl⟩ := trodVars_none hV
  have k0 := h0
  have lt0 : ∀ x ∈ p0, x.block < W.heap.size := by obtain ⟨m, hm⟩ := k0; exact DataW.trod_lt m _ _ _ hm
  obtain ⟨c0, c1, c2, c3, y0, y1, y2, y3, m, rfl, hd0, hp0, hy0, hy1, hy2, hy3⟩ := open_agg4 Tryz.underlying34 (by kernel_rfl) (by kernel_rfl) (hval 0 34 v0 rfl rfl) h0
  obtain ⟨sA, e0, _, _⟩ := DataW.trod_string Tryz.underlying9 hy0
  obtain ⟨a1, len1, cap1, e1⟩ := Go.Joins.slice_form Tryz.underlying32 hy1
  obtain ⟨a2, len2, cap2, e2⟩ := Go.Joins.slice_form Tryz.underlying22 hy2
  obtain ⟨a3, len3, cap3, e3⟩ := Go.Joins.slice_form Tryz.underlying24 hy3
  simp only [List.cons.injEq, and_true] at e0 e1 e2 e3
  subst e0 e1 e2 e3
  obtain ⟨bA, rfl⟩ : ∃ b : Bs, sA = mk b := ⟨sA.data.toList, (mk_of sA).symm⟩
  obtain ⟨l1, hs1, hx1⟩ := Df.decl_row hy1
  obtain ⟨l2, U2, hs2, hc2, hn2, hln2⟩ := Df.files_row hy2
  obtain ⟨l3, hs3, hc3⟩ := Df.byt_row hy3
  clear hA0 hval0
  refine (Df.alone_c hT hs1 hx1 hs2 hln2 hs3).mono fun e W' ⟨he, bel⟩ => ?_
  subst he
  exact ⟨_, rfl, _, _, _, [], _, [], hW', trodAll_mk1 (shut_bool Tryz.underlying4 _), (trodAll_cons_mk (Below.trod laidOut (by kernel_rfl) (of_decide_eq_true (by kernel_rfl)) k0 bel lt0) trodAll_mk0), rfl, bel.frame _, fun h => by cases h⟩

theorem holds : Rows.CookAloneSaid :=
  OpenClaim.holds_of_wide 4 Tryz.f4 rfl rfl rfl rfl rfl rfl rfl ⟨rfl, rfl, rfl, rfl, rfl⟩ rfl rfl rfl rfl rfl (by kernel_rfl) Tryz.func4 (by kernel_rfl)
    (of_decide_eq_true (by kernel_rfl)) (by unfold Func.isWrapper; first | (rw [if_pos (by decide +kernel)]; kernel_rfl) | (rw [if_neg (by decide +kernel)]; exact ⟨rfl, rfl⟩))
    (fun os started H enc _ => lifted os started H enc)

theorem proved : Rows.CookAloneCardSaid :=
  Claim7.holds_tied_plain_at .later [] [.data, .data, .data, .data, .pinned] true (true, "008c07cef284ec99baba1acff259b0a3c9ed549dc748f0823f67c1b7159de8b9") true holds (fun _ h => by cases h) (by kernel_rfl) (fun _ h => by cases h) cookAlone_row_tie rfl ⟨rfl, rfl⟩ (by kernel_rfl) rfl
    (fun f fn hf hfn => by
      obtain rfl : f = 4 := Option.some.inj ((show Tryz.prog.funcNamed "bellows/bellowslaw15.CookAlone" = some 4 by kernel_rfl).symm.trans hf) |>.symm
      obtain rfl : fn = Tryz.f4 := (Option.some.inj (Tryz.func4.symm.trans hfn)).symm
      exact ⟨by kernel_rfl, fun j t ht => by
        rw [Tryz.params4] at ht
        have hm : t ∈ [34] := by simpa using Array.mem_of_getElem? ht
        have hall : ([34].all fun u => !Tryz.prog.wantsStandIn u) = true := by kernel_rfl
        exact (show Tryz.prog.wantsStandIn t = false by simpa using List.all_eq_true.1 hall t hm)⟩)
    (by kernel_rfl)
end Go.Proofs.YtgledabcfonbeaaGreatDoor.cookAlone
