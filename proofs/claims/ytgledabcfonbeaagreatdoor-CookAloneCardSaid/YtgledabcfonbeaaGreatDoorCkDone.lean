/-
  WHAT A COMMAND MAKES: pure; and any verb's contract.
-/
import Derived.Test.YtgledabcfonbeaaGreatDoorCkServeA
namespace Go.Proofs.YtgledabcfonbeaaGreatDoor.Df
open Go.RowKit Go.Maps Go.Proofs.YtgledabcfonbeaaGreatDoor

def wCat : Bs := [99, 97, 116]
def wRev : Bs := [114, 101, 118]
def wSum : Bs := [115, 117, 109]
def wPut : Bs := [112, 117, 116]
def wFail : Bs := [102, 97, 105, 108]
def allO (decl : List Bs) (F : Bs → Option Bs) : List Bs → Bs → Option Bs := foldO fun a acc => (argO decl F a).map fun b => acc ++ b
/-- H: the text that tells bytes' hash -/
def sumO (H : Bs → Bs) (decl : List Bs) (F : Bs → Option Bs) (A : List Bs) : Option Bs := if A = [] then none else (allO decl F A []).map H
def doneO (H : Bs → Bs) (decl : List Bs) (F : Bs → Option Bs) (verb : Bs) (A : List Bs) : Option (Bs × List Bs) :=
  if verb = wCat then (catO decl F A []).map fun r => (r, [])
  else if verb = wRev then (revO decl F A).map fun r => (r, [])
  else if verb = wSum then (sumO H decl F A).map fun r => (r, [])
  else if verb = wPut then (txtO A).map fun r => (r, [])
  else if verb = wInc then incO decl F A
  else none

theorem verb_cases {verb : Bs} {kf : Nat} (h : verbF verb = some kf) : (verb = wCat ∧ kf = 46) ∨ (verb = wRev ∧ kf = 47) ∨ (verb = wSum ∧ kf = 48) ∨ (verb = wPut ∧ kf = 49) ∨ (verb = wInc ∧ kf = 50) ∨ (verb = wFail ∧ kf = 51) := by
  unfold verbF upd at h
  split at h
  · cases h; exact .inr (.inr (.inr (.inr (.inr ⟨‹_›, rfl⟩))))
  split at h
  · cases h; exact .inr (.inr (.inr (.inr (.inl ⟨‹_›, rfl⟩))))
  split at h
  · cases h; exact .inr (.inr (.inr (.inl ⟨‹_›, rfl⟩)))
  split at h
  · cases h; exact .inr (.inr (.inl ⟨‹_›, rfl⟩))
  split at h
  · cases h; exact .inr (.inl ⟨‹_›, rfl⟩)
  split at h
  · cases h; exact .inl ⟨‹_›, rfl⟩
  · cases h
theorem verb_enters {verb : Bs} {kf : Nat} (h : verbF verb = some kf) (ar : Array Value) (W : World) : (callFunc kf ar).run Tryz.prog W = .ok (.enter kf ar) W := by
  rcases verb_cases h with ⟨-, rfl⟩ | ⟨-, rfl⟩ | ⟨-, rfl⟩ | ⟨-, rfl⟩ | ⟨-, rfl⟩ | ⟨-, rfl⟩ <;> kernel_rfl

/-- bytes whose block may hold more -/
def VeO (W : World) (o : Option Bs) (e : Ending) (w' : World) : Prop :=
  Fa o (fun r e => ∃ v, e = .returned v ∧ OV w' v r) e ∧ Below W.heap.size W w'
theorem VeO.vb {W : World} {k m0 m1 m2 n0 n1 : Nat} {decl : List Bs} {T : List Value} {F' : Bs → Option Value} {F : Bs → Option Bs} (h : Kf W k m0 m1 m2 decl n0 T F' n1 F) {o : Option Bs} {e : Ending} {w' : World} (hq : VeO W o e w') : VbQ W k m0 m1 m2 (o.map fun r => (r, [])) e w' := by
  obtain ⟨hq, hb⟩ := hq
  refine ⟨?_, Fp.of_below hb (Nat.le_refl _)⟩
  cases o with
  | none => exact hq
  | some r =>
    obtain ⟨v, rfl, hv⟩ := hq
    exact ⟨⟨v, rfl, hv⟩, 0, (h.below hb).kw _⟩

section
variable {W : World} {k m0 m1 m2 n0 n1 : Nat} {decl : List Bs} {T : List Value} {F' : Bs → Option Value} {F : Bs → Option Bs} {H : Bs → Bs}
theorem verb_a (h : Kf W k m0 m1 m2 decl n0 T F' n1 F) {verb : Bs} {kf : Nat} (hv : verbF verb = some kf) {av : Value} {A : List Bs} (hav : Strs W av A) (hal : A.length ≤ 1000000) (hax : ∀ a ∈ A, a.length ≤ 1000000) (hjl : (joinS A).length ≤ 900000)
    (hsum : verb = wSum → Calls Tryz.prog 48 #[.pointer (some ⟨k, 0, none⟩), av] W (VeO W (sumO H decl F A))) :
    Calls Tryz.prog kf #[.pointer (some ⟨k, 0, none⟩), av] W (VbQ W k m0 m1 m2 (doneO H decl F verb A)) := by
  rcases verb_cases hv with ⟨rfl, rfl⟩ | ⟨rfl, rfl⟩ | ⟨rfl, rfl⟩ | ⟨rfl, rfl⟩ | ⟨rfl, rfl⟩ | ⟨rfl, rfl⟩
  · exact (cat_a h.kn h.kb.ft hav hal hax h.fit).mono fun e w' hq => VeQ.vb h hq
  · exact (rev_a h hav hal hax).mono fun e w' hq => VeQ.vb h hq
  · exact (hsum rfl).mono fun e w' hq => VeO.vb h hq
  · exact (put_a _ hav hal hax hjl).mono fun e w' hq => VeQ.vb h hq
  · exact inc_a h hav hal hax
  · exact (fail_a W _ _).mono fun e w' hq => VeQ.vb h hq
end

/-! ### bounds -/
theorem right_len {l : Bs} (h : rightL l = true) : l.length ≤ 100 := by
  unfold rightL at h
  rw [Bool.and_eq_true, decide_eq_true_iff, decide_eq_true_iff] at h
  obtain ⟨h1, h2⟩ := h
  unfold cleanL at h1 h2
  split at h1
  · cases h1
  split at h1
  · cases h1
  split at h1
  · cases h1
  split at h1
  · cases h1
  rename_i a b c d
  rw [if_neg a, if_neg b, if_neg c, if_neg d] at h2
  dsimp only at h2
  rw [← h2]
  omega
/-- what was found has the form of paths -/
def Rt (s : Kst) : Prop := ∀ x ∈ s.found, rightL x = true
theorem fndO_mem {L : List Bs} {x y : Bs} (h : y ∈ fndO L x) : y ∈ L ∨ y = x := by
  unfold fndO at h
  split at h
  · exact .inl h
  · rcases List.mem_append.1 h with h | h
    · exact .inl h
    · exact .inr (List.mem_singleton.1 h)
theorem lineO_rt {F : Bs → Option Bs} {f : Option (Bs → Kst → Option Kst)} (hf : ∀ f0, f = some f0 → ∀ b s t, f0 b s = some t → Rt s → Rt t) {l : Bs} {s t : Kst} (h : lineO F f l s = some t) (hs : Rt s) : Rt t := by
  unfold lineO at h
  cases hcp : cutP l with
  | none =>
    rw [hcp] at h
    dsimp only at h
    unfold growO at h
    split at h
    · cases h; exact hs
    · cases h
  | some nm =>
    rw [hcp] at h
    cases f with
    | none => cases h
    | some f0 =>
      dsimp only at h
      unfold inclO at h
      by_cases hc : s.n + 1 ≤ 1000 ∧ rightL (trimE nm) = true
      · rw [if_pos hc] at h
        cases hF : F (trimE nm) with
        | none => rw [hF] at h; cases h
        | some b =>
          rw [hF] at h
          refine hf f0 rfl _ _ _ h fun y hy => ?_
          rcases fndO_mem hy with h1 | h1
          · exact hs y h1
          · rw [h1]; exact hc.2
      · rw [if_neg hc] at h
        cases h
theorem putO_rt (F : Bs → Option Bs) : ∀ (r : Nat) (b : Bs) (s t : Kst), putO F r b s = some t → Rt s → Rt t
  | 0, b, s, t, h, hs => foldO_ok (fun l s t h hs => lineO_rt (fun f0 e => by cases e) h hs) _ s t h hs
  | r + 1, b, s, t, h, hs => foldO_ok (fun l s t h hs => lineO_rt (fun f0 e => by cases e; exact putO_rt F r) h hs) _ s t h hs
theorem doneO_ok {H : Bs → Bs} {decl : List Bs} {F : Bs → Option Bs} {verb : Bs} {A : List Bs} (hH : verb = wSum → ∀ r, (H r).length ≤ 65536) {b : Bs} {f : List Bs} (h : doneO H decl F verb A = some (b, f)) : b.length ≤ 65536 ∧ f.length ≤ 1000 ∧ ∀ x ∈ f, rightL x = true := by
  unfold doneO at h
  have none_ok : ∀ {o : Option Bs}, (∀ r, o = some r → r.length ≤ 65536) → o.map (fun r => (r, ([] : List Bs))) = some (b, f) → b.length ≤ 65536 ∧ f.length ≤ 1000 ∧ ∀ x ∈ f, rightL x = true := by
    intro o ho h
    cases o with
    | none => cases h
    | some r => cases h; exact ⟨ho _ rfl, by simp, fun x hx => by cases hx⟩
  split at h
  · refine none_ok (fun r hr => ?_) h
    exact foldO_ok (P := fun q : Bs => q.length ≤ 65536) (fun a s t h hs => by
      cases ha : argO decl F a with
      | none => rw [ha] at h; cases h
      | some b => rw [ha] at h; exact (growO_len h).1) A [] _ hr (by simp)
  split at h
  · refine none_ok (fun r hr => ?_) h
    unfold revO at hr
    split at hr
    · rename_i a
      cases ha : argO decl F a with
      | none => rw [ha] at hr; cases hr
      | some b =>
        rw [ha] at hr
        cases hg : growO [] b with
        | none => simp only [Option.bind_some, hg] at hr; cases hr
        | some x =>
          simp only [Option.bind_some, hg] at hr
          cases hr
          rw [List.length_reverse]
          exact (growO_len hg).1
    · cases hr
  split at h
  · refine none_ok (fun r hr => ?_) h
    unfold sumO at hr
    split at hr
    · cases hr
    · cases ha : allO decl F A [] with
      | none => rw [ha] at hr; cases hr
      | some x => rw [ha] at hr; cases hr; exact hH ‹_› x
  split at h
  · exact none_ok (fun r hr => (growO_len hr).1) h
  split at h
  · unfold incO at h
    split at h
    · rename_i a
      cases ha : argO decl F a with
      | none => rw [ha] at h; cases h
      | some c =>
        rw [ha] at h
        cases hp : putO F 10 c ⟨[], 0, []⟩ with
        | none => simp only [Option.bind_some, hp] at h; cases h
        | some t =>
          simp only [Option.bind_some, hp] at h
          cases h
          obtain ⟨o1, o2, o3⟩ := putO_ok F 10 c _ _ hp ⟨by simp, by simp, by simp⟩
          exact ⟨o1, by omega, putO_rt F 10 c _ _ hp (fun x hx => by cases hx)⟩
    · cases h
  · cases h
theorem readL_ok {ws : List Bs} {o : Cmd} (h : readL ws = some o) : o.outs ≠ [] ∧ (∀ x ∈ o.outs, rightL x = true) ∧ (∃ kf, verbF o.verb = some kf) ∧ (∀ x ∈ o.args, x ∈ ws) ∧ (∀ x ∈ o.outs, x ∈ ws) ∧ o.args.length ≤ ws.length ∧ o.outs.length ≤ ws.length := by
  have hoff : (∀ x ∈ (offOnce ws).2, x ∈ ws) ∧ (offOnce ws).2.length ≤ ws.length := by
    cases ws with
    | nil => exact ⟨fun x h => h, Nat.le_refl _⟩
    | cons x r =>
      show (∀ y ∈ (if x = wOnce then (true, r) else (false, x :: r)).2, y ∈ x :: r) ∧ (if x = wOnce then (true, r) else (false, x :: r)).2.length ≤ (x :: r).length
      by_cases hx : x = wOnce
      · rw [if_pos hx]
        exact ⟨fun y h => List.mem_cons_of_mem _ h, by simp⟩
      · rw [if_neg hx]
        exact ⟨fun y h => h, Nat.le_refl _⟩
  unfold readL at h
  obtain ⟨s1, s2, s3, s4⟩ := cutW_sub [62] (offOnce ws).2
  generalize cutW [62] (offOnce ws).2 = c at h s1 s2 s3 s4
  obtain ⟨ah, be, pt⟩ := c
  dsimp only at s1 s2 s3 s4
  unfold readA at h
  split at h
  · rename_i verb args be2 heq
    injection heq with e1 e2
    injection e2 with e2 _
    subst e1
    subst e2
    unfold readB at h
    split at h
    · rename_i hc
      rw [Bool.and_eq_true, Bool.and_eq_true] at hc
      obtain ⟨⟨hk, hoo⟩, -⟩ := hc
      unfold okOuts at hoo
      rw [Bool.and_eq_true, Bool.and_eq_true] at hoo
      obtain ⟨t1, t2, t3, t4⟩ := cutW_sub [58] be
      cases hd : depOf (cutW [58] be).2.2 (cutW [58] be).2.1 with
      | none => rw [hd] at h; cases h
      | some d =>
        rw [hd] at h
        cases h
        refine ⟨fun e => ?_, fun x hx => ?_, ?_, fun x hx => hoff.1 x (s1 x (List.mem_cons_of_mem _ hx)), fun x hx => hoff.1 x (s2 x (t1 x hx)), ?_, ?_⟩
        · have e' : (cutW [58] be).1 = [] := e
          rw [e'] at hoo
          simp at hoo
        · exact List.all_eq_true.1 hoo.1.2 x hx
        · exact Option.isSome_iff_exists.1 hk
        · have : args.length + 1 ≤ (offOnce ws).2.length := s3
          show args.length ≤ _
          omega
        · show (cutW [58] be).1.length ≤ _
          omega
    · cases h
  · cases h
end Go.Proofs.YtgledabcfonbeaaGreatDoor.Df
