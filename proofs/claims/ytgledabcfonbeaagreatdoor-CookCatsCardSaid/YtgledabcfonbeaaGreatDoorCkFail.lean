/-
  WHAT FAILS: need, a file's bytes, an argument's, grown, cat.
-/
import Derived.Test.YtgledabcfonbeaaGreatDoorCkKit
import Derived.Test.YtgledabcfonbeaaGreatDoorCkPure
import Derived.WalkLawsBesides
namespace Go.Proofs.YtgledabcfonbeaaGreatDoor.Df
open Go.RowKit Go.Maps Go.Proofs.YtgledabcfonbeaaGreatDoor

def pch : List PanicEntry := [{ v := pz, recovered := false }]
theorem need_f (w : World) : Calls Tryz.prog 32 #[.bool false] w fun e w' => e = .panicked pch ∧ w = w' := by
  go_enter Tryz.func32, Tryz.ntmps32
  go_wp2_with fail
  exact ⟨rfl, rfl, rfl⟩
theorem need_a (b : Bool) (w : World) : Calls Tryz.prog 32 #[.bool b] w fun e w' => e = (if b then .returned (.tuple #[]) else .panicked pch) ∧ w = w' := by
  cases b with
  | true => exact (need_t w).mono fun e w' h => h
  | false => exact (need_f w).mono fun e w' h => h

/-- a kitchen, as it is read -/
def Kn (W : World) (k m0 m1 m2 : Nat) (n : Int) (fv : Value) (decl : List Bs) (n0 : Nat) (T : List Value) (F : Bs → Option Value) (n1 : Nat) : Prop :=
  W.heap[k]? = some (KtO m0 m1 n fv m2) ∧ Si W n0 m0 (fun l => decl.contains l) ∧ Vi W n1 m1 T F ∧ zFile ∈ T
theorem Kn.below {W W' : World} {k m0 m1 m2 n0 n1 : Nat} {n : Int} {fv : Value} {decl : List Bs} {T : List Value} {F : Bs → Option Value} (h : Kn W k m0 m1 m2 n fv decl n0 T F n1) (hb : Below W.heap.size W W') : Kn W' k m0 m1 m2 n fv decl n0 T F n1 := by
  obtain ⟨h1, h2, h3, h4⟩ := h
  exact ⟨(hb.block _ (lt_some h1)).trans h1, h2.kept (hb.block _ h2.lt), h3.kept (hb.block _ h3.lt), h4⟩
/-- the files of F' bear the bytes of F -/
def FT (W : World) (F' : Bs → Option Value) (F : Bs → Option Bs) : Prop :=
  ∀ s, match F s with
    | some b => ∃ f0 ua uc, F' s = some (.agg #[.string f0, .slice ua b.length uc]) ∧ Byt W (.slice ua b.length uc) b ∧ b.length ≤ 1000000 ∧ uc ≤ 9223372036854775807
    | none => F' s = none
theorem FT.below {W W' : World} {F' : Bs → Option Value} {F : Bs → Option Bs} (h : FT W F' F) (hb : Below W.heap.size W W') : FT W' F' F := fun s => by
  have := h s
  split at this <;> rename_i hs
  · obtain ⟨f0, ua, uc, h1, h2, h3⟩ := this
    exact ⟨f0, ua, uc, h1, h2.below hb, h3⟩
  · exact this

/-- the bytes of the file s -/
def At (F' : Bs → Option Value) (s : Bs) (v : Value) : Prop := ∃ f0, F' s = some (.agg #[.string f0, v])
theorem FT.at {W : World} {F' : Bs → Option Value} {F : Bs → Option Bs} (h : FT W F' F) {s b : Bs} {v : Value} (hb : F s = some b) (hv : At F' s v) : Byt W v b ∧ b.length ≤ 1000000 ∧ ∀ a n c, v = .slice a n c → c ≤ 9223372036854775807 := by
  have := h s
  rw [hb] at this
  obtain ⟨f0, ua, uc, h1, h2, h3, h4⟩ := this
  obtain ⟨f1, h5⟩ := hv
  rw [h1] at h5
  cases h5
  exact ⟨h2, h3, fun a n c e => by cases e; exact h4⟩

/-- what a call comes to that may fail -/
def Fa {α : Type} (o : Option α) (Q : α → Ending → Prop) (e : Ending) : Prop := match o with
  | some a => Q a e
  | none => e = .panicked pch

section
variable {W : World} {k m0 m1 m2 n0 n1 : Nat} {n : Int} {fv : Value} {decl : List Bs} {T : List Value} {F' : Bs → Option Value} {F : Bs → Option Bs}
set_option maxRecDepth 100000 in
set_option maxHeartbeats 4000000 in
theorem file_a (h : Kn W k m0 m1 m2 n fv decl n0 T F' n1) (hF : FT W F' F) {s : Bs} (hs : s.length ≤ 1000000) :
    Calls Tryz.prog 73 #[.pointer (some ⟨k, 0, none⟩), .string (mk s)] W fun e w' => Fa (F s) (fun b e => ∃ v, e = .returned v ∧ Byt w' v b ∧ At F' s v) e ∧ Below W.heap.size W w' := by
  obtain ⟨h1, h2, h3, h4⟩ := h
  have hf := hF s
  have c1 : W.cell? ⟨k, 1, none⟩ = some (.map (some m1)) := by simp [World.cell?, h1, KtO]
  cases hb : F s with
  | none =>
    rw [hb] at hf
    have hl := h3.miss h4 (s := s) (by unfold maxLen; omega) hf
    have hl2 : (Instr.lookup 82 (.map (some m1)) (.string (mk s)) true).run Tryz.prog W = .ok (.tuple #[.agg #[.string ⟨#[]⟩, .slice none 0 0], .bool false]) W := hl
    have hn := need_f (W.alloc (.cells #[.string ⟨#[]⟩, .slice none 0 0] 52))
    have HB := Lib.hid (below_alloc W (.cells #[.string ⟨#[]⟩, .slice none 0 0] 52))
    clear h1 h2 h3 h4 hf hF hb hl
    go_enter Tryz.func73, Tryz.ntmps73
    go_wp2_with fail
    refine hn.mono ?_
    rintro e w1 ⟨rfl, rfl⟩
    exact ⟨rfl, rfl, HB.out⟩
  | some b =>
    rw [hb] at hf
    obtain ⟨f0, ua, uc, hf, hby, hbl, -⟩ := hf
    have HAT : Hid (At F' s (.slice ua b.length uc)) := Lib.hid ⟨f0, hf⟩
    have hl := h3.look h4 (s := s) (by unfold maxLen; omega) hf
    have hn := need_t (W.alloc (.cells #[.string f0, .slice ua b.length uc] 52))
    have HB := Lib.hid (below_alloc W (.cells #[.string f0, .slice ua b.length uc] 52))
    have HY := Lib.hid hby
    clear h1 h2 h3 h4 hf hF hb hby
    go_enter Tryz.func73, Tryz.ntmps73
    go_wp2_with fail
    refine hn.mono ?_
    rintro e w1 ⟨rfl, rfl⟩
    clear hn
    go_wp2_with fail
    go_ret
    exact ⟨⟨_, rfl, HY.out.below HB.out, HAT.out⟩, HB.out⟩

set_option maxRecDepth 100000 in
set_option maxHeartbeats 4000000 in
theorem argument_a (h : Kn W k m0 m1 m2 n fv decl n0 T F' n1) (hF : FT W F' F) {s : Bs} (hs : s.length ≤ 1000000) :
    Calls Tryz.prog 62 #[.pointer (some ⟨k, 0, none⟩), .string (mk s)] W fun e w' => Fa (argO decl F s) (fun b e => ∃ v, e = .returned v ∧ Byt w' v b ∧ At F' s v) e ∧ Below W.heap.size W w' := by
  have hA := below_alloc W (.cells #[] 85)
  have cf := file_a (h.below hA) (hF.below hA) hs
  have HA := Lib.hid hA
  obtain ⟨h1, h2, h3, h4⟩ := h
  have c1 : W.cell? ⟨k, 0, none⟩ = some (.map (some m0)) := by simp [World.cell?, h1, KtO]
  have hl := h2.look (s := s) (by unfold maxLen; omega)
  have hn := need_a (decl.contains s) (W.alloc (.cells #[] 85))
  unfold argO
  clear h1 h2 h3 h4 hF hA
  cases hd : decl.contains s with
  | false =>
    rw [hd] at hl hn
    have HD := Lib.hid hd
    clear hd cf
    go_enter Tryz.func62, Tryz.ntmps62
    go_wp2_with fail
    refine hn.mono ?_
    rintro e w1 ⟨rfl, rfl⟩
    exact ⟨rfl, rfl, HA.out⟩
  | true =>
    rw [hd] at hl hn
    clear hd
    rw [if_pos rfl]
    obtain ⟨o, ho⟩ : ∃ o, F s = o := ⟨_, rfl⟩
    rw [ho] at cf ⊢
    clear ho
    go_enter Tryz.func62, Tryz.ntmps62
    go_wp2_with fail
    refine hn.mono ?_
    rintro e w1 ⟨rfl, rfl⟩
    clear hn
    go_wp2_with fail
    refine cf.mono ?_
    rintro e w2 ⟨hq, hb2⟩
    have HB := Lib.hid (HA.out.trans (hb2.mono HA.out.size))
    cases o with
    | none =>
      obtain rfl : e = .panicked pch := hq
      exact ⟨rfl, rfl, HB.out⟩
    | some b =>
      obtain ⟨v, rfl, hv⟩ := hq
      have HV := Lib.hid hv
      clear cf hb2 hv
      go_wp2_with fail
      go_ret
      exact ⟨⟨_, rfl, HV.out⟩, HB.out⟩
end

theorem own_slice {w : World} {base : Nat} {e : TypeId} {sz : Nat} {v : Value} {n : Nat} {xs : List Value} (h : w.ownsRow base e sz v n xs) : ∃ a c, v = .slice a n c := by
  rcases h.2 with ⟨rfl, h0⟩ | ⟨g, cap, cur, rfl, _⟩
  · exact ⟨none, 0, by rw [h0]⟩
  · exact ⟨_, _, rfl⟩
theorem own_lo {w : World} {base : Nat} {e : TypeId} {sz : Nat} {v : Value} {n : Nat} {xs : List Value} (h : w.ownsRow base e sz v n xs) : ∀ g, v.ownBlock = some g → base ≤ g := fun _ hg => (owns_block h hg).1

set_option maxRecDepth 100000 in
set_option maxHeartbeats 4000000 in
theorem grown_f {W : World} {a ua : Option Addr} {c uc n m : Nat} (hl : ¬ n + m ≤ 65536) (hn : n ≤ 1000000) (hm : m ≤ 1000000) :
    Calls Tryz.prog 61 #[.slice a n c, .slice ua m uc] W fun e w' => e = .panicked pch ∧ W = w' := by
  have hf := need_f W
  have d1 : decide ((n : Int) + (m : Int) ≤ 65536) = false := decide_eq_false (by omega)
  go_enter Tryz.func61, Tryz.ntmps61
  go_wp2_with fail
  refine hf.mono ?_
  rintro e w1 ⟨rfl, rfl⟩
  exact ⟨rfl, rfl, rfl⟩
theorem grown_a {W : World} {base : Nat} {a : Option Addr} {c : Nat} {u : Value} {b m : Bs} (h : W.ownsRow base 5 1 (.slice a b.length c) b.length (bytesV b)) (hbase : base ≤ W.heap.size) (hm : Byt W u m) (hb1 : b.length ≤ 1000000) (hm1 : m.length ≤ 1000000) :
    Calls Tryz.prog 61 #[.slice a b.length c, u] W fun e w' => (match growO b m with
      | some r => GrQ W base (Value.slice a b.length c).ownBlock r e w'
      | none => e = .panicked pch ∧ W = w') := by
  unfold growO
  by_cases hl : b.length + m.length ≤ 65536
  · rw [if_pos hl]
    exact grown_c h hbase hm hl
  · rw [if_neg hl]
    obtain ⟨ua, uc, rfl, -, -, -⟩ := id hm
    exact grown_f hl hb1 hm1
end Go.Proofs.YtgledabcfonbeaaGreatDoor.Df
