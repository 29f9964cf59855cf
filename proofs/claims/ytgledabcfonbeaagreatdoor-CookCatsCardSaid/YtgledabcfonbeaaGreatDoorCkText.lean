/-
  put: words, with blanks between.
-/
import Derived.Test.YtgledabcfonbeaaGreatDoorCkVerbs
namespace Go.Proofs.YtgledabcfonbeaaGreatDoor.Df
open Go.RowKit Go.Maps Go.Proofs.YtgledabcfonbeaaGreatDoor

def joinS (K : List Bs) : Bs := Lib.join K [32]
theorem joinS_nil : joinS [] = [] := rfl
theorem joinS_one (p : Bs) : joinS [p] = p := Lib.join_one p [32]
theorem joinS_cons (p q : Bs) (r : List Bs) : joinS (p :: q :: r) = p ++ 32 :: joinS (q :: r) := by
  unfold joinS
  rw [Lib.join_cons, Lib.join_cons]
  simp [Lib.joinTail]
theorem joinS_len (N : Nat) : ∀ K : List Bs, (∀ x ∈ K, x.length ≤ N) → (joinS K).length ≤ (N + 1) * K.length
  | [], _ => by simp [joinS_nil]
  | [p], h => by rw [joinS_one]; have := h p (List.mem_singleton.2 rfl); simp; omega
  | p :: q :: r, h => by
    have h1 := joinS_len N (q :: r) (fun x hx => h x (List.mem_cons_of_mem _ hx))
    have h2 := h p List.mem_cons_self
    rw [joinS_cons, List.length_append, List.length_cons]
    rw [List.length_cons (a := p), Nat.mul_add]
    omega
theorem join_empty (a : Option Addr) (c : Nat) (s : ByteArray) (w : World) : Calls Tryz.prog 68 #[.slice a 0 c, .string s] w fun e w' => e = .returned (.string ⟨#[]⟩) ∧ w' = w := by
  go_enter Tryz.func68, Tryz.ntmps68
  go_wp2_with fail
  go_ret
  exact ⟨rfl, rfl⟩
theorem join_a {w : World} {v : Value} {K : List Bs} (h : Strs w v K) (hl : K.length ≤ 1000000) (hx : ∀ x ∈ K, x.length ≤ 1000000) :
    Calls Tryz.prog 68 #[v, .string ⟨#[32]⟩] w fun e w' => e = .returned (.string (mk (joinS K))) ∧ Below w.heap.size w w' := by
  obtain ⟨a, c, rfl, hc, hrow⟩ := h
  rcases hrow with rfl | ⟨g, off, rfl, hg, hcell⟩
  · exact (join_empty a c _ w).mono fun e w' ⟨h1, h2⟩ => ⟨h1, by rw [h2]; exact Below.refl _ _⟩
  · have hjl : (Lib.join ((K.map mk).map (·.data.toList)) [32]).length ≤ 140737488355328 := by
      have h1 := joinS_len 1000000 K hx
      have h2 : (K.map mk).map (·.data.toList) = K := by rw [List.map_map]; conv => rhs; rw [← List.map_id K]
                                                         exact List.map_congr_left fun x _ => mk_bytes x
      rw [h2]
      have h3 : (1000000 + 1) * K.length ≤ (1000000 + 1) * 1000000 := Nat.mul_le_mul_left _ hl
      exact Nat.le_trans h1 (Nat.le_trans h3 (by decide))
    have h2 : (K.map mk).map (·.data.toList) = K := by
      rw [List.map_map]
      conv => rhs; rw [← List.map_id K]
      exact List.map_congr_left fun x _ => mk_bytes x
    have hj := shstringsJoin g off c (K.map mk) ⟨#[32]⟩ w (fun j x hj => by
      rw [List.getElem?_map] at hj
      obtain ⟨y, hy, rfl⟩ := Option.map_eq_some_iff.1 hj
      exact hcell j y hy) hg (by rw [List.length_map]; omega) (by rw [List.length_map]; exact hc) hjl
    rw [List.length_map, h2] at hj
    exact hj

def txtO (A : List Bs) : Option Bs := growO [] (joinS A ++ [10])
section
variable {W : World}
set_option maxRecDepth 100000 in
set_option maxHeartbeats 8000000 in
theorem put_a (kv : Value) {av : Value} {A : List Bs} (hav : Strs W av A) (hal : A.length ≤ 1000000) (hax : ∀ a ∈ A, a.length ≤ 1000000) (hjl : (joinS A).length ≤ 900000) :
    Calls Tryz.prog 49 #[kv, av] W (VeQ W (txtO A)) := by
  have cj := join_a hav hal hax
  unfold txtO
  obtain ⟨aa, ac, rfl, -, -⟩ := hav
  generalize joinS A = J at *
  have hbig : ¬ 9223372036854775807 < (mk J).size + (mk ([10] : Bs)).size := by rw [mk_size, mk_size]; simp; omega
  have hcat : mk J ++ mk ([10] : Bs) = mk (J ++ [10]) := mk_append J [10]
  have hcat2 : mk J ++ ⟨#[10]⟩ = mk (J ++ [10]) := hcat
  have hbig2 : ¬ 9223372036854775807 < (mk J).size + (⟨#[10]⟩ : ByteArray).size := hbig
  have HCV := Lib.hid (fun w => conv_mk w (J ++ [10]))
  have hJl : (J ++ [10]).length ≤ 1000000 := by simp; omega
  clear hax hcat hbig
  go_enter Tryz.func49, Tryz.ntmps49
  go_wp2_with fail
  refine cj.mono ?_
  rintro e w1 ⟨rfl, hb1⟩
  obtain ⟨cap, w2, hcv, hov, hb2⟩ := HCV.out w1
  have HB2 := Lib.hid (hb1.trans (hb2.mono hb1.size))
  have cg := grown_a (W := w2) (base := W.heap.size) (a := none) (c := 0) (b := []) (World.ownsRow_nil _ _ _ _) HB2.out.size hov.1 (by simp) hJl
  have HGL : Hid (∀ r, growO [] (J ++ [10]) = some r → r.length ≤ 65536) := Lib.hid fun r h => (growO_len h).1
  have cg2 : Calls Tryz.prog 61 #[.slice none 0 0, .slice (some ⟨w1.heap.size, 0, none⟩) (J ++ [10]).length cap] w2 fun e w' => (match growO [] (J ++ [10]) with
      | some r => GrQ w2 W.heap.size none r e w'
      | none => e = .panicked pch ∧ w2 = w') := cg
  clear cj hb1 hb2 hov cg
  generalize (J ++ [10]).length = nJ at *
  go_wp2_with fail
  refine cg2.mono ?_
  cases ho : growO [] (J ++ [10]) with
  | none =>
    rintro e w3 ⟨rfl, rfl⟩
    exact ⟨rfl, rfl, HB2.out⟩
  | some r =>
  rintro e w3 ⟨a3, c3, rfl, ho3, hg3⟩
  have HO3 := Lib.hid ho3
  have HB3 := Lib.hid (HB2.out.trans ⟨hg3.os, hg3.tape, hg3.output, hg3.size, fun q hq => hg3.block q (by have := HB2.out.size; omega) (fun e => by cases e)⟩)
  have HR := Lib.hid ho
  clear cg2 ho3 hg3 ho
  go_wp2_with fail
  go_ret
  refine ⟨?_, HB3.out⟩
  rw [HR.out]
  exact ⟨_, rfl, HO3.out, HGL.out r HR.out⟩
end
end Go.Proofs.YtgledabcfonbeaaGreatDoor.Df
