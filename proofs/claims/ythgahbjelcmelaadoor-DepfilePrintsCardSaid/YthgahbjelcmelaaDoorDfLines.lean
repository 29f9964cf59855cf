/-
  A TEXT's LINES, ONE BY ONE: strings.Cut at a byte; the function that is ranged over.
-/
import Derived.Test.YthgahbjelcmelaaDoorDfNames
import Derived.RangeFuncNested
namespace Go.Proofs.YthgahbjelcmelaaDoor.Df
open Go.RowKit Go.Shelf Go.Proofs.YthgahbjelcmelaaDoor

attribute [local go_sem] Oper.semAt_some

theorem splS_plain (c : UInt8) : ∀ (l cur : Bs), c ∉ l → splS c cur l = [cur ++ l]
  | [], cur, _ => by simp [splS]
  | b :: r, cur, h => by
    have hb : b ≠ c := fun e => h (by simp [e])
    rw [splS, if_neg hb, splS_plain c r _ fun hx => h (by simp [hx])]
    simp
theorem splS_at (c : UInt8) : ∀ (l cur r : Bs), c ∉ l → splS c cur (l ++ c :: r) = (cur ++ l) :: splS c [] r
  | [], cur, r, _ => by simp [splS]
  | b :: l, cur, r, h => by
    have hb : b ≠ c := fun e => h (by simp [e])
    rw [List.cons_append, splS, if_neg hb, splS_at c l _ r fun hx => h (by simp [hx])]
    simp
theorem cut_spl {c : UInt8} {r : Bs} : (cutB c r = none → splS c [] r = [r]) ∧ ∀ a b, cutB c r = some (a, b) → splS c [] r = a :: splS c [] b ∧ b.length < r.length := by
  by_cases h : c ∈ r
  · obtain ⟨a, b, h1, rfl, h3⟩ := cutB_some h
    refine ⟨fun e => (by rw [h1] at e; cases e), fun a' b' e => ?_⟩
    rw [h1] at e
    cases e
    refine ⟨?_, by simp; omega⟩
    rw [splS_at c a [] b h3]
    rfl
  · rw [cutB_none h]
    refine ⟨fun _ => ?_, fun a b e => by cases e⟩
    rw [splS_plain c r [] h]
    rfl

/-- what Cut comes to -/
def cutV (c : UInt8) (r : Bs) : Value := match cutB c r with
  | none => .tuple #[.string (mk r), .string ⟨#[]⟩, .bool false]
  | some (a, b) => .tuple #[.string (mk a), .string (mk b), .bool true]

set_option maxHeartbeats 1000000 in
theorem slCutB_c (c : UInt8) (r : Bs) (w : World) (hs : r.length < 4611686018427387904) :
    Calls Tryd.prog 25 #[.string (mk r), .string ⟨#[c]⟩] w fun e w' => (∃ n, w' = w.drewN n) ∧ e = .returned (cutV c r) := by
  have hsz := mk_size r
  have hge := Lib.indexByte_ge r c
  have hV : ∀ (o : Nat), Lib.indexByte r c = (o : Int) → o < r.length ∧ cutV c r = .tuple #[.string ((mk r).extract 0 o), .string ((mk r).extract (o + 1) r.length), .bool true] := fun o h => by
    obtain ⟨h1, _⟩ := Lib.indexByte_some h
    have ho := (List.getElem?_eq_some_iff.1 h1).1
    refine ⟨ho, ?_⟩
    have e0 : cutB c r = some (r.take o, r.drop (o + 1)) := by
      unfold cutB
      rw [h]
    unfold cutV
    rw [e0, mk_extract, mk_extract]
    have e1 : (r.drop 0).take (o - 0) = r.take o := by simp
    have e2 : (r.drop (o + 1)).take (r.length - (o + 1)) = r.drop (o + 1) := List.take_of_length_le (by rw [List.length_drop]; omega)
    rw [e1, e2]
  have hN : Lib.indexByte r c = -1 → cutV c r = .tuple #[.string (mk r), .string ⟨#[]⟩, .bool false] := fun h => by
    have e0 : cutB c r = none := by
      unfold cutB
      rw [h]
      rfl
    unfold cutV
    rw [e0]
  have hidx := shstringsliteIndexone (mk r) c w
  rw [mk_bytes] at hidx
  generalize mk r = s at *
  go_enter Tryd.func25, Tryd.ntmps25
  go_wp2_with fail
  refine hidx.mono ?_
  rintro e w1 ⟨rfl, rfl⟩
  obtain ⟨H, hH⟩ : ∃ H, Lib.indexByte r c = H := ⟨_, rfl⟩
  rw [hH] at hge hV hN ⊢
  by_cases hn : H = -1
  · have HN := Lib.hid (hN hn)
    subst hn
    clear hV hN
    go_wp2
    go_ret3
    exact ⟨⟨0, rfl⟩, by rw [HN.out]; rfl⟩
  · obtain ⟨o, rfl⟩ : ∃ o : Nat, H = (o : Int) := ⟨H.toNat, by omega⟩
    obtain ⟨ho, hv⟩ := hV o rfl
    have HV := Lib.hid hv
    clear hV hN hv
    go_wp2
    go_quiet (fail)
    go_wp2
    go_ret3
    exact ⟨⟨_, rfl⟩, by rw [HV.out]; rfl⟩

set_option maxHeartbeats 1000000 in
theorem cutB_c (c : UInt8) (r : Bs) (w : World) (hs : r.length < 4611686018427387904) :
    Calls Tryd.prog 13 #[.string (mk r), .string ⟨#[c]⟩] w fun e w' => (∃ n, w' = w.drewN n) ∧ e = .returned (cutV c r) := by
  have hc := slCutB_c c r w hs
  have hv : ∃ (a b : ByteArray) (k : Bool), cutV c r = .tuple #[.string a, .string b, .bool k] := by
    unfold cutV
    split
    · exact ⟨_, _, _, rfl⟩
    · exact ⟨_, _, _, rfl⟩
  obtain ⟨a, b, k, hk⟩ := hv
  rw [hk] at hc ⊢
  generalize mk r = s at *
  go_enter Tryd.func13, Tryd.ntmps13
  go_wp2_with fail
  refine hc.mono ?_
  rintro e w1 ⟨⟨n, rfl⟩, rfl⟩
  go_wp2
  go_ret3
  exact ⟨⟨_, rfl⟩, rfl⟩

/-- the memory that the library reads: bytealg.MaxLen -/
def Gl (w : World) : Prop := ∃ m, w.cell? ⟨0, 0, none⟩ = some (.int .i64 m)
theorem Gl.below {w w' : World} {b : Nat} (h : Gl w) (hb : Below b w w') (h0 : 0 < b) : Gl w' := by
  obtain ⟨m, h⟩ := h
  exact ⟨m, (cell_of_block (hb.block 0 h0)).trans h⟩
theorem Gl.lt {w : World} (h : Gl w) : 0 < w.heap.size := by
  obtain ⟨m, h⟩ := h
  exact lt_of_cell h

theorem count_le (s : Bs) : Lib.countB (mk s) (mk [92, 10]) ≤ s.length := by
  have := Lib.countB_le (mk [92, 10]) (by decide) (mk s).size (mk s) (Nat.le_refl _)
  rwa [mk_size] at this

theorem rep_c (s : Bs) (hs : s.length ≤ 1000000) (w : World) (hg : Gl w) : Calls Tryd.prog 36 #[.string (mk s), .string ⟨#[92, 10]⟩, .string ⟨#[32]⟩] w fun e w' => e = .returned (.string (mk (rep s))) ∧ Below w.heap.size w w' := by
  obtain ⟨m, hm⟩ := hg
  have hc := count_le s
  refine (shstringsReplaceAll (mk s) ⟨#[92, 10]⟩ ⟨#[32]⟩ m w (by rw [mk_size]; omega) hm (by decide) (by
    rw [mk_size]
    have e : (⟨#[32]⟩ : ByteArray).size = 1 := rfl
    have e2 : (⟨#[92, 10]⟩ : ByteArray) = mk [92, 10] := rfl
    rw [e, e2]
    omega)).mono ?_
  rintro e w' ⟨rfl, hb⟩
  refine ⟨?_, hb⟩
  have e1 : (⟨#[92, 10]⟩ : ByteArray).data.toList = [92, 10] := rfl
  have e2 : (⟨#[32]⟩ : ByteArray).data.toList = [32] := rfl
  rw [e1, e2, mk_bytes, rep_all]
  rfl

set_option maxHeartbeats 1000000 in
theorem lines_in (n : Nat) (s : ByteArray) (w : World) :
    CallsIn Fence.wide n Tryd.prog 26 #[.string s] w fun e w' => e = .returned (.func (.func 35) #[] #[.pointer (some ⟨w.heap.size, 0, none⟩)]) ∧ w' = w.alloc (.cells #[.string s] 9) := by
  refine callsIn_of_wp Tryd.func26 rfl trivial ?_ rfl
  simp only [Tryd.ntmps26, List.size_toArray, List.length_cons, List.length_nil, Nat.reduceAdd, Nat.reduceSub, Array.replicate_succ, Array.replicate_zero, List.push_toArray, List.append_toArray, List.nil_append, List.cons_append]
  gi_wp2
  go_ret
  exact ⟨rfl, rfl⟩

/-- a line, not too long -/
abbrev Ln := {x : Bs // x.length ≤ 1000000}
def vals (L : List Ln) : List Bs := L.map (·.1)
theorem vals_snoc (L : List Ln) (x : Ln) : vals (L ++ [x]) = vals L ++ [x.1] := by simp [vals]

set_option maxRecDepth 100000 in
set_option maxHeartbeats 2000000 in
theorem lines1_in (n : Nat) (hn : 1 ≤ n) (l Bn n₀ : Nat) (s : Bs) (hs : s.length ≤ 1000000) (J Jx : List Ln → World → Prop)
    (hJd : ∀ pre W W', J pre W → Below W.heap.size W W' → J pre W')
    (hY : ∀ pre x W, J pre W → pre.length < (splS 10 [] (rep s)).length → YieldAt Fence.wide (n - 1) Tryd.prog l #[.string (mk x.1)] W fun e W' =>
      (e = .returned (.bool true) ∧ J (pre ++ [x]) W' ∧ Below n₀ W W') ∨ (e = .returned (.bool false) ∧ Jx (pre ++ [x]) W'))
    (W : World) (hBn : W.cell? ⟨Bn, 0, none⟩ = some (.string (mk s))) (hg : Gl W) (h0 : J [] W) :
    CallsIn Fence.wide n Tryd.prog 35 #[.func (.yield l) #[] #[], .pointer (some ⟨Bn, 0, none⟩)] W fun e W' => (∃ v, e = .returned v) ∧
      ((∃ ys, vals ys = splS 10 [] (rep s) ∧ J ys W') ∨ (∃ pre, vals pre <+: splS 10 [] (rep s) ∧ Jx pre W')) := by
  have hrep := rep_c s hs W hg
  have hrl := rep_len s
  obtain ⟨R, hR⟩ : ∃ R, rep s = R := ⟨_, rfl⟩
  rw [hR] at hY hrep hrl ⊢
  obtain ⟨xs, hxs⟩ : ∃ xs, splS 10 [] R = xs := ⟨_, rfl⟩
  rw [hxs] at hY ⊢
  clear hR hg
  refine callsIn_of_wp Tryd.func35 rfl trivial ?_ rfl
  simp only [Tryd.ntmps35, List.size_toArray, List.length_cons, List.length_nil, Nat.reduceAdd, Nat.reduceSub, Array.replicate_succ, Array.replicate_zero, List.push_toArray, List.append_toArray, List.nil_append, List.cons_append]
  gi_wp2
  refine ⟨trivial, (callsIn_wide.2 hrep).mono ?_⟩
  rintro e W1 ⟨rfl, hb1⟩
  have h1 := hJd _ _ _ h0 hb1
  clear hrep hb1 h0 hBn
  gi_wp2
  gi_loopw [3, 4, 5] (fun p m _ wr => ∃ (pre : List Ln) (r : Bs) (b : Bool), p = .string (mk r) ∧ m = .bool b ∧ r.length ≤ R.length ∧ (if b = true then vals pre ++ splS 10 [] r = xs else vals pre = xs) ∧ J pre wr)
    (fun p m _ _ => moreN m * (strLen p + 1))
  case atStart =>
    exact ⟨[], R, true, rfl, rfl, Nat.le_refl _, by simpa [vals] using hxs, h1⟩
  case round =>
    obtain ⟨pre, r, b, rfl, rfl, hr, hx, hJs⟩ := hrel
    have hpl : (vals pre).length = pre.length := by simp [vals]
    cases b with
    | false =>
      rw [if_neg (by decide)] at hx
      gi_wp2
      go_end0
      exact ⟨⟨_, rfl⟩, .inl ⟨pre, hx, hJs⟩⟩
    | true =>
      rw [if_pos rfl] at hx
      obtain ⟨k1, k2⟩ := cut_spl (c := 10) (r := r)
      have hcut := cutB_c 10 r wr (by omega)
      unfold cutV at hcut
      gi_wp2
      refine ⟨trivial, (callsIn_wide.2 hcut).mono ?_⟩
      rintro e W2 ⟨⟨k, rfl⟩, rfl⟩
      have hJ2 := hJd _ _ (wr.drewN k) hJs ⟨rfl, rfl, rfl, Nat.le_refl _, fun _ _ => rfl⟩
      clear hcut
      cases hc : cutB 10 r with
      | none =>
        have hc1 := k1 hc
        rw [hc1] at hx
        have hrl2 : r.length ≤ 1000000 := by omega
        obtain ⟨fn, tmps, assign, body, hy, hRR⟩ := hY pre ⟨r, hrl2⟩ (wr.drewN k) hJ2 (by rw [← hx]; simp [hpl])
        have hv := vals_snoc pre ⟨r, hrl2⟩
        clear k1 k2 hc hc1
        simp only [] at hRR hv ⊢
        gi_wp2
        refine hRR.mono ?_
        rintro e W3 (⟨rfl, hJ3, hk3⟩ | ⟨rfl, hJx3⟩)
        · gi_wp2
          go_roundw
          case rel => exact ⟨pre ++ [⟨r, hrl2⟩], [], false, rfl, rfl, Nat.zero_le _, by rw [if_neg (by decide), hv]; exact hx, hJ3⟩
          case measure => simp [moreN]
        · gi_wp2
          refine bodyPost_ret (results_none rfl _ _ _) rfl ?_
          exact ⟨⟨_, rfl⟩, .inr ⟨pre ++ [⟨r, hrl2⟩], by rw [hv, hx]; exact List.prefix_refl _, hJx3⟩⟩
      | some ab =>
        obtain ⟨x, b⟩ := ab
        obtain ⟨hc1, hlt⟩ := k2 x b hc
        rw [hc1] at hx
        have hxl : x.length ≤ 1000000 := by
          obtain ⟨a', b', h1, h2, _⟩ := cutB_some (c := 10) (l := r) (by
            by_cases h : 10 ∈ r
            · exact h
            · rw [cutB_none h] at hc; cases hc)
          rw [hc] at h1
          cases h1
          have := congrArg List.length h2
          simp at this
          omega
        obtain ⟨fn, tmps, assign, body, hy, hRR⟩ := hY pre ⟨x, hxl⟩ (wr.drewN k) hJ2 (by rw [← hx]; simp [hpl])
        have hv := vals_snoc pre ⟨x, hxl⟩
        clear k1 k2 hc hc1
        simp only [] at hRR hv ⊢
        gi_wp2
        refine hRR.mono ?_
        rintro e W3 (⟨rfl, hJ3, hk3⟩ | ⟨rfl, hJx3⟩)
        · gi_wp2
          go_roundw
          case rel => exact ⟨pre ++ [⟨x, hxl⟩], b, true, rfl, rfl, by omega, by rw [if_pos rfl, hv, ← hx]; simp, hJ3⟩
          case measure => simp only [moreN, strLen, mk_size]; omega
        · gi_wp2
          refine bodyPost_ret (results_none rfl _ _ _) rfl ?_
          exact ⟨⟨_, rfl⟩, .inr ⟨pre ++ [⟨x, hxl⟩], ⟨splS 10 [] b, by rw [hv, ← hx]; simp⟩, hJx3⟩⟩

theorem lines_stops (n : Nat) (hn : 1 ≤ n) (Bn n₀ : Nat) (s : Bs) (hs : s.length ≤ 1000000) (w : World) (hBn : Bn < w.heap.size)
    (hc : w.cell? ⟨Bn, 0, none⟩ = some (.string (mk s))) (hg : Gl w) :
    SeqStopsK Fence.wide n Tryd.prog 35 #[.pointer (some ⟨Bn, 0, none⟩)] (fun x : Ln => #[Value.string (mk x.1)]) (Below n₀) (fun ys => vals ys = splS 10 [] (rep s)) (fun pre => vals pre <+: splS 10 [] (rep s)) (splS 10 [] (rep s)).length w :=
  fun l J Jx W hW hJ _ hY h0 =>
    lines1_in n hn l Bn n₀ s hs J Jx (fun pre W W' h hb => hJ pre W W' none h ⟨hb.os, hb.tape, hb.output, hb.size, fun k hk _ => hb.block k hk⟩ (by simp)) hY W ((hW.cell (p := ⟨Bn, 0, none⟩) hBn).trans hc) (hg.below hW hg.lt) h0
end Go.Proofs.YthgahbjelcmelaaDoor.Df
