/-
  append OF BYTES, from whatever source, onto a row of the call's own.
-/
import Derived.Test.YtppboldeocjbhaaRef
import Derived.Test.YtppboldeocjbhaaCommon
import Derived.Laws.AppendOwnNone
namespace Go.Proofs.Ytppboldeocjbhaa
open Go.RowKit

def bytesV (l : List Nat) : List Value := l.map fun (n : Nat) => Value.int .u8 (n : Int)

theorem bytesV_append (a b : List Nat) : bytesV (a ++ b) = bytesV a ++ bytesV b := by simp [bytesV]
theorem bytesV_length (l : List Nat) : (bytesV l).length = l.length := by simp [bytesV]

theorem info5 : (Try.prog.info? 5).map (fun i => (i.zero, i.size, i.bytes)) = some (some (.int .u8 0), 1, 1) := by kernel_rfl

theorem row_cells {w : World} {x : Addr} {l : List Nat} (h : Row w (some x) l) : ∀ j u, (bytesV l)[j]? = some u → w.cell? (x.add j) = some u := by
  intro j u hu
  unfold bytesV at hu
  rw [List.getElem?_map] at hu
  obtain ⟨n, hn, rfl⟩ := Option.map_eq_some_iff.1 hu
  have hj : j < l.length := by
    rcases Nat.lt_or_ge j l.length with h | h
    · exact h
    · rw [List.getElem?_eq_none h] at hn; cases hn
  rcases h with rfl | ⟨b, off, e, _, hc⟩
  · simp at hj
  · cases e
    rw [Go.WideShapes.add_plain, hc j hj]
    simp [List.getD, hn]

/-- what an append to a row of the call's own leaves of what was there ahead -/
theorem below_grown {w w' : World} {base : Nat} {v : Value} {n : Nat} {xs : List Value} (hown : w.ownsRow base 5 1 v n xs) (hg : w.grownBy w' v.ownBlock) (hb : base ≤ w.heap.size) : Below base w w' :=
  (Below.refl _ _).grown hg hb fun k hk => (hown.lt k hk).1

theorem wpList_append_bytes0 {w : World} {ops : Array Oper} {rest : List Oper} {o : Oper} {a : Act} {Q : Exit → Act → World → Prop} (hgd : o.guard = none) (s x : Operand)
    (ho : o.op = .call { callee := .builtin .append, args := #[s, x], argTypes := #[22, 22] })
    (base : Nat) (v : Value) (n : Nat) (xs : List Nat) (hs : a.eval s = v) (hown : w.ownsRow base 5 1 v n (bytesV xs))
    (ad : Option Addr) (m c : Nat) (l : List Nat) (hx : a.eval x = .slice ad m c) (hm : m = l.length) (hnil : ad = none → c = 0) (hrow : Row w ad l)
    (hbytes : n + m ≤ 140737488351232) (hbase : base ≤ w.heap.size)
    (h : ∀ v' w', w'.ownsRow base 5 1 v' (n + m) (bytesV (xs ++ l)) → Below base w w' → wpList Try.prog ops Q rest (a.put o.dst v') w') : wpList Try.prog ops Q (o :: rest) a w := by
  obtain ⟨i0, hi, hz0, hz1, hz2⟩ := info_parts info5
  cases ad with
  | none =>
    have hl : l = [] := by
      rcases hrow with h | ⟨_, _, e, _⟩
      · exact h
      · cases e
    subst hl
    obtain rfl : c = 0 := hnil rfl
    obtain rfl : m = 0 := hm
    refine wpList_append_own_none hgd s x 22 ho base 5 i0 1 Try.underlying22 hi v n (bytesV xs) hs hown hx ?_
    refine h v w ?_ (Below.refl _ _)
    simpa using hown
  | some ad =>
    refine wpList_append_own w hgd s x 22 ho base 5 i0 (.int .u8 0) 1 1 Try.underlying22 hi hz0 hz1 hz2 rfl (by decide) v n (bytesV xs) hs hown ad m c (bytesV l) hx (by rw [bytesV_length]; omega) (row_cells hrow) ?_ (by unfold maxLen; omega) (by omega) hbase ?_
    · intro u hu
      unfold bytesV at hu
      obtain ⟨k, _, rfl⟩ := List.mem_map.1 hu
      rfl
    · intro v' w' h1 h2 _
      exact h v' w' (by rw [bytesV_append]; exact h1) (below_grown hown h2 hbase)

/-- what is owned reads as its bytes -/
theorem row_owned {w : World} {base : Nat} {v : Value} {n : Nat} {xs : List Nat} (h : w.ownsRow base 5 1 v n (bytesV xs)) :
    ∃ a cap, v = .slice a n cap ∧ n = xs.length ∧ Row w a xs ∧ (a = none → cap = 0) := by
  have hn : n = xs.length := by have := h.1; rw [bytesV_length] at this; omega
  rcases h.2 with ⟨rfl, rfl⟩ | ⟨g, cap, cur, rfl, hb, hg, hle, _, hsz, htake⟩
  · exact ⟨none, 0, rfl, hn, .inl (List.eq_nil_of_length_eq_zero hn.symm), fun _ => rfl⟩
  · refine ⟨some ⟨g, 0, none⟩, cap, rfl, hn, .inr ⟨g, 0, rfl, (Array.getElem?_eq_some_iff.1 hg).1, fun i hi => ?_⟩, fun e => by cases e⟩
    have hc := h.cells (g := g) rfl i (.int .u8 ((xs.getD i 0 : Nat) : Int)) (by simp [bytesV, hi])
    rw [Go.WideShapes.add_plain] at hc
    exact hc

/-- the same, its end in the walk's own form: a value of three parts, its length a number of its own -/
theorem wpList_append_bytes {w : World} {ops : Array Oper} {rest : List Oper} {o : Oper} {a : Act} {Q : Exit → Act → World → Prop} (hgd : o.guard = none) (s x : Operand)
    (ho : o.op = .call { callee := .builtin .append, args := #[s, x], argTypes := #[22, 22] })
    (base : Nat) (v : Value) (n : Nat) (xs : List Nat) (hs : a.eval s = v) (hown : w.ownsRow base 5 1 v n (bytesV xs))
    (ad : Option Addr) (m c : Nat) (l : List Nat) (hx : a.eval x = .slice ad m c) (hm : m = l.length) (hnil : ad = none → c = 0) (hrow : Row w ad l)
    (ys : List Nat) (hys : xs ++ l = ys) (hbytes : n + m ≤ 140737488351232) (hbase : base ≤ w.heap.size)
    (h : ∀ a' n' c' w', w'.ownsRow base 5 1 (.slice a' n' c') n' (bytesV ys) → Hid (n' = ys.length) → n' ≤ n + m → Row w' a' ys → Hid (a' = none → c' = 0) → Below base w w' → wpList Try.prog ops Q rest (a.put o.dst (.slice a' n' c')) w') : wpList Try.prog ops Q (o :: rest) a w := by
  subst hys
  refine wpList_append_bytes0 hgd s x ho base v n xs hs hown ad m c l hx hm hnil hrow hbytes hbase fun v' w' h1 h2 => ?_
  obtain ⟨a', c', rfl, hn, hr, hc⟩ := row_owned h1
  exact h a' (n + m) c' w' h1 hn (Nat.le_refl _) hr hc h2

theorem owns_made (w : World) (base : Nat) (hb : base ≤ w.heap.size) : (w.alloc (.cells #[] 5)).ownsRow base 5 1 (.slice (some ⟨w.heap.size, 0, none⟩) 0 0) 0 (bytesV []) :=
  World.ownsRow_made w #[] 0 hb (by unfold maxLen; omega) rfl

theorem le4_cells (s : Nat) (hs : s < 4294967296) :
    #[Value.int IntKind.u8 ((s : Int) % 256), Value.int IntKind.u8 ((s : Int) / 256 % 256), Value.int IntKind.u8 ((s : Int) / 65536 % 256), Value.int IntKind.u8 ((s : Int) / 16777216)] = ((Crc.le4 s).map fun (n : Nat) => Value.int .u8 (n : Int)).toArray := by
  unfold Crc.le4
  simp
  omega

theorem le4_lt (s : Nat) : ∀ n ∈ Crc.le4 s, n < 256 := by
  intro n hn
  simp [Crc.le4] at hn
  omega

theorem app_lt {a b : List Nat} (ha : ∀ n ∈ a, n < 256) (hb : ∀ n ∈ b, n < 256) : ∀ n ∈ a ++ b, n < 256 := fun n hn => by
  rcases List.mem_append.1 hn with h | h
  · exact ha n h
  · exact hb n h

theorem ends_any (a : Option Addr) (n cap : Nat) (l : List Nat) (w : World) (hl : ∀ n ∈ l, n < 256) (hlen : l.length ≤ 1000)
    (hn : n = l.length) (hnil : a = none → cap = 0) (hrow : Row w a l) :
    Calls Try.prog 16 #[.slice a n cap] w fun e w' => e = .returned (.int .u32 (Crc.inv (Crc.iter 32 4294967295) : Int)) ∧ Below w.heap.size w w' := by
  have Hn := Lib.hid hn
  have hn1 : n ≤ 1000 := by omega
  clear hn
  have Hnil := Lib.hid hnil
  clear hnil
  have hends := Crc.sum_ends l hl
  have Hends := Lib.hid hends
  clear hends
  go_enter Try.func16, Try.ntmps16
  go_wp2_with fail
  refine (sum_any a n cap l _ hl (by omega) Hn.out hrow).mono ?_
  rintro e w1 ⟨rfl, hb1⟩
  have hrow := hrow.below hb1
  have hs := Crc.more_lt 0 l
  change Crc.sum l < _ at hs
  generalize Crc.sum l = s at *
  go_wp2_with (first | (at_builtin; refine wpList_append_bytes rfl (.tmp 6) (.tmp 7) rfl w1.heap.size (.slice (some ⟨w1.heap.size, 0, none⟩) 0 0) 0 [] rfl (owns_made w1 _ (Nat.le_refl _)) a n cap l rfl Hn.out Hnil.out (hrow.below (below_alloc _ _)) l rfl (by omega) (by simp) ?_; intro a2 n2 c2 w2 hown2 Hn2 hle2 _ _ hb2; have hb2 := (below_alloc w1 _).trans hb2) | (at_builtin; refine wpList_append_bytes rfl (.tmp 8) (.tmp 20) rfl w1.heap.size (.slice a2 n2 c2) n2 l rfl (hown2.alloc _) (some ⟨w2.heap.size, 0, none⟩) 4 4 (Crc.le4 s) rfl rfl (by simp) (row_list _ _ _ _ _ (le4_cells s hs)) (l ++ Crc.le4 s) rfl (by omega) (by have := hb2.size; simp; omega) ?_; intro a3 n3 c3 w3 hown3 Hn3 _ hrow3 _ hb3; have hb3 := (hb2.alloc hb2.size _).trans hb3))
  refine (sum_any a3 n3 c3 (l ++ Crc.le4 s) _ (app_lt hl (le4_lt s)) (by simp [Crc.le4]; omega) Hn3.out hrow3).mono ?_
  rintro e w4 ⟨rfl, hb4⟩
  rw [Hends.out]
  have hb5 := hb3.trans (hb4.mono hb3.size)
  go_wp2_with fail
  go_ret
  exact ⟨rfl, hb1.trans (hb5.mono hb1.size)⟩
end Go.Proofs.Ytppboldeocjbhaa
