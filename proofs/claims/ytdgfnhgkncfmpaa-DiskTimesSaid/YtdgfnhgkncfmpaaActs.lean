/-
  ROWS OF ACTS THAT CAME IN; light.
-/
import Derived.Test.YtdgfnhgkncfmpaaLawDeed
namespace Go.Proofs.Ytdgfnhgkncfmpaa
open Go.RowKit Go.Maps

structure Act1 where
  what : Int
  num : Int
  s : List UInt8
  t : List UInt8
  bs : List UInt8
  ts : List Int

structure ActAt (w : World) (b o : Nat) (x : Act1) : Prop where
  c0 : w.cell? ⟨b, o, none⟩ = some (.int .i64 x.what)
  c1 : w.cell? ⟨b, o + 1, none⟩ = some (.int .i64 x.num)
  c2 : w.cell? ⟨b, o + 2, none⟩ = some (.string (mk x.s))
  c3 : w.cell? ⟨b, o + 3, none⟩ = some (.string (mk x.t))
  c4 : ∃ a c, w.cell? ⟨b, o + 4, none⟩ = some (.slice a x.bs.length c) ∧ BRow w (.slice a x.bs.length c) x.bs
  c5 : ∃ a c, w.cell? ⟨b, o + 5, none⟩ = some (.slice a x.ts.length c) ∧ TRow w (.slice a x.ts.length c) x.ts
  r0 : -9223372036854775808 ≤ x.what ∧ x.what ≤ 9223372036854775807
  r1 : -9223372036854775808 ≤ x.num ∧ x.num ≤ 9223372036854775807

def Acts (w : World) (v : Value) (xs : List Act1) : Prop :=
  ∃ a cap, v = .slice a xs.length cap ∧ ∀ j x, xs[j]? = some x → ∃ b o, a = some ⟨b, o, none⟩ ∧ b < w.heap.size ∧ ActAt w b (o + j * 6) x

def Light (x : Act1) : Prop := x.s.length ≤ 120 ∧ x.t.length ≤ 120 ∧ x.bs.length ≤ 17000 ∧ x.ts.length ≤ 20

def LightQ (xs : List Act1) (w : World) (e : Ending) (w' : World) : Prop := ∃ r : Bool, e = .returned (.bool r) ∧ w = w' ∧ (r = true → xs.length ≤ 80 ∧ ∀ x ∈ xs, Light x)
theorem lightQ_no (xs : List Act1) (w : World) : LightQ xs w (.returned (.bool false)) w := ⟨false, rfl, rfl, fun h => by cases h⟩
theorem lightQ_yes {xs : List Act1} (w : World) (h1 : xs.length ≤ 80) (h2 : ∀ x ∈ xs, Light x) : LightQ xs w (.returned (.bool true)) w := ⟨true, rfl, rfl, fun _ => ⟨h1, h2⟩⟩

set_option maxRecDepth 100000 in
set_option maxHeartbeats 4000000 in
theorem light_c {w : World} {v : Value} {xs : List Act1} (h : Acts w v xs) : Calls Try.prog 10 #[v] w (LightQ xs w) := by
  obtain ⟨a, cap, rfl, hx⟩ := h
  have HX := Lib.hid hx
  clear hx
  obtain ⟨n, hn⟩ : ∃ n, xs.length = n := ⟨_, rfl⟩
  have HN := Lib.hid hn
  rw [hn]
  clear hn
  by_cases h80 : n ≤ 80
  · go_enter Try.func10, Try.ntmps10
    go_wp2
    go_loopw [3] (fun v wr => ∃ i : Nat, i ≤ n ∧ v = .int .i64 i ∧ w = wr ∧ Hid (∀ j x, j < i → xs[j]? = some x → Light x)) (fun v _ => n - (intOf v).toNat)
    case atStart => exact ⟨0, Nat.zero_le _, rfl, rfl, Lib.hid fun j x hj => by omega⟩
    case round =>
      obtain ⟨i, hi, rfl, rfl, hL⟩ := hrel
      by_cases hlt : i < n
      · obtain ⟨x, hxi⟩ : ∃ x, xs[i]? = some x := ⟨xs[i]'(by rw [HN.out]; exact hlt), List.getElem?_eq_getElem _⟩
        obtain ⟨b, o, rfl, hb, hA⟩ := HX.out i x hxi
        obtain ⟨k0, k1, k2, k3, ⟨a4, n4, k4, _⟩, ⟨a5, n5, k5, _⟩, _, _⟩ := hA
        have HXI := Lib.hid hxi
        clear hxi
        have s1 : (mk x.s).size = x.s.length := mk_size _
        have s2 : (mk x.t).size = x.t.length := mk_size _
        obtain ⟨l1, e1⟩ : ∃ l, x.s.length = l := ⟨_, rfl⟩
        obtain ⟨l2, e2⟩ : ∃ l, x.t.length = l := ⟨_, rfl⟩
        obtain ⟨l3, e3⟩ : ∃ l, x.bs.length = l := ⟨_, rfl⟩
        obtain ⟨l4, e4⟩ : ∃ l, x.ts.length = l := ⟨_, rfl⟩
        rw [e1] at s1
        rw [e2] at s2
        rw [e3] at k4
        rw [e4] at k5
        have E1 := Lib.hid e1
        have E2 := Lib.hid e2
        have E3 := Lib.hid e3
        have E4 := Lib.hid e4
        clear e1 e2 e3 e4
        by_cases h1 : l1 ≤ 120
        · by_cases h2 : l2 ≤ 120
          · by_cases h3 : l3 ≤ 17000
            · by_cases h4 : l4 ≤ 20
              · go_wp2
                go_roundw
                case rel => exact ⟨i + 1, by omega, by go_num, trivial, Lib.hid fun j y hj hy => by
                  by_cases e : j = i
                  · subst e
                    rw [HXI.out] at hy
                    cases hy
                    exact ⟨by rw [E1.out]; exact h1, by rw [E2.out]; exact h2, by rw [E3.out]; exact h3, by rw [E4.out]; exact h4⟩
                  · exact hL.out j y (by omega) hy⟩
                case measure => simp [intOf]; omega
              · go_wp2
                go_ret
                exact lightQ_no _ _
            · go_wp2
              go_ret
              exact lightQ_no _ _
          · go_wp2
            go_ret
            exact lightQ_no _ _
        · go_wp2
          go_ret
          exact lightQ_no _ _
      · obtain rfl : i = n := by omega
        go_wp2
        go_ret
        exact lightQ_yes _ (by rw [HN.out]; exact h80) fun x hx => by
          obtain ⟨j, hj⟩ := List.getElem?_of_mem hx
          exact hL.out j x (by have := (List.getElem?_eq_some_iff.1 hj).1; rw [HN.out] at this; exact this) hj
  · go_enter Try.func10, Try.ntmps10
    go_wp2
    go_ret
    exact lightQ_no _ _
end Go.Proofs.Ytdgfnhgkncfmpaa
