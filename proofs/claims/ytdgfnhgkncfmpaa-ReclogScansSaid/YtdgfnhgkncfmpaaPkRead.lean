/-
  pack's READER, WALKED.
-/
import Derived.Test.YtdgfnhgkncfmpaaPkPut
import Derived.OneCell
namespace Go.Proofs.Ytdgfnhgkncfmpaa.Pk
open Go.RowKit

/-- a slice's value whose cells lie in block g -/
def RowG (w : World) (g : Nat) (v : Value) (l : List Nat) : Prop :=
  (v = .slice none 0 0 ∧ l = []) ∨
  ∃ off c, v = .slice (some ⟨g, off, none⟩) l.length c ∧ l.length ≤ c ∧ ∀ i, i < l.length → w.cell? ⟨g, off + i, none⟩ = some (.int .u8 ((l.getD i 0 : Nat) : Int))

/-- a reader at block p, its bytes in block g -/
structure Rd (w : World) (p g : Nat) (l : List Nat) (bad : Bool) : Prop where
  ne : g ≠ p
  lt : g < w.heap.size
  cells : ∃ v, w.heap[p]? = some (.cells #[v, .bool bad] 132 (0, 0)) ∧ RowG w g v l

/-- nothing that was there has turned but block p -/
structure Only (p : Nat) (w w' : World) : Prop where
  os : w'.os = w.os
  tape : w'.tape = w.tape
  output : w'.output = w.output
  size : w.heap.size ≤ w'.heap.size
  block : ∀ k, k < w.heap.size → k ≠ p → w'.heap[k]? = w.heap[k]?

theorem Only.below {p B : Nat} {w w' : World} (h : Only p w w') (hB : B ≤ p) (hs : B ≤ w.heap.size) : Below B w w' :=
  ⟨h.os, h.tape, h.output, h.size, fun k hk => h.block k (by omega) (by omega)⟩

theorem Only.refl (p : Nat) (w : World) : Only p w w := ⟨rfl, rfl, rfl, Nat.le_refl _, fun _ _ _ => rfl⟩

theorem Only.trans {p : Nat} {a b c : World} (h : Only p a b) (k : Only p b c) : Only p a c :=
  ⟨k.os.trans h.os, k.tape.trans h.tape, k.output.trans h.output, Nat.le_trans h.size k.size, fun i hi hne => (k.block i (Nat.lt_of_lt_of_le hi h.size) hne).trans (h.block i hi hne)⟩

theorem cell_two {w : World} {p : Nat} {u v : Value} {t : TypeId} (h : w.heap[p]? = some (.cells #[u, v] t (0, 0))) :
    w.cell? ⟨p, 0, none⟩ = some u ∧ w.cell? ⟨p, 1, none⟩ = some v ∧ w.frozen? ⟨p, 0, none⟩ = false ∧ w.frozen? ⟨p, 1, none⟩ = false := by
  simp [World.cell?, World.frozen?, h]

theorem set_block {w : World} {p j : Nat} {C : Array Value} {u : Value} {t : TypeId} (h : w.heap[p]? = some (.cells C t (0, 0))) :
    (w.setCell ⟨p, j, none⟩ u).heap[p]? = some (.cells (C.setIfInBounds j u) t (0, 0)) := by
  have hlt := lt_of_block h
  have h' : w.heap[p] = .cells C t (0, 0) := by simpa [Array.getElem?_eq_getElem hlt] using h
  show (w.heap.modify p _)[p]? = _
  rw [Array.getElem?_eq_getElem (by simpa using hlt), Array.getElem_modify_self, h']
  rfl

theorem Only.setCell {p : Nat} {a w : World} (h : Only p a w) (j : Nat) (u : Value) : Only p a (w.setCell ⟨p, j, none⟩ u) :=
  h.trans ⟨rfl, rfl, rfl, by simp [World.setCell], fun k _ hne => Below.heap_setCell _ _ _ _ hne⟩

theorem Only.cell {p : Nat} {w w' : World} (h : Only p w w') {q : Addr} (h1 : q.block ≠ p) (h2 : q.block < w.heap.size) : w'.cell? q = w.cell? q := by
  unfold World.cell?
  rw [h.block _ h2 h1]

theorem RowG.only {p g : Nat} {w w' : World} {v : Value} {l : List Nat} (h : RowG w g v l) (ho : Only p w w') (h1 : g ≠ p) (h2 : g < w.heap.size) : RowG w' g v l := by
  rcases h with h | ⟨off, c, e, hc, hcell⟩
  · exact .inl h
  · exact .inr ⟨off, c, e, hc, fun i hi => by rw [ho.cell (q := ⟨g, off + i, none⟩) h1 h2]; exact hcell i hi⟩

theorem RowG.take {w : World} {g off c : Nat} {l : List Nat} (hcell : ∀ i, i < l.length → w.cell? ⟨g, off + i, none⟩ = some (.int .u8 ((l.getD i 0 : Nat) : Int))) (k : Nat) (hk : k ≤ l.length) (hc : l.length ≤ c) :
    RowG w g (.slice (some ⟨g, off, none⟩) k c) (l.take k) := by
  refine .inr ⟨off, c, by rw [List.length_take, Nat.min_eq_left hk], by rw [List.length_take]; omega, fun i hi => ?_⟩
  have hi2 : i < k ∧ i < l.length := by simp at hi; omega
  rw [hcell i hi2.2]
  simp [List.getD, hi2.1]

theorem new_any (a : Option Addr) (n c : Nat) (l : List Nat) (w : World) (hn : Hid (n = l.length)) (hrow : Row w a l) (hlen : n ≤ 1000000) :
    Calls Try.prog 61 #[.slice a n c] w fun e w' => ∃ p, w.heap.size < p ∧ e = .returned (.pointer (some ⟨p, 0, none⟩)) ∧ Rd w' p w.heap.size l false ∧ Below w.heap.size w w' := by
  go_enter Try.func61, Try.ntmps61
  go_wp2_with fail
  refine (withRoom_int a n c l _ 0 w rfl hn hrow hlen (by omega)).mono ?_
  rintro e w1 ⟨rfl, hown, hb⟩
  go_wp2_with fail
  go_ret
  have hlt := (hown.lt w.heap.size rfl).2
  refine ⟨w1.heap.size, hlt, rfl, ⟨by omega, by simp; omega, _, heap_alloc_new w1 _, .inr ⟨0, n, by rw [hn.out], by rw [hn.out]; exact Nat.le_refl _, fun i hi => ?_⟩⟩, hb.alloc hb.size _⟩
  have h2 := hown.cellAt i (by rw [hn.out]; omega)
  rw [Nat.zero_add]
  refine cell_keep (h2.trans ?_) _
  simp [bytesV, hi]

theorem next_nil (m : Int) (w : World) : Calls Try.prog 105 #[.pointer none, .int .i64 m] w fun e w' => e = .returned (.slice none 0 0) ∧ w = w' := by
  go_enter Try.func105, Try.ntmps105
  go_wp2_with fail
  go_ret
  exact ⟨rfl, rfl⟩

theorem next_end {w : World} {p g : Nat} {v : Value} {bad : Bool} (hne : g ≠ p) (hlt : g < w.heap.size) (hp : w.heap[p]? = some (.cells #[v, .bool bad] 132 (0, 0))) :
    Rd ((w.setCell ⟨p, 0, none⟩ (.slice none 0 0)).setCell ⟨p, 1, none⟩ (.bool true)) p g [] true ∧ Only p w ((w.setCell ⟨p, 0, none⟩ (.slice none 0 0)).setCell ⟨p, 1, none⟩ (.bool true)) :=
  ⟨⟨hne, by simp [World.setCell]; exact hlt, _, set_block (set_block hp), .inl ⟨rfl, rfl⟩⟩, ((Only.refl p w).setCell _ _).setCell _ _⟩

theorem next_short (p g : Nat) (l : List Nat) (bad : Bool) (m : Nat) (w : World) (h : Rd w p g l bad) (hm : l.length < m) :
    Calls Try.prog 105 #[.pointer (some ⟨p, 0, none⟩), .int .i64 (m : Int)] w fun e w' => e = .returned (.slice none 0 0) ∧ Rd w' p g [] true ∧ Only p w w' := by
  obtain ⟨hne, hlt, v, hp, hv⟩ := h
  obtain ⟨c0, c1, f0, f1⟩ := cell_two hp
  have HP := Lib.hid hp
  clear hp
  rcases hv with ⟨rfl, rfl⟩ | ⟨off, c, rfl, hc, hcell⟩
  · have hm' : (0 : Int) < (m : Int) := by simpa using hm
    go_enter Try.func105, Try.ntmps105
    go_wp2_with fail
    go_ret
    exact ⟨rfl, next_end hne hlt HP.out⟩
  · have hm' : (l.length : Int) < (m : Int) := by omega
    clear hcell
    go_enter Try.func105, Try.ntmps105
    go_wp2_with fail
    go_ret
    exact ⟨rfl, next_end hne hlt HP.out⟩

theorem next_fin {w : World} {p g off off' c c' m n' : Nat} {l : List Nat} {v : Value} {bad : Bool} (hne : g ≠ p) (hlt : g < w.heap.size) (hp : w.heap[p]? = some (.cells #[v, .bool bad] 132 (0, 0)))
    (hcell : ∀ i, i < l.length → w.cell? ⟨g, off + i, none⟩ = some (.int .u8 ((l.getD i 0 : Nat) : Int))) (hm : m ≤ l.length) (hc : l.length ≤ c) (hoff : l.length - m = 0 ∨ off' = off + m) (hc' : l.length - m ≤ c') (hn' : n' = l.length - m) :
    RowG (w.setCell ⟨p, 0, none⟩ (.slice (some ⟨g, off', none⟩) n' c')) g (.slice (some ⟨g, off, none⟩) m c) (l.take m) ∧
      Rd (w.setCell ⟨p, 0, none⟩ (.slice (some ⟨g, off', none⟩) n' c')) p g (l.drop m) bad ∧ Only p w (w.setCell ⟨p, 0, none⟩ (.slice (some ⟨g, off', none⟩) n' c')) := by
  subst hn'
  have ho := (Only.refl p w).setCell 0 (.slice (some ⟨g, off', none⟩) (l.length - m) c')
  refine ⟨(RowG.take hcell m hm hc).only ho hne hlt, ⟨hne, by simp [World.setCell]; exact hlt, _, set_block hp, ?_⟩, ho⟩
  refine .inr ⟨off', c', by simp, by rw [List.length_drop]; exact hc', fun i hi => ?_⟩
  have hi2 : i < l.length - m := by simpa using hi
  obtain rfl : off' = off + m := by omega
  rw [ho.cell (q := ⟨g, off + m + i, none⟩) hne hlt, Nat.add_assoc, hcell (m + i) (by omega)]
  simp [List.getD]

theorem next_ok (p g : Nat) (l : List Nat) (bad : Bool) (m : Nat) (w : World) (h : Rd w p g l bad) (hm : m ≤ l.length) (hl : l.length ≤ 1000000) :
    Calls Try.prog 105 #[.pointer (some ⟨p, 0, none⟩), .int .i64 (m : Int)] w fun e w' => ∃ v, e = .returned v ∧ RowG w' g v (l.take m) ∧ Rd w' p g (l.drop m) bad ∧ Only p w w' := by
  obtain ⟨hne, hlt, v, hp, hv⟩ := h
  obtain ⟨c0, c1, f0, f1⟩ := cell_two hp
  have HP := Lib.hid hp
  clear hp
  rcases hv with ⟨rfl, rfl⟩ | ⟨off, c, rfl, hc, hcell⟩
  · obtain rfl : m = 0 := by simpa using hm
    go_enter Try.func105, Try.ntmps105
    go_wp2_with fail
    go_ret
    exact ⟨_, rfl, .inl ⟨rfl, by simp⟩, ⟨hne, by simp [World.setCell]; exact hlt, _, set_block HP.out, .inl ⟨rfl, by simp⟩⟩, (Only.refl p w).setCell _ _⟩
  · have HC := Lib.hid hcell
    clear hcell
    have hm' : ¬ (l.length : Int) < (m : Int) := by omega
    by_cases hmc : m = c
    · subst hmc
      go_enter Try.func105, Try.ntmps105
      go_wp2_with fail
      go_ret
      exact ⟨_, rfl, next_fin hne hlt HP.out HC.out hm hc (by omega) (by omega) (by omega)⟩
    · have hmc' : m < c := by omega
      clear hmc
      go_enter Try.func105, Try.ntmps105
      go_wp2_with fail
      go_ret
      exact ⟨_, rfl, next_fin hne hlt HP.out HC.out hm hc (by omega) (by omega) (by omega)⟩

/-- the number of bytes, the lowest first -/
def num : List Nat → Nat
  | [] => 0
  | x :: l => x + 256 * num l

theorem num_lt : ∀ (l : List Nat), (∀ n ∈ l, n < 256) → num l < 2 ^ (8 * l.length)
  | [], _ => by simp [num]
  | x :: l, h => by
    have h1 := num_lt l (fun n hn => h n (by simp [hn]))
    have h2 := h x (by simp)
    simp only [num, List.length_cons]
    rw [show 8 * (l.length + 1) = 8 * l.length + 8 from by omega, Nat.pow_add]
    omega

theorem num_snoc (l : List Nat) (x : Nat) : num (l ++ [x]) = num l + x * 2 ^ (8 * l.length) := by
  induction l with
  | nil => simp [num]
  | cons y l ih =>
    simp only [List.cons_append, num, ih, List.length_cons]
    rw [show 8 * (l.length + 1) = 8 * l.length + 8 from by omega, Nat.pow_add, Nat.mul_add]
    rw [← Nat.mul_assoc x, Nat.mul_comm 256 (x * _)]
    omega

theorem or_snoc (l : List Nat) (x : Nat) (hl : ∀ n ∈ l, n < 256) : num l ||| x * 2 ^ (8 * l.length) = num (l ++ [x]) := by
  rw [num_snoc, Nat.or_comm, nat_join (8 * l.length) _ _ (Nat.mul_mod_left _ _) (num_lt l hl), Nat.add_comm]

theorem or_room {n x k W : Nat} (hn : n < 2 ^ (8 * k)) (hx : x < 256) (hk : 8 * k + 8 ≤ W) : n < 2 ^ W ∧ x * 2 ^ (8 * k) < 2 ^ W := by
  have h1 : 2 ^ (8 * k + 8) ≤ 2 ^ W := Nat.pow_le_pow_right (by omega) hk
  rw [Nat.pow_add] at h1
  have h2 : x * 2 ^ (8 * k) < 256 * 2 ^ (8 * k) := (Nat.mul_lt_mul_right (Nat.two_pow_pos _)).2 hx
  omega

theorem or_walk_u32 {n x k : Nat} (hn : n < 2 ^ (8 * k)) (hx : x < 256) (hk : k < 4) : bits BinOp.or IntKind.u32 (n : Int) ((x : Int) * 2 ^ (8 * k) % 4294967296) = ((n ||| x * 2 ^ (8 * k) : Nat) : Int) := by
  obtain ⟨h1, h2⟩ := or_room hn hx (show 8 * k + 8 ≤ 32 by omega)
  have e : (x : Int) * 2 ^ (8 * k) % 4294967296 = ((x * 2 ^ (8 * k) : Nat) : Int) := by
    have : ((x * 2 ^ (8 * k) : Nat) : Int) = (x : Int) * 2 ^ (8 * k) := by push_cast; rfl
    rw [← this]
    generalize x * 2 ^ (8 * k) = q at *
    omega
  rw [e, u32_or_nat n _ (by omega) (by omega)]

theorem take_succ {t : List Nat} {k : Nat} (h : k < t.length) : t.take (k + 1) = t.take k ++ [t.getD k 0] := take_snoc h

theorem take32_short (p g : Nat) (l : List Nat) (bad : Bool) (w : World) (h : Rd w p g l bad) (hm : l.length < 4) :
    Calls Try.prog 95 #[.pointer (some ⟨p, 0, none⟩)] w fun e w' => e = .returned (.int .u32 0) ∧ Rd w' p g [] true ∧ Only p w w' := by
  go_enter Try.func95, Try.ntmps95
  go_wp2_with fail
  refine (width32 _).mono ?_
  rintro e w1 ⟨rfl, rfl⟩
  go_wp2_with fail
  refine (next_short p g l bad 4 w h hm).mono ?_
  rintro e w1 ⟨rfl, hr, ho⟩
  go_wp2_with fail
  refine wp_loop_rounds 1 ?_
  rw [rounds_succ]
  go_wp2_with fail
  go_ret
  exact ⟨rfl, hr, ho⟩

theorem take32_nil (w : World) :
    Calls Try.prog 95 #[.pointer none] w fun e w' => e = .returned (.int .u32 0) ∧ w = w' := by
  go_enter Try.func95, Try.ntmps95
  go_wp2_with fail
  refine (width32 _).mono ?_
  rintro e w1 ⟨rfl, rfl⟩
  go_wp2_with fail
  refine (next_nil 4 w).mono ?_
  rintro e w1 ⟨rfl, rfl⟩
  go_wp2_with fail
  refine wp_loop_rounds 1 ?_
  rw [rounds_succ]
  go_wp2_with fail
  go_ret
  exact ⟨rfl, rfl⟩

theorem take32_ok (p g : Nat) (l : List Nat) (bad : Bool) (w : World) (h : Rd w p g l bad) (hm : 4 ≤ l.length) (hl : l.length ≤ 1000000) (hb : ∀ n ∈ l, n < 256) :
    Calls Try.prog 95 #[.pointer (some ⟨p, 0, none⟩)] w fun e w' => e = .returned (.int .u32 (num (l.take 4) : Int)) ∧ Rd w' p g (l.drop 4) bad ∧ Only p w w' := by
  go_enter Try.func95, Try.ntmps95
  go_wp2_with fail
  refine (width32 _).mono ?_
  rintro e w1 ⟨rfl, rfl⟩
  go_wp2_with fail
  refine (next_ok p g l bad 4 w h hm hl).mono ?_
  rintro e w1 ⟨v, rfl, hv, hr, ho⟩
  have hlen : (l.take 4).length = 4 := by simp; omega
  have hbt := take_lt hb 4
  generalize ht : l.take 4 = t at *
  have HT := Lib.hid ht
  clear ht
  rcases hv with ⟨rfl, rfl⟩ | ⟨off, c, rfl, hc, hcell⟩
  · simp at hlen
  · have HC := Lib.hid hcell
    clear hcell
    rw [hlen] at hc
    rw [hlen]
    have HL := Lib.hid hlen
    clear hlen
    go_wp2_with fail
    go_loop [3, 11] (fun v i => ∃ k : Nat, k ≤ 4 ∧ i = .int .i64 k ∧ v = .int .u32 ((num (t.take k) : Nat) : Int)) (fun _ i => 4 - (intOf i).toNat)
    case atStart => exact ⟨0, by omega, rfl, rfl⟩
    case round =>
      obtain ⟨k, hk, rfl, rfl⟩ := hrel
      by_cases hlt : k < 4
      · have hkl : k < t.length := by rw [HL.out]; exact hlt
        have hcell := HC.out k hkl
        have hx := getD_lt hbt k
        have hor := or_snoc (t.take k) (t.getD k 0) (take_lt hbt k)
        rw [← take_succ hkl, List.length_take, Nat.min_eq_left (by omega)] at hor
        have hn := num_lt (t.take k) (take_lt hbt k)
        rw [List.length_take, Nat.min_eq_left (by omega)] at hn
        generalize num (t.take k) = n at *
        generalize t.getD k 0 = x at *
        have HO := Lib.hid hor
        have HN := Lib.hid hn
        clear hor hn
        go_wp2_with fail
        go_round
        case rel => exact ⟨k + 1, by omega, by go_num, val_eq (by rw [or_walk_u32 HN.out hx (by omega), HO.out])⟩
        case measure => simp [intOf]; omega
      · obtain rfl : k = 4 := by omega
        rw [List.take_of_length_le (by rw [HL.out]; exact Nat.le_refl _)]
        go_wp2_with fail
        go_ret
        exact ⟨ret_eq (by rw [HT.out]), hr, ho⟩

end Go.Proofs.Ytdgfnhgkncfmpaa.Pk
