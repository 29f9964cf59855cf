/-
  RECORDS IN FRAMES, ONE BEHIND THE OTHER: what bytes are read as, what a cut leaves, what a turned byte leaves. No program, no world.
-/
import Derived.Test.YtfmelhcpccghdaaGreatCrc
namespace Go.Proofs.YtfmelhcpccghdaaGreat.Rl
open Go.Proofs.YtfmelhcpccghdaaGreat.Cr

def nb (l : List UInt8) : List Nat := l.map UInt8.toNat
theorem nb_lt (l : List UInt8) : ∀ n ∈ nb l, n < 256 := by
  intro n hn
  obtain ⟨b, _, rfl⟩ := List.mem_map.1 hn
  exact UInt8.toNat_lt b
theorem nb_length (l : List UInt8) : (nb l).length = l.length := by simp [nb]
theorem nb_append (a b : List UInt8) : nb (a ++ b) = nb a ++ nb b := by simp [nb]

def val : List UInt8 → Nat
  | [] => 0
  | b :: r => b.toNat + 256 * val r
def le4 (n : Nat) : List UInt8 := [UInt8.ofNat n, UInt8.ofNat (n / 256), UInt8.ofNat (n / 65536), UInt8.ofNat (n / 16777216)]
theorem le4_length (n : Nat) : (le4 n).length = 4 := rfl
theorem val_le4 {n : Nat} (h : n < 4294967296) : val (le4 n) = n := by
  simp [val, le4]
  omega
theorem four {l : List UInt8} (h : l.length = 4) : ∃ a b c d, l = [a, b, c, d] := by
  match l, h with
  | [a, b, c, d], _ => exact ⟨a, b, c, d, rfl⟩
theorem val_inj4 {l m : List UInt8} (h : l.length = 4) (k : m.length = 4) (e : val l = val m) : l = m := by
  obtain ⟨a, b, c, d, rfl⟩ := four h
  obtain ⟨a', b', c', d', rfl⟩ := four k
  simp only [val] at e
  have h1 := UInt8.toNat_lt a
  have h2 := UInt8.toNat_lt b
  have h3 := UInt8.toNat_lt c
  have h4 := UInt8.toNat_lt d
  have k1 := UInt8.toNat_lt a'
  have k2 := UInt8.toNat_lt b'
  have k3 := UInt8.toNat_lt c'
  have k4 := UInt8.toNat_lt d'
  have e1 : a = a' := UInt8.toNat_inj.1 (by omega)
  have e2 : b = b' := UInt8.toNat_inj.1 (by omega)
  have e3 : c = c' := UInt8.toNat_inj.1 (by omega)
  have e4 : d = d' := UInt8.toNat_inj.1 (by omega)
  rw [e1, e2, e3, e4]
theorem val_lt4 {l : List UInt8} (h : l.length = 4) : val l < 4294967296 := by
  obtain ⟨a, b, c, d, rfl⟩ := four h
  have h1 := UInt8.toNat_lt a
  have h2 := UInt8.toNat_lt b
  have h3 := UInt8.toNat_lt c
  have h4 := UInt8.toNat_lt d
  simp only [val]
  omega
theorem le4_val {l : List UInt8} (h : l.length = 4) : le4 (val l) = l := val_inj4 rfl h (val_le4 (val_lt4 h))

def csum (l : List UInt8) : Nat := Crc.sum (nb l)
theorem csum_lt (l : List UInt8) : csum l < 4294967296 := Crc.more_lt _ _

def head (k : UInt8) : List UInt8 := [66, 76, 87, 49, k, 0, 0, 0]
theorem head_length (k : UInt8) : (head k).length = 8 := rfl
def frame (r : List UInt8) : List UInt8 := le4 r.length ++ (le4 (csum r) ++ r)
theorem frame_length (r : List UInt8) : (frame r).length = 8 + r.length := by simp [frame, le4]; omega

/-- the record of the frame that b begins with -/
def first (b : List UInt8) : Option (List UInt8) :=
  if 8 ≤ b.length ∧ val (b.take 4) ≤ 4096 ∧ val (b.take 4) ≤ b.length - 8 ∧ csum ((b.drop 8).take (val (b.take 4))) = val ((b.drop 4).take 4) then some ((b.drop 8).take (val (b.take 4))) else none

theorem first_some {b r : List UInt8} (h : first b = some r) : 8 ≤ b.length ∧ r.length = val (b.take 4) ∧ r.length ≤ 4096 ∧ 8 + r.length ≤ b.length ∧ r = (b.drop 8).take r.length ∧ csum r = val ((b.drop 4).take 4) := by
  unfold first at h
  split at h
  · rename_i hc
    obtain ⟨h1, h2, h3, h4⟩ := hc
    cases h
    have e : ((b.drop 8).take (val (b.take 4))).length = val (b.take 4) := by simp; omega
    exact ⟨h1, e, by omega, by omega, by rw [e], h4⟩
  · cases h
theorem first_frame {b r : List UInt8} (h : first b = some r) : b = frame r ++ b.drop (8 + r.length) := by
  obtain ⟨h1, h2, h3, h4, h5, h6⟩ := first_some h
  have t4 : (b.take 4).length = 4 := by simp; omega
  have d4 : ((b.drop 4).take 4).length = 4 := by simp; omega
  have e1 : le4 r.length = b.take 4 := by rw [h2]; exact le4_val t4
  have e2 : le4 (csum r) = (b.drop 4).take 4 := by rw [h6]; exact le4_val d4
  unfold frame
  rw [e1, e2]
  conv => lhs; rw [← List.take_append_drop 4 b, ← List.take_append_drop 4 (b.drop 4), List.drop_drop, ← List.take_append_drop r.length (b.drop (4 + 4)), List.drop_drop]
  rw [show (4 + 4 : Nat) = 8 from rfl, ← h5]
  simp only [List.append_assoc]
theorem first_of {r : List UInt8} (h : r.length ≤ 4096) (t : List UInt8) : first (frame r ++ t) = some r := by
  have e4 : (frame r ++ t).take 4 = le4 r.length := by
    unfold frame
    rw [List.append_assoc, List.take_append_of_le_length (by simp [le4]), List.take_of_length_le (by simp [le4])]
  have v4 : val ((frame r ++ t).take 4) = r.length := by rw [e4]; exact val_le4 (by omega)
  have e5 : (frame r ++ t).drop 4 = le4 (csum r) ++ (r ++ t) := by
    unfold frame
    rw [List.append_assoc, List.append_assoc, List.drop_left' (le4_length _)]
  have e8 : (frame r ++ t).drop 8 = r ++ t := by
    rw [show (8 : Nat) = 4 + 4 from rfl, ← List.drop_drop, e5, List.drop_left' (le4_length _)]
  have v5 : val (((frame r ++ t).drop 4).take 4) = csum r := by
    rw [e5, List.take_left' (le4_length _)]
    exact val_le4 (csum_lt r)
  have r8 : ((frame r ++ t).drop 8).take r.length = r := by rw [e8, List.take_left' rfl]
  have hl : (frame r ++ t).length = 8 + r.length + t.length := by rw [List.length_append, frame_length]
  unfold first
  rw [v4, v5, r8, if_pos ⟨by omega, h, by omega, rfl⟩]

/-- the records of bytes, up to the first frame that is none -/
def recs (b : List UInt8) : List (List UInt8) :=
  match h : first b with
  | none => []
  | some r => r :: recs (b.drop (8 + r.length))
termination_by b.length
decreasing_by
  have := first_some h
  simp
  omega

theorem recs_none {b : List UInt8} (h : first b = none) : recs b = [] := by
  rw [recs]
  split
  · rfl
  · rename_i r h2
    rw [h] at h2
    cases h2
theorem recs_some {b r : List UInt8} (h : first b = some r) : recs b = r :: recs (b.drop (8 + r.length)) := by
  rw [recs]
  split
  · rename_i h2
    rw [h] at h2
    cases h2
  · rename_i r2 h2
    rw [h] at h2
    cases h2
    rfl

def all (rs : List (List UInt8)) : List UInt8 := (rs.map frame).flatten
theorem all_nil : all [] = [] := rfl
theorem all_cons (r : List UInt8) (rs : List (List UInt8)) : all (r :: rs) = frame r ++ all rs := rfl
theorem all_append (a b : List (List UInt8)) : all (a ++ b) = all a ++ all b := by simp [all]
theorem all_one (r : List UInt8) : all [r] = frame r := by simp [all]

def Shorts (rs : List (List UInt8)) : Prop := ∀ r ∈ rs, r.length ≤ 4096
theorem Shorts.tail {r : List UInt8} {rs : List (List UInt8)} (h : Shorts (r :: rs)) : Shorts rs := fun x hx => h x (by simp [hx])
theorem Shorts.take {rs : List (List UInt8)} (h : Shorts rs) (n : Nat) : Shorts (rs.take n) := fun x hx => h x (List.mem_of_mem_take hx)
theorem Shorts.append {a b : List (List UInt8)} (h : Shorts a) (k : Shorts b) : Shorts (a ++ b) := fun x hx => by
  rcases List.mem_append.1 hx with hx | hx
  · exact h x hx
  · exact k x hx

theorem recs_all : ∀ {rs : List (List UInt8)} (_ : Shorts rs) (t : List UInt8), recs (all rs ++ t) = rs ++ recs t
  | [], _, t => rfl
  | r :: rs, h, t => by
    rw [all_cons, List.append_assoc, recs_some (first_of (h r (by simp)) _), ← frame_length, List.drop_left' rfl, recs_all h.tail]
    rfl
theorem recs_whole {rs : List (List UInt8)} (h : Shorts rs) : recs (all rs) = rs := by
  have := recs_all h []
  have e : recs [] = [] := recs_none (by simp [first])
  rwa [e, List.append_nil, List.append_nil] at this

theorem recs_short : ∀ (n : Nat) (b : List UInt8), b.length ≤ n → Shorts (recs b)
  | 0, b, h => by
    rw [recs_none (by unfold first; rw [if_neg (by omega)])]
    intro r hr; cases hr
  | n + 1, b, h => by
    cases hf : first b with
    | none => rw [recs_none hf]; intro r hr; cases hr
    | some r =>
      rw [recs_some hf]
      have h2 := first_some hf
      intro x hx
      rcases List.mem_cons.1 hx with rfl | hx
      · exact h2.2.2.1
      · exact recs_short n (b.drop (8 + r.length)) (by simp; omega) x hx
theorem recs_shorts (b : List UInt8) : Shorts (recs b) := recs_short _ b (Nat.le_refl _)
theorem recs_rest : ∀ (n : Nat) (b : List UInt8), b.length ≤ n → ∃ t, b = all (recs b) ++ t ∧ first t = none
  | 0, b, h => by
    have hf : first b = none := by unfold first; rw [if_neg (by omega)]
    rw [recs_none hf]
    exact ⟨b, rfl, hf⟩
  | n + 1, b, h => by
    cases hf : first b with
    | none => rw [recs_none hf]; exact ⟨b, rfl, hf⟩
    | some r =>
      rw [recs_some hf]
      have h2 := first_some hf
      obtain ⟨t, h3, h4⟩ := recs_rest n (b.drop (8 + r.length)) (by simp; omega)
      refine ⟨t, ?_, h4⟩
      rw [all_cons, List.append_assoc, ← h3]
      exact first_frame hf
theorem recs_of (b : List UInt8) : ∃ t, b = all (recs b) ++ t ∧ first t = none := recs_rest _ b (Nat.le_refl _)

/-! ### a cut -/
/-- a beginning of a frame, and not all of it, is none -/
theorem first_cut {r t : List UInt8} (h : r.length ≤ 4096) {j : Nat} (hj : j < 8 + r.length) : first ((frame r ++ t).take j) = none := by
  unfold first
  refine if_neg ?_
  rintro ⟨h1, _, h3, _⟩
  have hl : ((frame r ++ t).take j).length ≤ j := by simp; omega
  have e4 : ((frame r ++ t).take j).take 4 = le4 r.length := by
    rw [List.take_take, Nat.min_eq_left (by omega)]
    unfold frame
    rw [List.append_assoc, List.take_append_of_le_length (by simp [le4]), List.take_of_length_le (by simp [le4])]
  rw [e4, val_le4 (by omega)] at h3
  omega

/-- what bytes that are cut have: the first records, all whose frames are whole -/
theorem recs_cut : ∀ {rs : List (List UInt8)} (_ : Shorts rs) (m : Nat), ∃ n, n ≤ rs.length ∧ recs ((all rs).take m) = rs.take n ∧ (all (rs.take n)).length ≤ m ∧ (∀ s, s ≤ rs.length → (all (rs.take s)).length ≤ m → s ≤ n)
  | [], _, m => ⟨0, Nat.le_refl _, by rw [all_nil, List.take_nil, recs_none (by simp [first])]; rfl, Nat.zero_le _, fun s hs _ => hs⟩
  | r :: rs, h, m => by
    by_cases hm : 8 + r.length ≤ m
    · obtain ⟨n, h1, h2, h3, h4⟩ := recs_cut h.tail (m - (8 + r.length))
      have e : (all (r :: rs)).take m = all [r] ++ (all rs).take (m - (8 + r.length)) := by
        rw [all_cons, all_one, List.take_append, frame_length, List.take_of_length_le (by rw [frame_length]; exact hm)]
      refine ⟨n + 1, by simp; omega, ?_, ?_, fun s hs hl => ?_⟩
      · rw [e, recs_all (rs := [r]) (fun x hx => h x (by simp at hx; simp [hx])), h2]
        rfl
      · rw [List.take_succ_cons, all_cons, List.length_append, frame_length]
        omega
      · cases s with
        | zero => exact Nat.zero_le _
        | succ s =>
          rw [List.take_succ_cons, all_cons, List.length_append, frame_length] at hl
          have := h4 s (by simpa using hs) (by omega)
          omega
    · refine ⟨0, Nat.zero_le _, ?_, Nat.zero_le _, fun s hs hl => ?_⟩
      · rw [all_cons, recs_none (first_cut (h r (by simp)) (by omega))]
        rfl
      · cases s with
        | zero => exact Nat.le_refl _
        | succ s =>
          rw [List.take_succ_cons, all_cons, List.length_append, frame_length] at hl
          omega

/-! ### a byte that is turned -/
theorem byte_inj {r x y : Nat} (hr : r < 4294967296) (hx : x < 256) (hy : y < 256) (h : Crc.byte r x = Crc.byte r y) : x = y :=
  Crc.xor_left_inj (Crc.iter_inj 8 (Crc.xor_lt32 hr (by omega)) (Crc.xor_lt32 hr (by omega)) h)
theorem byte_inj_left {r s x : Nat} (hr : r < 4294967296) (hs : s < 4294967296) (hx : x < 256) (h : Crc.byte r x = Crc.byte s x) : r = s := by
  have h2 := Crc.iter_inj 8 (Crc.xor_lt32 hr (by omega)) (Crc.xor_lt32 hs (by omega)) h
  rw [Nat.xor_comm r, Nat.xor_comm s] at h2
  exact Crc.xor_left_inj h2
theorem fold_inj_left : ∀ (l : List Nat) {r s : Nat}, r < 4294967296 → s < 4294967296 → (∀ n ∈ l, n < 256) → Crc.fold r l = Crc.fold s l → r = s
  | [], _, _, _, _, _, h => h
  | x :: l, _, _, hr, hs, hl, h => byte_inj_left hr hs (hl x (by simp)) (fold_inj_left l (Crc.byte_lt hr (hl x (by simp))) (Crc.byte_lt hs (hl x (by simp))) (fun n hn => hl n (by simp [hn])) h)
theorem csum_turn {a c : List UInt8} {x y : UInt8} (h : csum (a ++ x :: c) = csum (a ++ y :: c)) : x = y := by
  unfold csum Crc.sum Crc.more at h
  have l1 := Crc.fold_lt (nb (a ++ x :: c)) (Crc.inv_lt 0) (nb_lt _)
  have l2 := Crc.fold_lt (nb (a ++ y :: c)) (Crc.inv_lt 0) (nb_lt _)
  have h2 : Crc.fold (Crc.inv 0) (nb (a ++ x :: c)) = Crc.fold (Crc.inv 0) (nb (a ++ y :: c)) := by rw [← Crc.inv_inv l1, ← Crc.inv_inv l2, h]
  rw [nb_append, nb_append, Crc.fold_append, Crc.fold_append] at h2
  have la := Crc.fold_lt (nb a) (Crc.inv_lt 0) (nb_lt _)
  have hx := UInt8.toNat_lt x
  have hy := UInt8.toNat_lt y
  have h3 : Crc.byte (Crc.fold (Crc.inv 0) (nb a)) x.toNat = Crc.byte (Crc.fold (Crc.inv 0) (nb a)) y.toNat :=
    fold_inj_left (nb c) (Crc.byte_lt la hx) (Crc.byte_lt la hy) (nb_lt _) h2
  exact UInt8.toNat_inj.1 (byte_inj la hx hy h3)

/-- one byte of a frame's sum, or of its record, is another one: there is no frame -/
theorem first_turn {r t : List UInt8} (h : r.length ≤ 4096) {j : Nat} (h4 : 4 ≤ j) (hj : j < 8 + r.length) {y : UInt8} (hy : (frame r)[j]? ≠ some y) : first ((frame r).set j y ++ t) = none := by
  have hfl := frame_length r
  have e4 : ((frame r).set j y ++ t).take 4 = le4 r.length := by
    rw [List.take_append_of_le_length (by simp; omega), List.take_set_of_le (by omega)]
    unfold frame
    rw [List.take_left' (le4_length _)]
  have hd : ((frame r).set j y).drop 4 = (le4 (csum r) ++ r).set (j - 4) y := by
    rw [List.drop_set, if_neg (by omega)]
    unfold frame
    rw [List.drop_left' (le4_length _)]
  unfold first
  refine if_neg ?_
  rintro ⟨_, _, _, hs⟩
  rw [e4, val_le4 (by omega)] at hs
  have d4 : ((frame r).set j y ++ t).drop 4 = (le4 (csum r) ++ r).set (j - 4) y ++ t := by
    rw [List.drop_append_of_le_length (by simp; omega), hd]
  have hg : (frame r)[j]? = (le4 (csum r) ++ r)[j - 4]? := by
    unfold frame
    rw [List.getElem?_append_right (by rw [le4_length]; exact h4), le4_length]
  rw [hg] at hy
  have d8 : ((frame r).set j y ++ t).drop 8 = ((le4 (csum r) ++ r).set (j - 4) y ++ t).drop 4 := by
    rw [show (8 : Nat) = 4 + 4 from rfl, ← List.drop_drop, d4]
  rw [d8, d4] at hs
  by_cases h8 : j < 8
  · have es : (le4 (csum r) ++ r).set (j - 4) y = (le4 (csum r)).set (j - 4) y ++ r := by
      rw [List.set_append_left _ _ (by rw [le4_length]; omega)]
    rw [es, List.append_assoc, List.take_left' (by simp [le4_length]), List.drop_left' (by simp [le4_length]), List.take_left' rfl] at hs
    have e1 : (le4 (csum r)).set (j - 4) y = le4 (csum r) := by
      refine val_inj4 (by simp [le4_length]) (le4_length _) ?_
      rw [← hs, val_le4 (csum_lt r)]
    apply hy
    rw [List.getElem?_append_left (by rw [le4_length]; omega), ← e1]
    rw [List.getElem?_set_self (by rw [le4_length]; omega)]
  · have es : (le4 (csum r) ++ r).set (j - 4) y = le4 (csum r) ++ r.set (j - 8) y := by
      rw [List.set_append_right _ _ (by rw [le4_length]; omega), le4_length]
      congr 2
    rw [es, List.append_assoc, List.take_left' (le4_length _), List.drop_left' (le4_length _), List.take_left' (by simp), val_le4 (csum_lt r)] at hs
    have hjr : j - 8 < r.length := by omega
    have r1 : r = r.take (j - 8) ++ r[j - 8] :: r.drop (j - 8 + 1) := by rw [List.getElem_cons_drop, List.take_append_drop]
    have r2 : r.set (j - 8) y = r.take (j - 8) ++ y :: r.drop (j - 8 + 1) := List.set_eq_take_append_cons_drop .. |>.trans (by rw [if_pos hjr])
    rw [r2] at hs
    conv at hs => rhs; rw [r1]
    have := csum_turn hs
    apply hy
    rw [List.getElem?_append_right (by rw [le4_length]; omega), le4_length, show j - 4 - 4 = j - 8 from by omega, List.getElem?_eq_getElem hjr, this]
end Go.Proofs.YtfmelhcpccghdaaGreat.Rl
