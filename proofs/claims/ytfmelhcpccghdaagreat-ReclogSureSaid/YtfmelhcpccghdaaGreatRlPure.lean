/-
  WHAT A CUT FILE IS SCANNED AS, AND ONE WITH A BYTE TURNED.
-/
import Derived.Test.YtfmelhcpccghdaaGreatRlRef
namespace Go.Proofs.YtfmelhcpccghdaaGreat.Rl

theorem all_take_mono (rs : List (List UInt8)) {s t : Nat} (h : s ≤ t) : (all (rs.take s)).length ≤ (all (rs.take t)).length := by
  have := all_take_le (rs.take t) s
  rwa [List.take_take, Nat.min_eq_left h] at this
theorem all_take_succ {rs : List (List UInt8)} {i : Nat} {r : List UInt8} (h : rs[i]? = some r) : (all (rs.take (i + 1))).length = (all (rs.take i)).length + 8 + r.length := by
  obtain ⟨hi, rfl⟩ := List.getElem?_eq_some_iff.1 h
  rw [List.take_succ_eq_append_getElem hi, all_append, all_one, List.length_append, frame_length]
  omega

theorem okHead_body (k : UInt8) (rs : List (List UInt8)) (m : Nat) : okHead k ((body k rs).take m) := by
  unfold okHead
  have h8 : min ((body k rs).take m).length 8 = min m 8 := by rw [List.length_take, body_length]; omega
  rw [h8, List.take_take, show min (min m 8) m = min m 8 by omega, body, List.take_append_of_le_length (by rw [head_length]; omega)]

theorem cuts_pure {k : UInt8} {rs : List (List UInt8)} {cut n : Nat} (hs : Shorts rs) (hn : n ≤ rs.length) (h1 : n = 0 ∨ 8 + (all (rs.take n)).length ≤ cut) (h2 : n = rs.length ∨ cut < 8 + (all (rs.take (n + 1))).length) (hcut : cut ≤ (body k rs).length) :
    scanRecs k ((body k rs).take cut) = rs.take n ∧ scanEnd k ((body k rs).take cut) = (if cut < 8 then 0 else 8 + (all (rs.take n)).length) ∧ scanErr k ((body k rs).take cut) = 0 := by
  have hok := okHead_body k rs cut
  have hl : ((body k rs).take cut).length = cut := by rw [List.length_take]; omega
  have hg : gotOf ((body k rs).take cut) = rs.take n := by
    unfold gotOf
    rw [hl]
    by_cases h8 : cut < 8
    · rw [if_pos h8]
      have : n = 0 := by rcases h1 with h | h <;> omega
      rw [this]; rfl
    · rw [if_neg h8]
      obtain ⟨m, k1, k2, k3, k4⟩ := recs_cut hs (cut - 8)
      have e : ((body k rs).take cut).drop 8 = (all rs).take (cut - 8) := by
        rw [body, List.take_append, head_length, List.take_of_length_le (by rw [head_length]; omega), List.drop_left' (head_length k)]
      rw [e, k2]
      have hmn : n ≤ m := k4 n hn (by rcases h1 with h | h; rw [h]; exact Nat.zero_le _; omega)
      have hmm : m ≤ n := by
        rcases Nat.lt_or_ge n m with h | h
        · exfalso
          rcases h2 with h5 | h5
          · omega
          · have := all_take_mono rs (show n + 1 ≤ m by omega)
            omega
        · exact h
      rw [show m = n by omega]
  refine ⟨?_, ?_, ?_⟩
  · unfold scanRecs; rw [if_pos hok, hg]
  · unfold scanEnd
    rw [hl, hg]
    by_cases h8 : cut < 8
    · rw [if_neg (by omega), if_pos h8]
    · rw [if_pos ⟨hok, by omega⟩, if_neg h8]
  · unfold scanErr; rw [if_pos hok]

theorem turned_pure {k : UInt8} {rs : List (List UInt8)} {p n : Nat} {y : UInt8} {r : List UInt8} (hs : Shorts rs) (hr : rs[n]? = some r) (h1 : 8 + (all (rs.take n)).length ≤ p) (h2 : p < 8 + (all (rs.take (n + 1))).length) (hy : (body k rs)[p]? ≠ some y) :
    scanErr k ((body k rs).set p y) = 0 ∧ n ≤ (scanRecs k ((body k rs).set p y)).length ∧ (scanRecs k ((body k rs).set p y)).take n = rs.take n ∧ (8 + (all (rs.take n)).length + 4 ≤ p → (scanRecs k ((body k rs).set p y)).length = n) := by
  have hn := (List.getElem?_eq_some_iff.1 hr).1
  have hsucc := all_take_succ hr
  obtain ⟨j, hj⟩ : ∃ j, p = 8 + (all (rs.take n)).length + j := ⟨p - (8 + (all (rs.take n)).length), by omega⟩
  have hjl : j < 8 + r.length := by omega
  have hrs : rs = rs.take n ++ r :: rs.drop (n + 1) := by
    obtain ⟨_, rfl⟩ := List.getElem?_eq_some_iff.1 hr
    rw [List.getElem_cons_drop, List.take_append_drop]
  have hb : body k rs = head k ++ (all (rs.take n) ++ (frame r ++ all (rs.drop (n + 1)))) := by
    conv => lhs; rw [hrs]
    rw [body, all_append, all_cons]
  have hset : (body k rs).set p y = head k ++ (all (rs.take n) ++ ((frame r).set j y ++ all (rs.drop (n + 1)))) := by
    rw [hb, List.set_append_right _ _ (by rw [head_length]; omega), head_length, List.set_append_right _ _ (by omega), List.set_append_left _ _ (by rw [frame_length]; omega)]
    congr 5
    omega
  have hyj : (frame r)[j]? ≠ some y := by
    intro e
    apply hy
    rw [hb, List.getElem?_append_right (by rw [head_length]; omega), head_length, List.getElem?_append_right (by omega), List.getElem?_append_left (by rw [frame_length]; omega), ← e]
    congr 1
    omega
  have hl8 : 8 ≤ ((body k rs).set p y).length := by rw [List.length_set, body_length]; omega
  have hok : okHead k ((body k rs).set p y) := by
    unfold okHead
    rw [Nat.min_eq_right hl8, hset, List.take_left' (head_length k), List.take_of_length_le (by rw [head_length]; exact Nat.le_refl _)]
  have hrec : scanRecs k ((body k rs).set p y) = rs.take n ++ recs ((frame r).set j y ++ all (rs.drop (n + 1))) := by
    unfold scanRecs gotOf
    rw [if_pos hok, if_neg (by omega), hset, List.drop_left' (head_length k), recs_all (hs.take n)]
  have hlt : (rs.take n).length = n := by rw [List.length_take]; omega
  refine ⟨by unfold scanErr; rw [if_pos hok], by rw [hrec, List.length_append]; omega, by rw [hrec, List.take_left' hlt], fun h4 => ?_⟩
  have hf : first ((frame r).set j y ++ all (rs.drop (n + 1))) = none := first_turn (hs r (List.mem_of_getElem? hr)) (by omega) hjl hyj
  rw [hrec, recs_none hf, List.append_nil, hlt]
end Go.Proofs.YtfmelhcpccghdaaGreat.Rl
