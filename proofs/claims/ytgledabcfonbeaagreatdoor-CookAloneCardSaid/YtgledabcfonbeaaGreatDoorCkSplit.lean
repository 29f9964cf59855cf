/-
  A FILE's LINES; a line's beginning and end.
-/
import Derived.Test.YtgledabcfonbeaaGreatDoorCkJ7
import Derived.Test.YtgledabcfonbeaaGreatDoorCkShelf
import Derived.Lib.SplitLaws
import Derived.Laws.IdiomStrings
import Derived.Laws.BytesArg
namespace Go.Proofs.YtgledabcfonbeaaGreatDoor.Df
open Go.RowKit Go.Maps Go.Proofs.YtgledabcfonbeaaGreatDoor

/-- string(b) -/
theorem conv_byt {w : World} {v : Value} {r : Bs} (h : Byt w v r) : (convert 24 9 v).run Tryz.prog w = .ok (.string (mk r)) w := by
  obtain ⟨a, c, rfl, hc, hn, hrow⟩ := h
  cases a with
  | none =>
    obtain rfl : c = 0 := hn rfl
    obtain rfl : r = [] := List.eq_nil_of_length_eq_zero (by omega)
    exact run_convert_bytes_nil (P := Tryz.prog) w 24 5 Tryz.underlying24 Tryz.underlying5 0 0 9 Tryz.underlying9
  | some ad =>
    rcases hrow with rfl | ⟨g, off, e, hg, hcell⟩
    · exact run_convert_bytes_zero (P := Tryz.prog) w 24 5 Tryz.underlying24 Tryz.underlying5 (some ad) c 9 Tryz.underlying9
    · cases e
      exact run_convert_bytes_back (P := Tryz.prog) w 24 9 5 ⟨g, off, none⟩ c r Tryz.underlying24 Tryz.underlying5 Tryz.underlying9 (fun j hj => by
        rw [Go.WideShapes.add_plain]
        exact hcell j _ (List.getElem?_eq_getElem hj))

/-- bytes as the library's numbers -/
def nums (r : Bs) : List Int := r.map fun b => (b.toNat : Int)
theorem nums_length (r : Bs) : (nums r).length = r.length := by simp [nums]
theorem nums_range (r : Bs) : ∀ x ∈ nums r, 0 ≤ x ∧ x < 256 := fun x hx => by
  obtain ⟨b, _, rfl⟩ := List.mem_map.1 hx
  have := b.toNat_lt
  omega
theorem nums_bytes (r : Bs) : Lib.bytesOf (nums r) = r := by
  unfold Lib.bytesOf nums
  rw [List.map_map]
  conv => rhs; rw [← List.map_id r]
  refine List.map_congr_left fun b _ => ?_
  simp
theorem nums_at {r : Bs} {i : Nat} (h : i < r.length) : (nums r).getD i 0 = (r[i].toNat : Int) := by
  unfold nums
  rw [List.getD_eq_getElem?_getD, List.getElem?_map, List.getElem?_eq_getElem h]
  rfl
theorem Byt.add {w : World} {a : Addr} {n c : Nat} {r : Bs} (h : Byt w (.slice (some a) n c) r) : n = r.length ∧ n ≤ c ∧ ∀ i, i < n → w.cell? (a.add i) = some (.int .u8 ((nums r).getD i 0)) := by
  obtain ⟨a', c', e, hc, hn, hrow⟩ := h
  injection e with e1 e2 e3
  subst e2
  subst e3
  refine ⟨rfl, hc, fun i hi => ?_⟩
  rcases hrow with rfl | ⟨g, off, e, hg, hcell⟩
  · simp at hi
  · rw [← e1] at e
    cases e
    rw [Go.WideShapes.add_plain, nums_at hi]
    exact hcell i _ (List.getElem?_eq_getElem hi)
theorem Byt.isIn {w : World} {p : Option Addr} {n c : Nat} {r : Bs} (h : Byt w (.slice p n c) r) : Lib.BytesIn w p n (nums r) := fun hpos => by
  obtain ⟨a', c', e, hc, hn, hrow⟩ := h
  injection e with e1 e2 e3
  subst e2
  rcases hrow with rfl | ⟨g, off, e, hg, hcell⟩
  · simp at hpos
  · rw [← e1] at e
    subst e
    exact ⟨g, off, rfl, fun i hi => by rw [nums_at hi]; exact hcell i _ (List.getElem?_eq_getElem hi)⟩
/-- a window of bytes -/
theorem Byt.win {w : World} {a a2 : Addr} {n c len cp off : Nat} {r : Bs} (h : Byt w (.slice (some a) n c) r) (hl : len ≤ cp) (ho : off + len ≤ n) (ha : ∀ i, i < len → a2.add i = a.add (off + i)) : Byt w (.slice (some a2) len cp) ((r.drop off).take len) := by
  have hlen : ((r.drop off).take len).length = len := by
    have := h.add.1
    rw [List.length_take, List.length_drop]
    omega
  obtain ⟨a', c', e, hc, hn, hrow⟩ := h
  injection e with e1 e2 e3
  subst e2
  subst e3
  refine ⟨some a2, cp, by rw [hlen], by rw [hlen]; exact hl, (fun e => by cases e), ?_⟩
  by_cases h0 : len = 0
  · subst h0; exact .inl (by simp)
  rcases hrow with rfl | ⟨g, o, e, hg, hcell⟩
  · simp at ho; omega
  · rw [← e1] at e
    cases e
    have h1 := ha 0 (by omega)
    rw [Go.WideShapes.add_plain] at h1
    obtain ⟨b2, o2, sp⟩ := a2
    have h2 : b2 = g ∧ o2 = o + (off + 0) ∧ sp = none := by
      simp [Addr.add] at h1
      exact h1
    obtain ⟨rfl, rfl, rfl⟩ := h2
    refine .inr ⟨_, _, rfl, hg, fun j x hx => ?_⟩
    rw [List.getElem?_take] at hx
    split at hx
    · rw [List.getElem?_drop] at hx
      have := hcell _ x hx
      rw [← this]
      congr 2
      omega
    · cases hx

theorem cut_a {w : World} {p : Option Addr} {n c : Nat} {r ys : Bs} {q : Option Addr} {m d : Nat} (h : Byt w (.slice p n c) r) (hy : Byt w (.slice q m d) ys) (hny : ys ≠ []) :
    Calls Tryz.prog 83 #[.slice p n c, .slice q m d] w fun e w' => (∃ u, e = .returned (.tuple #[u, .bool (ys.isPrefixOf r)]) ∧ (∃ a n c, u = .slice a n c) ∧ Byt w u (if ys.isPrefixOf r then r.drop ys.length else r)) ∧ w' = w := by
  have hn : n = r.length ∧ n ≤ c := by
    obtain ⟨a', c', e, hc, -⟩ := h
    injection e with _ e2 e3
    subst e2; subst e3
    exact ⟨rfl, hc⟩
  have hm : m = ys.length := by
    obtain ⟨a', c', e, hc, -⟩ := hy
    injection e
  refine (shbytesCutPrefixall p q n c m d (nums r) (nums ys) w (by rw [nums_length]; exact hn.1.symm) (by rw [nums_length]; exact hm.symm) hn.2 h.isIn hy.isIn).mono ?_
  rintro e w' ⟨rfl, rfl⟩
  rw [nums_bytes, nums_bytes]
  refine ⟨⟨_, rfl, ?_⟩, rfl⟩
  obtain ⟨y, yr, rfl⟩ := List.exists_cons_of_ne_nil hny
  by_cases hp : (y :: yr).isPrefixOf r = true
  · have hle : (y :: yr).length ≤ r.length := (List.isPrefixOf_iff_prefix.1 hp).length_le
    obtain ⟨b, o, rfl, -⟩ := h.isIn (by rw [hn.1]; simp at hle; omega)
    have e1 : Lib.trimPrefixV (some ⟨b, o, none⟩) n c (nums r) (nums (y :: yr)) = Lib.bytesTrimPrefix b o n c (nums r) (nums (y :: yr)) := rfl
    rw [e1]
    unfold Lib.bytesTrimPrefix Lib.hasPrefix Lib.sliceFrom
    rw [nums_bytes, nums_bytes, if_pos hp, if_pos hp, nums_length]
    refine ⟨⟨_, _, _, rfl⟩, ?_⟩
    have hd : r.drop (y :: yr).length = (r.drop (y :: yr).length).take (n - (y :: yr).length) := by rw [List.take_of_length_le]; rw [List.length_drop]; omega
    rw [hd]
    by_cases hck : c = (y :: yr).length
    · rw [if_pos hck]
      have hz : n - (y :: yr).length = 0 := by omega
      rw [hz]
      exact ⟨_, _, rfl, Nat.zero_le _, (fun e => by cases e), .inl (by simp)⟩
    · rw [if_neg hck]
      exact h.win (by omega) (by omega) (fun i hi => by rw [Go.WideShapes.add_plain, Go.WideShapes.add_plain]; congr 1; omega)
  · rw [if_neg hp]
    have e1 : Lib.trimPrefixV p n c (nums r) (nums (y :: yr)) = .slice p n c := by
      unfold Lib.trimPrefixV
      split
      · unfold Lib.bytesTrimPrefix Lib.hasPrefix
        rw [nums_bytes, nums_bytes, if_neg hp]
      · rfl
    rw [e1]
    exact ⟨⟨_, _, _, rfl⟩, h⟩

theorem suffix_one (r : Bs) : ([10] : Bs).isSuffixOf r = decide (r.getLast? = some 10) := by
  rcases List.eq_nil_or_concat r with rfl | ⟨K, x, rfl⟩
  · rfl
  · rw [List.concat_eq_append, Bool.eq_iff_iff, List.isSuffixOf_iff_suffix, decide_eq_true_iff, List.getLast?_concat]
    constructor
    · rintro ⟨t, ht⟩
      have := List.append_inj_right' ht rfl
      simp at this
      rw [this]
    · intro h
      injection h with h
      exact ⟨K, by rw [h]⟩
theorem trim_a {w : World} {p : Option Addr} {n c : Nat} {r : Bs} {q : Option Addr} {m d : Nat} (h : Byt w (.slice p n c) r) (hy : Byt w (.slice q m d) [10]) (hbig : r.length ≤ 1000000) :
    Calls Tryz.prog 85 #[.slice p n c, .slice q m d] w fun e w' => (∃ u, e = .returned u ∧ (∃ a n c, u = .slice a n c) ∧ Byt w u (trimE r)) ∧ w' = w := by
  have hn : n = r.length ∧ n ≤ c := by
    obtain ⟨a', c', e, hc, -⟩ := h
    injection e with _ e2 e3
    subst e2; subst e3
    exact ⟨rfl, hc⟩
  have hm : m = 1 := by
    obtain ⟨a', c', e, hc, -⟩ := hy
    injection e
  refine (shbytesTrimSuffixall p q n c m d (nums r) (nums [10]) w (by rw [nums_length]; exact hn.1.symm) (by rw [nums_length]; exact hm.symm) hn.2 (by omega) h.isIn hy.isIn).mono ?_
  rintro e w' ⟨rfl, rfl⟩
  refine ⟨⟨_, rfl, ?_⟩, rfl⟩
  by_cases hp : ([10] : Bs).isSuffixOf r = true
  · have hg : r.getLast? = some 10 := by rw [suffix_one] at hp; exact of_decide_eq_true hp
    have hle : 1 ≤ r.length := by
      cases r with
      | nil => cases hg
      | cons x y => simp
    obtain ⟨b, o, rfl, -⟩ := h.isIn (by omega)
    have e1 : Lib.trimSuffixV (some ⟨b, o, none⟩) n c (nums r) (nums [10]) = Lib.bytesTrimSuffix b o n c (nums r) (nums [10]) := rfl
    rw [e1]
    unfold Lib.bytesTrimSuffix Lib.hasSuffix Lib.sliceTo
    rw [nums_bytes, nums_bytes, if_pos hp, nums_length]
    refine ⟨⟨_, _, _, rfl⟩, ?_⟩
    unfold trimE
    rw [if_pos hg, List.dropLast_eq_take]
    have := h.win (a2 := ⟨b, o, none⟩) (len := n - 1) (cp := c) (off := 0) (by omega) (by omega) (fun i hi => by rw [Nat.zero_add])
    rw [List.drop_zero] at this
    rw [← hn.1]
    exact this
  · have hg : ¬ r.getLast? = some 10 := by rw [suffix_one] at hp; exact fun e => hp (decide_eq_true e)
    have e1 : Lib.trimSuffixV p n c (nums r) (nums [10]) = .slice p n c := by
      unfold Lib.trimSuffixV
      split
      · unfold Lib.bytesTrimSuffix Lib.hasSuffix
        rw [nums_bytes, nums_bytes, if_neg hp]
      · rfl
    rw [e1]
    unfold trimE
    rw [if_neg hg]
    exact ⟨⟨_, _, _, rfl⟩, h⟩

/-- what SplitAfter makes: a new row of lines -/
def LiQ (w : World) (v : Value) (b : Bs) (e : Ending) (w' : World) : Prop :=
  ∃ vs : List Value, e = .returned (.slice (some ⟨w.heap.size, 0, none⟩) (linesA b).length (linesA b).length) ∧ w'.heap[w.heap.size]? = some (.cells vs.toArray 24 (0, 0)) ∧ vs.length = (linesA b).length ∧ (∀ (j : Nat) l, (linesA b)[j]? = some l → ∃ u, vs[j]? = some u ∧ ∀ V, Byt V v b → Byt V u l) ∧ Below w.heap.size w w'

set_option maxRecDepth 100000 in
set_option maxHeartbeats 4000000 in
theorem lines_a {w : World} {v : Value} {b : Bs} {p d : Nat} (h : Byt w v b) (hb : b.length ≤ 1000000) (hbc : ∀ a n c, v = .slice a n c → c ≤ 9223372036854775807) (hnl : w.cell? ⟨p, 0, none⟩ = some (.int .u8 10)) :
    Calls Tryz.prog 82 #[v, .slice (some ⟨p, 0, none⟩) 1 d] w (LiQ w v b) := by
  obtain ⟨a, c, rfl, hc, hno, hrow⟩ := id h
  cases a with
  | none =>
    obtain rfl : c = 0 := hno rfl
    obtain rfl : b = [] := List.eq_nil_of_length_eq_zero (by omega)
    refine (shbytesSplitAfternil (some ⟨p, 0, none⟩) 1 d w (Nat.le_refl _) (by omega) (fun _ => ⟨p, 0, 10, rfl, hnl⟩)).mono ?_
    rintro e w' ⟨rfl, rfl⟩
    refine ⟨[.slice none 0 0], rfl, heap_alloc_new _ _, rfl, fun j l hl => ?_, below_alloc _ _⟩
    match j, hl with
    | 0, hl => cases hl; exact ⟨_, rfl, fun V _ => Byt.nil V⟩
    | j + 1, hl => cases hl
  | some a =>
  have hcnt : b.count 10 ≤ b.length := List.count_le_length
  have hadd := h.add.2.2
  have hg := shbytesgenSplitcore a ⟨p, 0, none⟩ b.length c 1 d (nums b) [10] 1 (-1) (b.count 10 + 1) w (nums_length b) (nums_range b) hadd hc (by omega) (hbc _ _ _ rfl) (by omega) (by omega) rfl (by omega)
    (fun a zs ln cap q C hz hrz hcz hcp hln =>
      (shbytesIndexoneat a ln cap p 0 d zs 10 ((w.alloc (.cells C 24)).drewN q) hz (fun i hi => by rw [World.cell?_drewN]; exact Lib.cell?_alloc_marked _ (hcz i hi)) (by rw [World.cell?_drewN]; exact Lib.cell?_alloc_marked _ hnl)).mono fun e w' ⟨h1, h2⟩ => ⟨by rw [h1, Lib.index_one]; rfl, q, h2⟩)
    ((shbytesCountoneat a b.length c p 0 d (nums b) 10 w (nums_length b) hadd hnl).mono fun e w' ⟨h1, h2⟩ => ⟨by rw [h1, Lib.count_one, nums_bytes]; rfl, 0, h2⟩)
    (by decide) (by decide) (by rw [if_pos (by decide), Lib.count_one, nums_bytes]; omega)
  have hlen : (Lib.splitV [10] 1 (b.count 10) a c b).length = (linesA b).length := by rw [Lib.splitV_length, splitA_eq _ _ (Nat.le_refl _)]
  have hlA : (linesA b).length = b.count 10 + 1 := by
    have hh : ∀ k (b : Bs), b.count 10 = k → (linesA b).length = k + 1 := by
      intro k
      induction k with
      | zero => intro b hb; rw [linesA_none b (List.count_eq_zero.1 hb)]; rfl
      | succ k ih =>
        intro b hb
        have hm : (10 : UInt8) ∈ b := List.count_pos_iff.1 (by omega)
        obtain ⟨p, r, rfl, hp⟩ := List.eq_append_cons_of_mem hm
        rw [linesA_at p r hp, List.length_cons, ih r (by rw [List.count_append, List.count_cons_self, List.count_eq_zero.2 hp] at hb; omega)]
    exact hh _ _ rfl
  have hsp : ∀ (j : Nat) l, (linesA b)[j]? = some l → ∃ u, (Lib.splitV [10] 1 (b.count 10) a c b)[j]? = some u ∧ ∀ W, Byt W (.slice (some a) b.length c) b → Byt W u l := fun j l hl => by
    have hj : j < (Lib.splitV [10] 1 (b.count 10) a c b).length := by rw [hlen]; exact (List.getElem?_eq_some_iff.1 hl).1
    obtain ⟨a', off, len, cp, e1, e2, e3, e4, e5⟩ := Lib.splitV_spec [10] 1 (by decide) (by decide) (b.count 10) a c b hc j _ (List.getElem?_eq_getElem hj)
    refine ⟨_, List.getElem?_eq_getElem hj, fun W hW => ?_⟩
    rw [splitA_eq _ _ (Nat.le_refl _), hl] at e4
    rw [e1, Option.some.inj e4]
    exact hW.win e2 e3 e5
  rw [Nat.add_sub_cancel, nums_bytes, hlen] at hg
  have e2 : Lib.cellsOfV (Lib.splitV [10] 1 (b.count 10) a c b) (b.count 10 + 1) = (Lib.splitV [10] 1 (b.count 10) a c b).toArray := by rw [← hlA, ← hlen]; exact Lib.cellsOfV_full _
  rw [e2, ← hlA] at hg
  generalize Lib.splitV [10] 1 (b.count 10) a c b = vs at *
  have HSP := Lib.hid hsp
  have HL := Lib.hid hlen
  clear hsp hlA hlen hadd hcnt hrow hno e2
  unfold LiQ
  generalize linesA b = LL at *
  go_enter Tryz.func82, Tryz.ntmps82
  go_wp2_with fail
  refine hg.mono ?_
  rintro e w1 ⟨rfl, q, rfl⟩
  go_wp2_with fail
  go_ret
  have hB : Below w.heap.size w ((w.alloc (.cells vs.toArray 24)).drewN q) := (below_alloc w _).trans (⟨rfl, rfl, rfl, Nat.le_refl _, fun _ _ => rfl⟩)
  exact ⟨vs, rfl, heap_alloc_new w _, HL.out, HSP.out, hB⟩
end Go.Proofs.YtgledabcfonbeaaGreatDoor.Df
