/-
  AN OUTPUT's RECORD: takeOutput, walked.
-/
import Derived.Test.YtofdnbddpageoaaNmFound
import Derived.Laws.EntriesVeiled
namespace Go.Proofs.Ytofdnbddpageoaa.Nm
open Go.RowKit Go.Maps

theorem info3 : (Try.prog.info? 3).map (fun i => (i.zero, i.size, i.bytes)) = some (some (.int .i64 0), 1, 8) := by kernel_rfl

theorem made_ints (W : World) (M : Nat) (hM : M ≤ 1000000) : ∃ C : Array Value, (Instr.makeSlice 104 (.int .i64 (M : Int)) (.int .i64 (M : Int))).run Try.prog W = .ok (.slice (some ⟨W.heap.size, 0, Option.none⟩) M M) (W.alloc (.cells C 3)) ∧
    (W.alloc (.cells C 3)).ownsRow 0 3 1 (.slice (some ⟨W.heap.size, 0, Option.none⟩) M M) M (List.replicate M (.int .i64 0)) := by
  obtain ⟨i0, hi, hz0, hz1, hz2⟩ := info_parts info3
  have hm := run_make (P := Try.prog) W 104 3 i0 (.int .i64 0) Try.underlying104 hi hz0 .i64 .i64 (M : Int) (M : Int) (by omega) (by omega) (by rw [hz2]; omega) (by omega)
  rw [Int.toNat_natCast, hz1, Nat.mul_one] at hm
  refine ⟨_, hm, ?_⟩
  have h1 := World.ownsRow_lit (base := 0) (e := 3) (size := 1) W (madeCells #[.int .i64 0] M) M (Nat.zero_le _) (by unfold maxLen; omega) (by rw [← Array.length_toList, toList_madeCells_one]; simp)
  rw [toList_madeCells_one] at h1
  exact h1

/-- numbers that were read, and noughts -/
def rowJ (M j : Nat) (l : List Nat) : List Value := intV (nums j l) ++ List.replicate (M - j) (.int .i64 0)
theorem rowJ_length {M j : Nat} (l : List Nat) (h : j ≤ M) : (rowJ M j l).length = M := by
  simp [rowJ, intV, nums_length]
  omega
theorem rowJ_at {M j : Nat} (l : List Nat) (h : j < M) : (rowJ M j l)[j]? = some (.int .i64 0) := by
  unfold rowJ
  have e : (intV (nums j l)).length = j := by simp [intV, nums_length]
  rw [List.getElem?_append_right (by omega), e, Nat.sub_self, List.getElem?_replicate, if_pos (by omega)]
theorem rowJ_set {M j : Nat} (l : List Nat) (h : j < M) : (rowJ M j l).set j (.int .i64 ((Pk.num ((l.drop (4 * j)).take 4) : Nat) : Int)) = rowJ M (j + 1) l := by
  unfold rowJ
  have e : (intV (nums j l)).length = j := by simp [intV, nums_length]
  rw [List.set_append_right _ _ (by omega), e, Nat.sub_self, show M - j = (M - (j + 1)) + 1 by omega, List.replicate_succ, List.set_cons_zero, nums_succ]
  simp [intV]
theorem rowJ_end {M : Nat} (l : List Nat) : rowJ M M l = intV (nums M l) := by simp [rowJ]

/-- within the loop: j numbers are read -/
structure Lp (V W : World) (p r g b2 b3 b5 bn : Nat) (a1 : Option Addr) (n c1 : Nat) (f0 : Bool) (l : List Nat) (bad : Bool) (M j : Nat) : Prop where
  kn : Kn W p r g b2 b3 b5 a1 n c1 (f0 && (nums j l).all fun x => decide (x < n)) (l.drop (4 * j)) bad
  row : W.ownsRow 0 3 1 (.slice (some ⟨bn, 0, Option.none⟩) M M) M (rowJ M j l)
  mod : Mod (fun k => k = r ∨ k = b5 ∨ k = bn) V W

theorem Lp.next {V W W1 : World} {p r g b2 b3 b5 bn : Nat} {a1 : Option Addr} {n c1 : Nat} {f0 : Bool} {l : List Nat} {bad : Bool} {M j : Nat} (h : Lp V W p r g b2 b3 b5 bn a1 n c1 f0 l bad M j) (hj : j < M) (hM : 4 * M ≤ l.length) (hg : bn ≠ g) (hbp : bn ≠ p)
    (hk : Kn W1 p r g b2 b3 b5 a1 n c1 ((f0 && (nums j l).all fun x => decide (x < n)) && decide (Pk.rdN 4 (l.drop (4 * j)) < n)) (Pk.rdL 4 (l.drop (4 * j))) (Pk.rdB 4 (l.drop (4 * j)) bad)) (hm : Mod (fun k => k = r ∨ k = b5) W W1) :
    W1.cell? ⟨bn, j, Option.none⟩ = some (.int .i64 0) ∧ W1.frozen? ⟨bn, j, Option.none⟩ = false ∧
    Lp V (W1.setCell ⟨bn, j, Option.none⟩ (.int .i64 ((Pk.rdN 4 (l.drop (4 * j)) : Nat) : Int))) p r g b2 b3 b5 bn a1 n c1 f0 l bad M (j + 1) := by
  have hlen : 4 ≤ (l.drop (4 * j)).length := by rw [List.length_drop]; omega
  have e1 : Pk.rdN 4 (l.drop (4 * j)) = Pk.num ((l.drop (4 * j)).take 4) := if_pos hlen
  have e2 : Pk.rdL 4 (l.drop (4 * j)) = l.drop (4 * (j + 1)) := by
    unfold Pk.rdL
    rw [if_pos hlen, List.drop_drop]
    congr 1
  have e3 : Pk.rdB 4 (l.drop (4 * j)) bad = bad := if_pos hlen
  have hgb : (Value.slice (some ⟨bn, 0, Option.none⟩) M M).ownBlock = some bn := rfl
  obtain ⟨_, cur, hc⟩ := owns_block h.row hgb
  have nr : bn ≠ r := fun e => by
    obtain ⟨_, _, v, hv, _⟩ := h.kn.rd
    exact ne_type hc hv (by decide) e
  have n5 : bn ≠ b5 := fun e => ne_type hc h.kn.h5 (by decide) e
  have n2 : bn ≠ b2 := fun e => ne_type hc h.kn.h2 (by decide) e
  have n3 : bn ≠ b3 := fun e => ne_type hc h.kn.h3 (by decide) e
  have r1 : W1.ownsRow 0 3 1 (.slice (some ⟨bn, 0, Option.none⟩) M M) M (rowJ M j l) := owns_kept h.row fun k hk' => by
    cases hk'
    exact hm.block bn (lt_some hc) (by rintro (e | e); exact nr e; exact n5 e)
  have at1 := r1.cellAt j (by omega)
  rw [rowJ_at l hj] at at1
  obtain ⟨s1, g1⟩ := r1.stored j (.int .i64 ((Pk.num ((l.drop (4 * j)).take 4) : Nat) : Int))
  rw [rowJ_set l hj] at s1
  refine ⟨at1, r1.frozenAt j, ?_⟩
  rw [e1]
  refine ⟨?_, s1, ?_⟩
  · have hk2 : Kn W1 p r g b2 b3 b5 a1 n c1 (f0 && (nums (j + 1) l).all fun x => decide (x < n)) (l.drop (4 * (j + 1))) bad := by
      rw [e1, e2, e3] at hk
      rw [nums_succ, List.all_append]
      simpa [Bool.and_assoc] using hk
    exact hk2.keep g1.size fun k hk' => g1.block k (by
      rcases hk' with rfl | rfl | rfl | rfl | rfl | rfl
      · exact hk2.pl
      · obtain ⟨_, _, v, hv, _⟩ := hk2.rd; exact lt_some hv
      · exact hk2.rd.lt
      · exact lt_some hk2.h2
      · exact lt_some hk2.h3
      · exact lt_some hk2.h5) (fun e => by
      have e := Option.some.inj e
      rcases hk' with rfl | rfl | rfl | rfl | rfl | rfl
      · exact hbp e.symm
      · exact nr e.symm
      · exact hg e.symm
      · exact n2 e.symm
      · exact n3 e.symm
      · exact n5 e.symm)
  · have m1 : Mod (fun k => k = r ∨ k = b5 ∨ k = bn) W W1 := ⟨hm.os, hm.tape, hm.output, hm.size, fun k hk' hn => hm.block k hk' fun hs => hn (by rcases hs with h1 | h1; exact .inl h1; exact .inr (.inl h1))⟩
    exact h.mod.trans2 (m1.trans2 (Mod.grown g1 fun k hk' => by cases hk'; exact .inr (.inr rfl)))

/-- the book stands where none of its blocks has turned -/
theorem out_keep {S X : Nat → Prop} {w W1 W' : World} {r p : Nat} {B : Bo} {v1 v2 v3 : Value} {Q : List (Option Nat)} (h : Bk S w p B v1 v2 v3 Q) (hS : ¬ S r) (hB : Below w.heap.size w W1) (hM : Mod X W1 W') (hX : ∀ k, X k → k = r ∨ w.heap.size ≤ k) :
    Bk S W' p B v1 v2 v3 Q ∧ Mod (fun k => S k ∨ k = r) w W' := by
  have hk : ∀ k, k < w.heap.size → k ≠ r → W'.heap[k]? = w.heap[k]? := fun k hk hr => (hM.block k (Nat.lt_of_lt_of_le hk hB.size) (fun hx => by rcases hX k hx with h1 | h1; exact hr h1; omega)).trans (hB.block k hk)
  exact ⟨h.keep fun k hs hkl => hk k hkl (by rintro rfl; exact hS hs), hM.os.trans hB.os, hM.tape.trans hB.tape, hM.output.trans hB.output, Nat.le_trans hB.size hM.size, fun k hkl hn => hk k hkl (fun e => hn (.inr e))⟩

theorem out_no {S X : Nat → Prop} {w W1 W' : World} {r p : Nat} {B : Bo} {v1 v2 v3 : Value} {Q : List (Option Nat)} {R : Option Bo} (h : Bk S w p B v1 v2 v3 Q) (hS : ¬ S r) (hB : Below w.heap.size w W1) (hM : Mod X W1 W') (hX : ∀ k, X k → k = r ∨ w.heap.size ≤ k) (hR : R = Option.none) :
    TkQ S w r p B R (.returned (.bool false)) W' := by
  obtain ⟨h1, h2⟩ := out_keep h hS hB hM hX
  subst hR
  exact ⟨rfl, ⟨_, _, _, _, h1.wide fun k hk => .inl hk⟩, h2⟩

theorem out_yes {S X : Nat → Prop} {w W1 W' : World} {r p i g3 c3 bn cn : Nat} {B : Bo} {v1 v2 : Value} {Q : List (Option Nat)} {R : Option Bo} {fd : Fd} (h : Bk S w p B v1 v2 (.slice (some ⟨g3, 0, Option.none⟩) B.F.length c3) Q) (hS : ¬ S r) (hB : Below w.heap.size w W1) (hM : Mod X W1 W') (hX : ∀ k, X k → k = r ∨ w.heap.size ≤ k)
    (hi : i < B.F.length) (hbn : w.heap.size ≤ bn) (hv : W'.ownsRow 0 3 1 (.slice (some ⟨bn, 0, Option.none⟩) fd.nums.length cn) fd.nums.length (intV fd.nums)) (hn : (∀ n ∈ fd.nums, n < B.N.length) ∧ fd.time < 4611686018427387904 ∧ fd.nums.length ≤ 1000000) (hR : R = some ⟨B.N, B.F.set i (some fd)⟩) :
    TkQ S w r p B R (.returned (.bool true)) ((W'.alloc (.cells #[.int .i64 (fd.time : Int), .slice (some ⟨bn, 0, Option.none⟩) fd.nums.length cn] 106)).setCell ⟨g3, i, Option.none⟩ (.pointer (some ⟨W'.heap.size, 0, Option.none⟩))) := by
  obtain ⟨h1, h2⟩ := out_keep h hS hB hM hX
  obtain ⟨k1, k2⟩ := bk_found h1 hi hv hn
  have hbl := (hv.lt bn rfl).2
  have z : W'.heap.size < ((W'.alloc (.cells #[.int .i64 (fd.time : Int), .slice (some ⟨bn, 0, Option.none⟩) fd.nums.length cn] 106)).setCell ⟨g3, i, Option.none⟩ (.pointer (some ⟨W'.heap.size, 0, Option.none⟩))).heap.size := by
    have e : ((W'.alloc (.cells #[.int .i64 (fd.time : Int), .slice (some ⟨bn, 0, Option.none⟩) fd.nums.length cn] 106)).setCell ⟨g3, i, Option.none⟩ (.pointer (some ⟨W'.heap.size, 0, Option.none⟩))).heap.size = W'.heap.size + 1 := by
      have : (W'.alloc (.cells #[.int .i64 (fd.time : Int), .slice (some ⟨bn, 0, Option.none⟩) fd.nums.length cn] 106)).heap.size = W'.heap.size + 1 := Array.size_push _
      rw [← this]
      simp [World.setCell]
    omega
  have zz := Nat.le_trans hB.size hM.size
  subst hR
  refine ⟨rfl, ⟨_, _, _, _, k1.wide fun k hk => ?_⟩, h2.trans2 ⟨k2.os, k2.tape, k2.output, k2.size, fun k hk hn => k2.block k hk fun hs => hn (.inl hs)⟩⟩
  rcases hk with hk | hk | hk
  · exact .inl hk
  · subst hk; exact .inr ⟨zz, z⟩
  · have e : bn = _ := Option.some.inj hk
    subst e
    exact .inr ⟨hbn, Nat.lt_trans hbl z⟩

set_option maxRecDepth 100000 in
set_option maxHeartbeats 8000000 in
theorem takeOutput_c {S : Nat → Prop} {w : World} {p r g : Nat} {B : Bo} {v1 v2 v3 : Value} {Q : List (Option Nat)} {l : List Nat} (h : Bk S w p B v1 v2 v3 Q) (hr : Pk.Rd w r g l false) (hS : ¬ S r) (hgS : ¬ S g) (hl : l.length ≤ 1000000) (hb : ∀ n ∈ l, n < 256) :
    Calls Try.prog 35 #[.pointer (some ⟨p, 0, Option.none⟩), .pointer (some ⟨r, 0, Option.none⟩)] w (TkQ S w r p B (takeO B l)) := by
  obtain ⟨a1, c1, rfl⟩ := own_slice h.names
  obtain ⟨a3, c3, rfl⟩ := own_slice h.found
  have hpl := lt_some h.box
  have hrl : r < w.heap.size := by
    obtain ⟨_, _, v, hv, _⟩ := hr
    exact lt_some hv
  have hgl := hr.lt
  have hpr : p ≠ r := by rintro rfl; exact hS h.inS
  obtain ⟨W1, hW1⟩ : ∃ W, ((w.alloc (.cells #[.pointer (some ⟨p, 0, Option.none⟩)] 24)).alloc (.cells #[.pointer (some ⟨r, 0, Option.none⟩)] 82)).alloc (.cells #[.bool true] 4) = W := ⟨_, rfl⟩
  have y1 : (w.alloc (.cells #[.pointer (some ⟨p, 0, Option.none⟩)] 24)).heap.size = w.heap.size + 1 := Array.size_push _
  have y2 : ((w.alloc (.cells #[.pointer (some ⟨p, 0, Option.none⟩)] 24)).alloc (.cells #[.pointer (some ⟨r, 0, Option.none⟩)] 82)).heap.size = w.heap.size + 1 + 1 := (Array.size_push _).trans (by rw [y1])
  have y3 : W1.heap.size = w.heap.size + 1 + 1 + 1 := by rw [← hW1]; exact (Array.size_push _).trans (by rw [y2])
  have hB1 : Below w.heap.size w W1 := by
    rw [← hW1]
    exact (((Below.refl _ _).alloc (Nat.le_refl _) _).alloc (by rw [y1]; omega) _).alloc (by rw [y2]; omega) _
  have k2 : W1.heap[w.heap.size]? = some (.cells #[.pointer (some ⟨p, 0, Option.none⟩)] 24 (0, 0)) := by
    rw [← hW1, Below.heap_alloc _ _ _ (by rw [y2]; omega), Below.heap_alloc _ _ _ (by rw [y1]; omega)]
    exact heap_alloc_new _ _
  have k3 : W1.heap[w.heap.size + 1]? = some (.cells #[.pointer (some ⟨r, 0, Option.none⟩)] 82 (0, 0)) := by
    rw [← hW1, Below.heap_alloc _ _ _ (by rw [y2]; omega), ← y1]
    exact heap_alloc_new _ _
  have k5 : W1.heap[w.heap.size + 1 + 1]? = some (.cells #[.bool true] 4 (0, 0)) := by
    rw [← hW1, ← y2]
    exact heap_alloc_new _ _
  have hr1 : Pk.Rd W1 r g l false := by
    obtain ⟨h1, h2, v, h3, h4⟩ := hr
    refine ⟨h1, Nat.lt_of_lt_of_le h2 hB1.size, v, (hB1.block _ hrl).trans h3, ?_⟩
    rcases h4 with h4 | ⟨off, c, e, hc, hcell⟩
    · exact .inl h4
    · exact .inr ⟨off, c, e, hc, fun i hi => (cell_of_block (hB1.block _ hgl)).trans (hcell i hi)⟩
  have h1 := h.below hB1
  have K0 : Kn W1 p r g w.heap.size (w.heap.size + 1) (w.heap.size + 1 + 1) a1 B.N.length c1 true l false :=
    ⟨hr1, k2, k3, k5, h1.cells.1, Nat.lt_of_lt_of_le hpl hB1.size, hb, hl, hpr, by omega, by omega⟩
  have K0d : Kn W1.drew p r g w.heap.size (w.heap.size + 1) (w.heap.size + 1 + 1) a1 B.N.length c1 true l false := K0.keep (Nat.le_refl _) (fun _ _ => rfl)
  have hk0 := known_c K0d
  obtain ⟨c3a, -⟩ := one_cell k3
  have c3d : W1.drew.cell? ⟨w.heap.size + 1, 0, Option.none⟩ = some (.pointer (some ⟨r, 0, Option.none⟩)) := c3a
  obtain ⟨O, hO⟩ : ∃ x, Pk.rdN 4 l = x := ⟨_, rfl⟩
  obtain ⟨l1, hl1⟩ : ∃ x, Pk.rdL 4 l = x := ⟨_, rfl⟩
  obtain ⟨e1, he1⟩ : ∃ x, Pk.rdB 4 l false = x := ⟨_, rfl⟩
  rw [hO, hl1, he1] at hk0
  have lt1 : ∀ x ∈ l1, x < 256 := by rw [← hl1]; exact Pk.rdL_lt 4 hb
  obtain ⟨T, hT⟩ : ∃ x, Pk.rdN 8 l1 = x := ⟨_, rfl⟩
  obtain ⟨l2, hl2⟩ : ∃ x, Pk.rdL 8 l1 = x := ⟨_, rfl⟩
  obtain ⟨e2, he2⟩ : ∃ x, Pk.rdB 8 l1 e1 = x := ⟨_, rfl⟩
  have lt2 : ∀ x ∈ l2, x < 256 := by rw [← hl2]; exact Pk.rdL_lt 8 lt1
  obtain ⟨M, hM⟩ : ∃ x, Pk.rdN 4 l2 = x := ⟨_, rfl⟩
  obtain ⟨l3, hl3⟩ : ∃ x, Pk.rdL 4 l2 = x := ⟨_, rfl⟩
  obtain ⟨e3, he3⟩ : ∃ x, Pk.rdB 4 l2 e2 = x := ⟨_, rfl⟩
  have TK : Hid (takeO B l = if (!e3 && decide (T < 4611686018427387904) && decide (M * 4 = l3.length) && decide (O < B.N.length) && (nums M l3).all fun n => decide (n < B.N.length)) = true then some ⟨B.N, B.F.set O (some ⟨T, nums M l3⟩)⟩ else Option.none) := Lib.hid (by
    rw [← he3, ← hl3, ← hM, ← he2, ← hl2, ← hT, ← he1, ← hl1, ← hO]
    rfl)
  have hTb : T < 18446744073709551616 := by rw [← hT]; exact Pk.rdN_lt 8 lt1
  have hMb : M < 4294967296 := by rw [← hM]; exact Pk.rdN_lt 4 lt2
  have hwM : IntKind.i64.wrap (M : Int) = (M : Int) := IntWalk.i64_in _ (by omega)
  have Y3 := Lib.hid y3
  have HT := Lib.hid hT
  have HL2 := Lib.hid hl2
  have HE2 := Lib.hid he2
  have HM := Lib.hid hM
  have HL3 := Lib.hid hl3
  have HE3 := Lib.hid he3
  have H := Lib.hid h
  have HB1 := Lib.hid hB1
  have HPR := Lib.hid hpr
  clear h hr hr1 h1 hpr hgl k2 k3 k5 y1 y2 y3 K0 K0d hB1 hT hl2 he2 hM hl3 he3 hO hl1 he1
  go_enter Try.func35, Try.ntmps35
  go_upto_region 3 with fail
  go_region_held3 (fun w' => w'.cell? ⟨w.heap.size + 1, 0, Option.none⟩ = some (.pointer (some ⟨r, 0, Option.none⟩))) (first | exact c3d | exact c3a | exact d3a | exact d3b | exact d3c | fail)
    (first
      | (go_at_call 51; (with_reducible refine hk0.mono ?_); rintro e V2 ⟨rfl, q2, m2⟩; have cU := Pk.u64r_any r g l1 e1 V2 q2.rd q2.len q2.lt; rw [HT.out, HL2.out, HE2.out] at cU; obtain ⟨d3a, -⟩ := one_cell q2.h3; have Q2 := Lib.hid q2; have M2 := Lib.hid m2; clear q2 m2)
      | (go_at_call 53; (with_reducible refine cU.mono ?_); rintro e V3 ⟨rfl, hr3, ho3⟩; have q3 := Q2.out.read hr3 ho3 lt2 (by (have h1 := Pk.rdL_le 8 l1; rw [HL2.out] at h1; have := Q2.out.len; omega)); have cV := Pk.u32r_any r g l2 e2 V3 q3.rd q3.len q3.lt; rw [HM.out, HL3.out, HE3.out] at cV; obtain ⟨d3b, -⟩ := one_cell q3.h3; have Q3 := Lib.hid q3; have O3 := Lib.hid ho3; clear q3 hr3 ho3)
      | (go_at_call 52; (with_reducible refine cV.mono ?_); rintro e V4 ⟨rfl, hr4, ho4⟩; have q4 := Q3.out.read hr4 ho4 (by (rw [← HL3.out]; exact Pk.rdL_lt 4 lt2)) (by (have h1 := Pk.rdL_le 4 l2; rw [HL3.out] at h1; have := Q3.out.len; omega)); obtain ⟨d3c, -⟩ := one_cell q4.h3; have Q4 := Lib.hid q4; have O4 := Lib.hid ho4; clear q4 hr4 ho4))
  have MM : Hid (Mod (fun k => k = r ∨ k = w.heap.size + 1 + 1) W1 V4) := Lib.hid ((show Mod (fun k => k = r ∨ k = w.heap.size + 1 + 1) W1 V2 from ⟨M2.out.os, M2.out.tape, M2.out.output, M2.out.size, M2.out.block⟩).trans2 ⟨O4.out.os.trans O3.out.os, O4.out.tape.trans O3.out.tape, O4.out.output.trans O3.out.output, Nat.le_trans O3.out.size O4.out.size, fun k hk hn => (O4.out.block k (Nat.lt_of_lt_of_le hk O3.out.size) (fun e => hn (.inl e))).trans (O3.out.block k hk (fun e => hn (.inl e)))⟩)
  have XW : Hid (∀ k, (k = r ∨ k = w.heap.size + 1 + 1) → k = r ∨ w.heap.size ≤ k) := Lib.hid fun k hk => by rcases hk with h1 | h1; exact .inl h1; exact .inr (by omega)
  obtain ⟨d3, -⟩ := one_cell Q4.out.h3
  have lv := Pk.left_any r g l3 e3 V4 Q4.out.rd
  have HSR := Lib.hid hS
  clear c3d c3a d3a d3b d3c hk0 cU cV hW1
  by_cases hT2 : T < 4611686018427387904
  · have hT1 : ¬ (4611686018427387904 : Int) ≤ (T : Int) := by omega
    go_wp2_with fail
    refine lv.mono ?_
    rintro e w5 ⟨rfl, rfl⟩
    clear lv
    by_cases hC : l3.length < M * 4
    · have hC1 : (l3.length : Int) < (M : Int) * 4 := by omega
      have hR : Hid (takeO B l = Option.none) := Lib.hid (by
        rw [TK.out, if_neg]
        intro hh
        simp only [Bool.and_eq_true, decide_eq_true_eq] at hh
        omega)
      go_wp2_with fail
      go_ret
      exact out_no H.out HSR.out HB1.out MM.out XW.out hR.out
    · have hC1 : decide ((l3.length : Int) < (M : Int) * 4) = false := decide_eq_false (by omega)
      have HC := Lib.hid (show 4 * M ≤ l3.length by omega)
      have hMk : M ≤ 1000000 := by have := Q4.out.len; omega
      obtain ⟨C, hmk, hown⟩ := made_ints V4 M hMk
      have hgl4 := Q4.out.rd.lt
      have hpl4 := Q4.out.pl
      have LP0 : Lp (V4.alloc (.cells C 3)) (V4.alloc (.cells C 3)) p r g w.heap.size (w.heap.size + 1) (w.heap.size + 1 + 1) V4.heap.size a1 B.N.length c1 (true && decide (O < B.N.length)) l3 e3 M 0 := by
        refine ⟨?_, ?_, Mod.refl _ _⟩
        · have hq := Q4.out.keep (W' := V4.alloc (.cells C 3)) (by rw [World.size_alloc]; exact Nat.le_succ _) (fun k hk => Below.heap_alloc _ _ _ (by
            have q := Q4.out
            rcases hk with rfl | rfl | rfl | rfl | rfl | rfl
            · exact q.pl
            · obtain ⟨_, _, v, hv, _⟩ := q.rd; exact lt_some hv
            · exact q.rd.lt
            · exact lt_some q.h2
            · exact lt_some q.h3
            · exact lt_some q.h5))
          simpa [nums] using hq
        · simpa [rowJ, nums, intV] using hown
      have LPH := Lib.hid LP0
      have HBN : Hid (w.heap.size ≤ V4.heap.size) := Lib.hid (Nat.le_trans HB1.out.size MM.out.size)
      have HG : Hid (V4.heap.size ≠ g ∧ V4.heap.size ≠ p) := Lib.hid ⟨by omega, by omega⟩
      clear LP0 hown hgl4 hpl4 d3 hC
      go_wp2_with fail
      obtain ⟨bn, hbn⟩ : ∃ bn, V4.heap.size = bn := ⟨_, rfl⟩
      obtain ⟨V5, hV5⟩ : ∃ V5, V4.alloc (.cells C 3) = V5 := ⟨_, rfl⟩
      have M5 : Hid (Mod (fun k => k = r ∨ k = w.heap.size + 1 + 1) W1 V5) := Lib.hid (MM.out.trans2 (by rw [← hV5]; exact Mod.ofBelow (Pk.below_alloc _ _)))
      rw [hbn, hV5] at LPH
      rw [hbn] at HBN HG
      rw [hbn, hV5]
      have HZ5 : Hid (bn < V5.heap.size) := Lib.hid (by rw [← hV5, World.size_alloc, hbn]; exact Nat.lt_succ_self _)
      have HT2 := Lib.hid hT2
      clear hbn hV5 hmk Q4 O4 MM hT2 hT1 hTb hMb hC1
      go_loopw [11, 33] (fun _ i wr => ∃ j : Nat, j ≤ M ∧ i = .int .i64 j ∧ Hid (Lp V5 wr p r g w.heap.size (w.heap.size + 1) (w.heap.size + 1 + 1) bn a1 B.N.length c1 (true && decide (O < B.N.length)) l3 e3 M j)) (fun _ i _ => M - (intOf i).toNat)
      case atStart => exact ⟨0, Nat.zero_le _, rfl, LPH⟩
      case round =>
        obtain ⟨j, hj, rfl, hL⟩ := hrel
        clear LPH
        by_cases hlt : j < M
        · have ck := known_c hL.out.kn
          have HNX := Lib.hid (fun (W6 : World) hk hm => hL.out.next (W1 := W6) hlt HC.out HG.out.1 HG.out.2 hk hm)
          have hi0 : (0 : Int) ≤ (j : Int) := by omega
          have hi1 : (j : Int) < (M : Int) := by omega
          obtain ⟨nn, hnn⟩ : ∃ nn, Pk.rdN 4 (l3.drop (4 * j)) = nn := ⟨_, rfl⟩
          have HNN := Lib.hid hnn
          go_wp2_with fail
          refine ck.mono ?_
          rintro e W6 ⟨rfl, q6, m6⟩
          obtain ⟨at6, fz6, L7⟩ := HNX.out W6 q6 m6
          have L7H := Lib.hid L7
          clear ck q6 m6 L7 hnn
          go_wp2_with fail
          go_roundw
          case rel => exact ⟨j + 1, by omega, by go_num, L7H⟩
          case measure => simp [intOf]; omega
        · obtain rfl : M = j := by omega
          have hrow := hL.out.row
          rw [rowJ_end] at hrow
          obtain ⟨FA, hFA⟩ : ∃ FA, ((true && decide (O < B.N.length)) && (nums M l3).all fun x => decide (x < B.N.length)) = FA := ⟨_, rfl⟩
          have kn := hL.out.kn
          rw [hFA] at kn
          obtain ⟨d5, -⟩ := one_cell kn.h5
          obtain ⟨d3, -⟩ := one_cell kn.h3
          obtain ⟨d2, -⟩ := one_cell kn.h2
          have hwh := Nm.whole_c r g (l3.drop (4 * M)) e3 wr kn.rd
          obtain ⟨z, hz⟩ : ∃ z, (!e3 && (l3.drop (4 * M)).isEmpty) = z := ⟨_, rfl⟩
          rw [hz] at hwh
          have MM2 : Hid (Mod (fun k => k = r ∨ k = w.heap.size + 1 + 1 ∨ k = bn) W1 wr) := Lib.hid ((show Mod (fun k => k = r ∨ k = w.heap.size + 1 + 1 ∨ k = bn) W1 V5 from ⟨M5.out.os, M5.out.tape, M5.out.output, M5.out.size, fun k hk hn => M5.out.block k hk fun hs => hn (by rcases hs with h1 | h1; exact .inl h1; exact .inr (.inl h1))⟩).trans2 hL.out.mod)
          have XW2 : Hid (∀ k, (k = r ∨ k = w.heap.size + 1 + 1 ∨ k = bn) → k = r ∨ w.heap.size ≤ k) := Lib.hid fun k hk => by
            rcases hk with h1 | h1 | h1
            · exact .inl h1
            · exact .inr (by omega)
            · exact .inr (by rw [h1]; exact HBN.out)
          have TK2 : Hid (takeO B l = if (FA && z) = true then some ⟨B.N, B.F.set O (some ⟨T, nums M l3⟩)⟩ else Option.none) := Lib.hid (by
            rw [TK.out, ← hFA, ← hz]
            have e1 : decide (T < 4611686018427387904) = true := decide_eq_true HT2.out
            have e2 : decide (M * 4 = l3.length) = (l3.drop (4 * M)).isEmpty := by
              have := HC.out
              by_cases h4 : M * 4 = l3.length
              · rw [decide_eq_true h4, List.drop_of_length_le (by omega)]; rfl
              · rw [decide_eq_false h4]
                cases e : l3.drop (4 * M) with
                | nil => have := congrArg List.length e; rw [List.length_drop] at this; simp at this; omega
                | cons x t => rfl
            rw [e1, e2]
            congr 2
            cases e3 <;> cases (l3.drop (4 * M)).isEmpty <;> cases decide (O < B.N.length) <;> simp)
          have HFA := Lib.hid hFA
          have HROWN := Lib.hid hrow
          clear hFA hz hrow kn
          cases FA with
          | false =>
            have hR : Hid (takeO B l = Option.none) := Lib.hid (by rw [TK2.out]; rfl)
            go_wp2_with fail
            go_ret
            exact out_no H.out HSR.out HB1.out MM2.out XW2.out hR.out
          | true =>
            go_wp2_with fail
            refine hwh.mono ?_
            rintro e w8 ⟨rfl, rfl⟩
            clear hwh
            cases z with
            | false =>
              have hR : Hid (takeO B l = Option.none) := Lib.hid (by rw [TK2.out]; rfl)
              go_wp2_with fail
              go_ret
              exact out_no H.out HSR.out HB1.out MM2.out XW2.out hR.out
            | true =>
              have hON : O < B.N.length ∧ ∀ n ∈ nums M l3, n < B.N.length := by
                have := HFA.out
                simp only [Bool.true_and, Bool.and_eq_true, decide_eq_true_eq, List.all_eq_true] at this
                exact this
              have hOF : O < B.F.length := by rw [H.out.len]; exact hON.1
              have hR : takeO B l = some ⟨B.N, B.F.set O (some ⟨T, nums M l3⟩)⟩ := by rw [TK2.out]; rfl
              rcases own_at H.out.found with ⟨e0, e00⟩ | ⟨g3, cap, e0, -, -, -, -⟩
              · omega
              obtain ⟨rfl, -, rfl⟩ := Value.slice.inj e0
              obtain ⟨hk, -⟩ := out_keep H.out HSR.out HB1.out MM2.out XW2.out
              have dp := hk.cells.2.2.1
              obtain ⟨x, hx⟩ : ∃ x, Q[O]? = some x := ⟨_, List.getElem?_eq_getElem (by rw [H.out.qlen]; exact hOF)⟩
              have fr := owns_below hk.found (Pk.below_alloc wr (.cells #[.int .i64 (T : Int), .slice (some ⟨bn, 0, Option.none⟩) M M] 106))
              have ca := fr.cellAt O (by omega)
              rw [List.getElem?_map, hx] at ca
              have ca' : (wr.alloc (.cells #[.int .i64 (T : Int), .slice (some ⟨bn, 0, Option.none⟩) M M] 106)).cell? ⟨g3, O, Option.none⟩ = some (ptrO x) := ca
              have fa := fr.frozenAt O
              have FIN := out_yes (fd := ⟨T, nums M l3⟩) (i := O) (g3 := g3) (c3 := c3) (bn := bn) (cn := M) H.out HSR.out HB1.out MM2.out XW2.out hOF HBN.out (by show wr.ownsRow 0 3 1 (.slice (some ⟨bn, 0, Option.none⟩) (nums M l3).length M) (nums M l3).length (intV (nums M l3)); rw [nums_length]; exact HROWN.out) ⟨hON.2, HT2.out, by show (nums M l3).length ≤ 1000000; rw [nums_length]; exact hMk⟩ hR
              simp only [nums_length] at FIN
              have FINH := Lib.hid FIN
              have hwT : IntKind.i64.wrap (T : Int) = (T : Int) := IntWalk.i64_in _ (by have := HT2.out; omega)
              have o0 : (0 : Int) ≤ (O : Int) := by omega
              have o1 : (O : Int) < (B.F.length : Int) := by omega
              clear FIN hR hON hOF hk hx fr ca e0 TK2 HFA
              go_wp2_with fail
              go_ret
              exact FINH.out
  · have hT1 : (4611686018427387904 : Int) ≤ (T : Int) := by omega
    have hR : Hid (takeO B l = Option.none) := Lib.hid (by
      rw [TK.out, if_neg]
      intro hh
      simp only [Bool.and_eq_true, decide_eq_true_eq] at hh
      omega)
    go_wp2_with fail
    go_ret
    exact out_no H.out HSR.out HB1.out MM.out XW.out hR.out
end Go.Proofs.Ytofdnbddpageoaa.Nm
