/-
  runs.Write, WALKED: the second way, which puts the record; Write whole.
-/
import Derived.Test.YtdijpoemimebmaaRnWrite
import Derived.Lib.ConvBytes
namespace Go.Proofs.Ytdijpoemimebmaa.Rn
open Go.RowKit
open Go.Proofs.Ytdijpoemimebmaa.Cr

theorem owns_kept {w w' : World} {base e k : Nat} {v : Value} {n : Nat} {xs : List Value} (h : w.ownsRow base e k v n xs) (hb : ∀ g, v.ownBlock = some g → w'.heap[g]? = w.heap[g]?) : w'.ownsRow base e k v n xs := by
  refine ⟨h.1, ?_⟩
  rcases h.2 with h | ⟨g, cap, cur, h1, h2, h3, h4⟩
  · exact .inl h
  · exact .inr ⟨g, cap, cur, h1, h2, (hb g (by rw [h1]; rfl)).trans h3, h4⟩

theorem owns_block {w : World} {base e k : Nat} {v : Value} {n g : Nat} {xs : List Value} (h : w.ownsRow base e k v n xs) (hg : v.ownBlock = some g) : base ≤ g ∧ ∃ cur, w.heap[g]? = some (.cells cur e (0, 0)) := by
  rcases h.2 with ⟨rfl, _⟩ | ⟨g', cap, cur, rfl, h2, h3, h4⟩
  · cases hg
  · cases hg
    exact ⟨h2, cur, h3⟩

theorem owns_below {w w' : World} {base e k : Nat} {v : Value} {n : Nat} {xs : List Value} (h : w.ownsRow base e k v n xs) (hb : Below w.heap.size w w') : w'.ownsRow base e k v n xs :=
  owns_kept h fun g hg => by
    obtain ⟨_, cur, hc⟩ := owns_block h hg
    exact hb.block g (lt_some hc)

/-- a row of bytes -/
def U8 (W : World) (k : Nat) : Prop := ∃ C, W.heap[k]? = some (.cells C 5 (0, 0))

theorem wpList_append_bytesG {w : World} {ops : Array Oper} {rest : List Oper} {o : Oper} {a : Act} {Q : Exit → Act → World → Prop} (hgd : o.guard = Option.none) (s x : Operand)
    (ho : o.op = .call { callee := .builtin .append, args := #[s, x], argTypes := #[27, 27] })
    (base : Nat) (v : Value) (n : Nat) (xs : List Nat) (hs : a.eval s = v) (hown : w.ownsRow base 5 1 v n (Pk.bytesV xs))
    (ad : Option Addr) (m c : Nat) (l : List Nat) (hx : a.eval x = .slice ad m c) (hm : m = l.length) (hnil : ad = Option.none → c = 0) (hrow : Pk.Row w ad l)
    (hbytes : n + m ≤ 140737488351232) (hbase : base ≤ w.heap.size)
    (h : ∀ a' n' c' w', w'.ownsRow base 5 1 (.slice a' n' c') n' (Pk.bytesV (xs ++ l)) → w.grownBy w' v.ownBlock → wpList Try.prog ops Q rest (a.put o.dst (.slice a' n' c')) w') : wpList Try.prog ops Q (o :: rest) a w := by
  obtain ⟨i0, hi, hz0, hz1, hz2⟩ := info_parts Pk.info5
  cases ad with
  | none =>
    have hl : l = [] := by
      rcases hrow with h | ⟨_, _, e, _⟩
      · exact h
      · cases e
    subst hl
    obtain rfl : c = 0 := hnil rfl
    obtain rfl : m = 0 := hm
    refine wpList_append_own_none hgd s x 27 ho base 5 i0 1 Try.underlying27 hi v n (Pk.bytesV xs) hs hown hx ?_
    rw [List.append_nil] at h
    obtain ⟨a', c', rfl, _, _, _⟩ := Pk.row_owned hown
    exact h a' n c' w hown ⟨rfl, rfl, rfl, Nat.le_refl _, fun _ _ _ => rfl⟩
  | some ad =>
    refine wpList_append_own w hgd s x 27 ho base 5 i0 (.int .u8 0) 1 1 Try.underlying27 hi hz0 hz1 hz2 rfl (by decide) v n (Pk.bytesV xs) hs hown ad m c (Pk.bytesV l) hx (by rw [Pk.bytesV_length]; omega) (Pk.row_cells hrow) ?_ (by unfold maxLen; omega) (by omega) hbase ?_
    · intro u hu
      unfold Pk.bytesV at hu
      obtain ⟨k, _, rfl⟩ := List.mem_map.1 hu
      rfl
    · intro v' w' h1 h2 _
      rw [← Pk.bytesV_append] at h1
      obtain ⟨a', c', rfl, _, _, _⟩ := Pk.row_owned h1
      exact h a' (n + m) c' w' h1 h2

/-- what is put -/
def PutQ (base q : Nat) (xs : List Nat) (W : World) (e : Ending) (W' : World) : Prop :=
  (∃ z, e = .returned z) ∧ (∃ a n c, W'.heap[q]? = some (.cells #[.slice a n c] 27 (0, 0)) ∧ W'.ownsRow base 5 1 (.slice a n c) n (Pk.bytesV xs)) ∧ Off (fun k => k = q ∨ (base ≤ k ∧ U8 W k)) W W'

theorem put_c {W : World} {base q n c n' c' : Nat} {a a' : Option Addr} {xs l : List Nat} (hq : W.heap[q]? = some (.cells #[.slice a n c] 27 (0, 0))) (hown : W.ownsRow base 5 1 (.slice a n c) n (Pk.bytesV xs))
    (hrow : Pk.Row W a' l) (hn : Hid (n' = l.length)) (hnil : Hid (a' = Option.none → c' = 0)) (hle : n + n' ≤ 1000000000) (hbase : base ≤ W.heap.size) :
    Calls Try.prog 30 #[.slice a' n' c', .pointer (some ⟨q, 0, Option.none⟩)] W (PutQ base q (xs ++ l) W) := by
  obtain ⟨c0, f0⟩ := one_cell hq
  have hne : some q ≠ (Value.slice a n c).ownBlock := fun e => by
    obtain ⟨_, cur, hc⟩ := owns_block hown e.symm
    rw [hq] at hc; simp at hc
  have hlq := lt_some hq
  have HQ := Lib.hid hq
  have HNE := Lib.hid hne
  clear hq hne
  go_enter Try.func30, Try.ntmps30
  go_wp2_with (at_builtin; refine wpList_append_bytesG rfl (.tmp 3) (.tmp 4) rfl base (.slice a n c) n xs rfl hown a' n' c' l rfl hn.out hnil.out hrow (by omega) hbase ?_; intro a2 n2 c2 w2 hown2 hg2; have hq2 := (hg2.block q hlq HNE.out).trans HQ.out; obtain ⟨d0, g0⟩ := one_cell hq2; have HQ2 := Lib.hid hq2; clear hq2)
  go_end0
  refine ⟨⟨_, rfl⟩, ⟨a2, n2, c2, set_one HQ2.out, owns_kept hown2 fun g hg => ?_⟩, ?_⟩
  · refine set_other fun e => ?_
    obtain ⟨_, cur, hc⟩ := owns_block hown2 hg
    rw [e, HQ2.out] at hc; simp at hc
  · refine Off.trans (b := w2) ⟨hg2.os, hg2.tape, hg2.output, hg2.size, fun k hk hc => hg2.block k hk fun e => hc ?_⟩ ?_
    · obtain ⟨hb, cur, hcur⟩ := owns_block hown e.symm
      exact .inr ⟨hb, cur, hcur⟩
    · exact off_set (.inl rfl)

/-- the second way's state: the run's box p, the closure's box s, the record's box q -/
def Inv2 (w0 : World) (p q s : Nat) (r : Run) (vi vf : Value) (H : List Nat) (ps : List Part) (W : World) : Prop :=
  W.heap[p]? = some (.cells (runC r vi vf) 33 (0, 0)) ∧ W.heap[s]? = some (.cells #[.func (.func 30) #[] #[.pointer (some ⟨q, 0, Option.none⟩)]] 68 (0, 0)) ∧
  (∃ a n c, W.heap[q]? = some (.cells #[.slice a n c] 27 (0, 0)) ∧ W.ownsRow w0.heap.size 5 1 (.slice a n c) n (Pk.bytesV (H ++ bytes ps))) ∧ Below w0.heap.size w0 W

def Ch2 (q : Nat) (W : World) (k : Nat) : Prop := k = q ∨ U8 W k

section
variable {w0 : World} {p q s : Nat} {r : Run} {vi vf : Value} {H : List Nat}

theorem inv2_below {ps : List Part} {W W1 : World} (h : Inv2 w0 p q s r vi vf H ps W) (hb : Below W.heap.size W W1) : Inv2 w0 p q s r vi vf H ps W1 := by
  obtain ⟨h1, h2, ⟨a, n, c, h3, h4⟩, h5⟩ := h
  exact ⟨(hb.block _ (lt_some h1)).trans h1, (hb.block _ (lt_some h2)).trans h2, ⟨a, n, c, (hb.block _ (lt_some h3)).trans h3, owns_below h4 hb⟩, h5.trans (hb.mono h5.size)⟩

theorem inv2_drew {ps : List Part} {W : World} (h : Inv2 w0 p q s r vi vf H ps W) : Inv2 w0 p q s r vi vf H ps W.drew := by
  obtain ⟨h1, h2, h3, h5⟩ := h
  exact ⟨h1, h2, h3, ⟨h5.os, h5.tape, h5.output, h5.size, h5.block⟩⟩

theorem ne_type {w : World} {p q : Nat} {C C' : Array Value} {t t' : TypeId} (h : w.heap[p]? = some (.cells C t (0, 0))) (h' : w.heap[q]? = some (.cells C' t' (0, 0))) (hne : t ≠ t') : p ≠ q := by
  rintro rfl
  rw [h] at h'
  simp at h'
  exact hne h'.2

theorem inv2_put {ps : List Part} {x : Part} {W W1 W2 : World} {e : Ending} (h : Inv2 w0 p q s r vi vf H ps W1) (hq : w0.heap.size ≤ q) (hb : Below W.heap.size W W1) (hP : PutQ w0.heap.size q (H ++ bytes ps ++ pb x) W1 e W2) :
    (∃ z, e = .returned z) ∧ Inv2 w0 p q s r vi vf H (ps ++ [x]) W2 ∧ ∀ k, k < W.heap.size → ¬ Ch2 q W k → W2.heap[k]? = W.heap[k]? := by
  obtain ⟨h1, h2, ⟨a0, n0, c0, h3', _⟩, h5⟩ := h
  obtain ⟨hz, h3, hO⟩ := hP
  have hu : ∀ k C t, W1.heap[k]? = some (.cells C t (0, 0)) → t ≠ 5 → ¬ (w0.heap.size ≤ k ∧ U8 W1 k) := by
    rintro k C t hc ht ⟨_, C', hc'⟩
    rw [hc] at hc'
    simp at hc'
    exact ht hc'.2
  have hpq : p ≠ q := ne_type h1 h3' (by decide)
  have hsq : s ≠ q := ne_type h2 h3' (by decide)
  refine ⟨hz, ⟨(hO.block p (lt_some h1) (fun h => h.elim hpq (hu _ _ _ h1 (by decide)))).trans h1, (hO.block s (lt_some h2) (fun h => h.elim hsq (hu _ _ _ h2 (by decide)))).trans h2, ?_, h5.trans (hO.below (fun k hk => by rcases hk with rfl | ⟨h, _⟩ <;> assumption) h5.size)⟩, fun k hk hc => ?_⟩
  · rw [bytes_snoc, ← List.append_assoc]
    exact h3
  · have hk1 := hb.block k hk
    refine (hO.block k (Nat.lt_of_lt_of_le hk hb.size) ?_).trans hk1
    rintro (h | ⟨_, C, h⟩)
    · exact hc (.inl h)
    · exact hc (.inr ⟨C, hk1 ▸ h⟩)

theorem inv2_len {ps : List Part} {W : World} (hH : H.length = 8) {a : Option Addr} {n c : Nat} (h : W.ownsRow w0.heap.size 5 1 (.slice a n c) n (Pk.bytesV (H ++ bytes ps))) : n = 8 + size ps := by
  have := h.1
  rw [Pk.bytesV_length, List.length_append, bytes_length, hH] at this
  omega

/-- behind a part's bytes: what the closure that puts them needs -/
theorem put_next {ps : List Part} {W W1 : World} {l : List Nat} {a' : Option Addr} {n' c' : Nat} (h : Inv2 w0 p q s r vi vf H ps W1) (hown : W1.ownsRow W.heap.size 5 1 (.slice a' n' c') n' (Pk.bytesV l)) (hl : l.length ≤ 70000) (hH : H.length = 8) (hsz : size ps ≤ 4088) (_hb : Below W.heap.size W W1) :
    W1.cell? ⟨s, 0, Option.none⟩ = some (.func (.func 30) #[] #[.pointer (some ⟨q, 0, Option.none⟩)]) ∧ Calls Try.prog 30 #[.slice a' n' c', .pointer (some ⟨q, 0, Option.none⟩)] W1 (PutQ w0.heap.size q (H ++ bytes ps ++ l) W1) := by
  obtain ⟨_, h2, ⟨a, n, c, h3, h4⟩, h5⟩ := h
  obtain ⟨hn', hr', hc'⟩ := Pk.owned_row hown
  have hnl := inv2_len hH h4
  have hn2 := hn'.out
  exact ⟨(one_cell h2).1, put_c h3 h4 hr' hn' hc' (by omega) h5.size⟩

set_option maxHeartbeats 1000000 in
theorem does2T (hH : H.length = 8) (hq : w0.heap.size ≤ q) (hsz : size (parts r) ≤ 4088) :
    Does 31 #[.pointer (some ⟨s, 0, Option.none⟩)] r pv (Inv2 w0 p q s r vi vf H) (Ch2 q) isT := by
  refine ⟨fun x W => by simp only [List.append_toArray, List.cons_append, List.nil_append]; rfl, fun ps x post W hx hp hI => ?_⟩
  cases x with
  | T t =>
    have hs := size_pre hp
    simp only [psz] at hs
    have HI := Lib.hid hI
    clear hI hp
    simp only [List.append_toArray, List.cons_append, List.nil_append, pv]
    have ht := Pk.text_any Option.none 0 0 [] t W rfl (.inl rfl) (by omega) (by omega)
    go_enter Try.func31, Try.ntmps31
    go_wp2_with fail
    refine ht.mono ?_
    rintro e W1 ⟨a', n', c', rfl, hown, hb⟩
    clear ht
    have hI1 := inv2_below HI.out hb
    have HI1 := Lib.hid hI1
    obtain ⟨_, h2, ⟨a, n, c, h3, h4⟩, h5⟩ := hI1
    obtain ⟨hn', hr', hc'⟩ := Pk.owned_row hown
    have hnl := inv2_len hH h4
    have hn2 : n' = 2 + t.size := by rw [hn'.out]; simp [Pk.le_length, Pk.sb_length]
    have hP := put_c h3 h4 hr' hn' hc' (by omega) h5.size
    obtain ⟨cs, fs⟩ := one_cell h2
    clear h2 h3 h4 h5 hown hr' hn' hc' hnl hn2
    have HB := Lib.hid hb
    clear hb
    go_wp2_with fail
    refine hP.mono ?_
    rintro e W2 hP2
    clear hP
    obtain ⟨⟨z, rfl⟩, hi2, hf2⟩ := inv2_put (x := .T t) HI1.out hq HB.out hP2
    have HF := Lib.hid hf2
    clear hf2 hP2
    go_wp2_with fail
    go_end0
    exact ⟨⟨_, rfl⟩, hi2, HF.out⟩
  | M t => cases hx
  | C n => cases hx

set_option maxRecDepth 100000 in
set_option maxHeartbeats 2000000 in
theorem does2C (hH : H.length = 8) (hq : w0.heap.size ≤ q) (hsz : size (parts r) ≤ 4088) (hcn : ∀ n, Part.C n ∈ parts r → n ≤ 1000000) :
    Does 34 #[.pointer (some ⟨s, 0, Option.none⟩)] r pv (Inv2 w0 p q s r vi vf H) (Ch2 q) isC := by
  refine ⟨fun x W => by simp only [List.append_toArray, List.cons_append, List.nil_append]; rfl, fun ps x post W hx hp hI => ?_⟩
  cases x with
  | C t =>
    have hs := size_pre hp
    simp only [psz] at hs
    have htm := hcn t (by rw [hp]; simp)
    have HI := Lib.hid (inv2_drew hI)
    obtain ⟨_, h2, _, _⟩ := hI
    obtain ⟨cs, fs⟩ := one_cell h2
    clear h2 hp
    simp only [List.append_toArray, List.cons_append, List.nil_append, pv]
    have ht := Pk.u32_any Option.none 0 0 [] t W.drew (by omega) rfl (.inl rfl) (by omega)
    have hcd : W.drew.cell? ⟨s, 0, Option.none⟩ = some (.func (.func 30) #[] #[.pointer (some ⟨q, 0, Option.none⟩)]) := cs
    have hw : IntKind.u32.wrap (t : Int) = (t : Int) := IntWalk.u32_in _ (by omega)
    rw [show Value.int IntKind.u32 (t : Int) = Value.int IntKind.u32 (IntKind.u32.wrap (t : Int)) from by rw [hw]] at ht
    have ht' := Lib.hid ht
    clear hw ht
    go_enter Try.func34, Try.ntmps34
    go_wp2_with fail
    go_region_held3 (fun w' => w'.cell? ⟨s, 0, Option.none⟩ = some (.func (.func 30) #[] #[.pointer (some ⟨q, 0, Option.none⟩)])) (first | exact cs | exact hcd | exact cs1 | exact cs2)
      (first
        | (go_at_call 35; refine ht'.out.mono ?_; rintro e W1 ⟨a', n', c', rfl, hown, hb⟩; have hI1 := Lib.hid (inv2_below HI.out hb); obtain ⟨cs1, hP⟩ := put_next hI1.out hown (by simp [Pk.le_length]) hH (by omega) hb; have HB := Lib.hid hb; clear hown hb)
        | (go_at_call 30; refine hP.mono ?_; rintro e W2 hP2; clear hP; obtain ⟨⟨z, rfl⟩, hi2, hf2⟩ := inv2_put (x := .C t) hI1.out hq HB.out hP2; have cs2 := (one_cell hi2.2.1).1; have HF := Lib.hid hf2; clear hf2 hP2))
    go_end0
    exact ⟨⟨_, rfl⟩, hi2, HF.out⟩
  | M t => cases hx
  | T n => cases hx

set_option maxRecDepth 100000 in
set_option maxHeartbeats 2000000 in
theorem does2M (hH : H.length = 8) (hq : w0.heap.size ≤ q) (hsz : size (parts r) ≤ 4088) (hneg : neg (parts r) = false) (htm : ∀ t, Part.M t ∈ parts r → t < 9223372036854775808) :
    Does 33 #[.pointer (some ⟨s, 0, Option.none⟩)] r pv (Inv2 w0 p q s r vi vf H) (Ch2 q) isM := by
  refine ⟨fun x W => by simp only [List.append_toArray, List.cons_append, List.nil_append]; rfl, fun ps x post W hx hp hI => ?_⟩
  cases x with
  | M t0 =>
    have hs := size_pre hp
    simp only [psz] at hs
    have htt := htm t0 (by rw [hp]; simp)
    have htn : 0 ≤ t0 := by have := neg_pre hp hneg; simpa [pneg] using this
    obtain ⟨t, rfl⟩ := Int.eq_ofNat_of_zero_le htn
    have hpb : pb (.M (t : Int)) = Pk.le t 8 := by simp [pb]
    have HI := Lib.hid (inv2_drew hI)
    obtain ⟨_, h2, _, _⟩ := hI
    obtain ⟨cs, fs⟩ := one_cell h2
    clear h2 hp htn
    simp only [List.append_toArray, List.cons_append, List.nil_append, pv]
    have ht := Pk.u64_any Option.none 0 0 [] t W.drew (by omega) rfl (.inl rfl) (by omega)
    have hcd : W.drew.cell? ⟨s, 0, Option.none⟩ = some (.func (.func 30) #[] #[.pointer (some ⟨q, 0, Option.none⟩)]) := cs
    have hw : IntKind.u64.wrap (t : Int) = (t : Int) := by rw [IntKind.wrap_u64]; omega
    rw [show Value.int IntKind.u64 (t : Int) = Value.int IntKind.u64 (IntKind.u64.wrap (t : Int)) from by rw [hw]] at ht
    have ht' := Lib.hid ht
    have HPB := Lib.hid hpb
    clear hw ht hpb
    go_enter Try.func33, Try.ntmps33
    go_wp2_with fail
    go_region_held3 (fun w' => w'.cell? ⟨s, 0, Option.none⟩ = some (.func (.func 30) #[] #[.pointer (some ⟨q, 0, Option.none⟩)])) (first | exact cs | exact hcd | exact cs1 | exact cs2)
      (first
        | (go_at_call 28; refine ht'.out.mono ?_; rintro e W1 ⟨a', n', c', rfl, hown, hb⟩; have hI1 := Lib.hid (inv2_below HI.out hb); obtain ⟨cs1, hP⟩ := put_next hI1.out hown (by simp [Pk.le_length]) hH (by omega) hb; have HB := Lib.hid hb; clear hown hb)
        | (go_at_call 30; refine hP.mono ?_; rintro e W2 hP2; clear hP; rw [List.nil_append, ← HPB.out] at hP2; obtain ⟨⟨z, rfl⟩, hi2, hf2⟩ := inv2_put (x := .M (t : Int)) hI1.out hq HB.out hP2; have cs2 := (one_cell hi2.2.1).1; have HF := Lib.hid hf2; clear hf2 hP2))
    go_end0
    exact ⟨⟨_, rfl⟩, hi2, HF.out⟩
  | C t => cases hx
  | T n => cases hx

/-- the second way through a run's parts -/
theorem second_way {w : World} (hH : H.length = 8) (hni : r.ins.length ≤ 1000000) (hnf : r.found.length ≤ 1000000) (hsz : size (parts r) ≤ 4088) (hneg : neg (parts r) = false) (htm : ∀ t, Part.M t ∈ parts r → t < 9223372036854775808) (hcn : ∀ n, Part.C n ∈ parts r → n ≤ 1000000)
    (hi : InRow w0 vi r.ins) (hf : FdRow w0 vf r.found) (hb : Below w0.heap.size w0 w) (hq : w0.heap.size ≤ q) (hs : w.heap[s]? = some (.cells #[.func (.func 30) #[] #[.pointer (some ⟨q, 0, Option.none⟩)]] 68 (0, 0)))
    {a : Option Addr} {n c : Nat} (h3 : w.heap[q]? = some (.cells #[.slice a n c] 27 (0, 0))) (h4 : w.ownsRow w0.heap.size 5 1 (.slice a n c) n (Pk.bytesV H)) :
    Calls Try.prog 24 #[.agg (runC r vi vf), .func (.func 31) #[] #[.pointer (some ⟨s, 0, Option.none⟩)], .func (.func 33) #[] #[.pointer (some ⟨s, 0, Option.none⟩)], .func (.func 34) #[] #[.pointer (some ⟨s, 0, Option.none⟩)]] w
      fun e w' => (∃ z, e = .returned z) ∧ (∃ a n c, w'.heap[q]? = some (.cells #[.slice a n c] 27 (0, 0)) ∧ w'.ownsRow w0.heap.size 5 1 (.slice a n c) n (Pk.bytesV (H ++ bytes (parts r)))) ∧ Below w0.heap.size w0 w' := by
  refine (each_c (Inv := Inv2 w0 w.heap.size q s r vi vf H) (Ch := Ch2 q) hni hnf (does2T hH hq hsz) (does2M hH hq hsz hneg htm) (does2C hH hq hsz hcn) ?_ ?_ ?_).mono ?_
  · intro ps W C h
    refine ⟨inv2_below h (Pk.below_alloc _ _), ?_⟩
    obtain ⟨_, _, ⟨a, n, c, h3, _⟩, _⟩ := h
    rintro (e | ⟨C', h⟩)
    · have := lt_some h3
      omega
    · rw [heap_alloc_new] at h
      simp at h
  · rintro ps W ⟨h1, _, _, h5⟩
    exact box_of h1 hi hf h5
  · have hk : ∀ k, k < w.heap.size → (w.alloc (.cells (runC r vi vf) 33)).heap[k]? = w.heap[k]? := fun k hk => Below.heap_alloc _ _ k hk
    exact ⟨heap_alloc_new w _, (hk _ (lt_some hs)).trans hs, ⟨a, n, c, (hk _ (lt_some h3)).trans h3, owns_below (by simpa [bytes] using h4) (Pk.below_alloc _ _)⟩, hb.alloc hb.size _⟩
  · rintro e w' ⟨hz, _, _, h3, h5⟩
    exact ⟨hz, h3, h5⟩
end

/-- []byte(s), as a list of numbers -/
theorem conv_str (w : World) (s : ByteArray) : ∃ cap W1, (convert 9 27 (.string s)).run Try.prog w = .ok (.slice (some ⟨w.heap.size, 0, Option.none⟩) s.size cap) W1 ∧ Pk.Row W1 (some ⟨w.heap.size, 0, Option.none⟩) (Pk.sb s) ∧ Below w.heap.size w W1 := by
  refine ⟨_, _, Lib.run_convert_string_bytes w 9 27 5 s Try.underlying9 Try.underlying27 Try.underlying5, .inr ⟨_, _, rfl, by rw [Lib.bytesWorld_size]; omega, fun i hi => ?_⟩, ⟨rfl, rfl, rfl, by rw [Lib.bytesWorld_size]; omega, fun k hk => Lib.bytesWorld_at_old w 5 s k hk⟩⟩
  rw [Pk.sb_length] at hi
  rw [Nat.zero_add, Lib.bytesWorld_cell w 5 s i hi]
  congr 2
  simp [Pk.sb, List.getD]
  have : i < s.data.toList.length := by simpa using hi
  simp [hi]

theorem hash_c {w : World} {r : Run} {vi vf : Value} (hc : r.cmd.size ≤ 140737488351232) :
    Calls Try.prog 29 #[.agg (runC r vi vf)] w fun e w' => e = .returned (.int .u64 (Crc.hash (Pk.sb r.cmd) : Int)) ∧ Below w.heap.size w w' := by
  obtain ⟨W0, hW0⟩ : ∃ W, w.alloc (.cells (runC r vi vf) 33) = W := ⟨_, rfl⟩
  have c1 : W0.cell? ⟨w.heap.size, 1, Option.none⟩ = some (.string r.cmd) := by rw [← hW0, World.cell?_alloc_at _ _ _ _ rfl]; rfl
  have hB0 : Below w.heap.size w W0 := by rw [← hW0]; exact Pk.below_alloc _ _
  obtain ⟨cap, W1, hrun, hrow, hB1⟩ := conv_str W0 r.cmd
  have hh := Ch.hash_any (some ⟨W0.heap.size, 0, Option.none⟩) r.cmd.size cap (Pk.sb r.cmd) W1 (Pk.sb_lt _) (by rw [Pk.sb_length]; exact hc) (by rw [Pk.sb_length]) hrow
  have HB := Lib.hid (hB0.trans (hB1.mono hB0.size))
  clear hB0 hB1 hrow
  unfold runC at hW0 ⊢
  go_enter Try.func29, Try.ntmps29
  go_wp2_with fail
  refine hh.mono ?_
  rintro e W2 ⟨rfl, hb⟩
  go_wp2_with fail
  go_ret
  exact ⟨rfl, HB.out.trans (hb.mono HB.out.size)⟩
end Go.Proofs.Ytdijpoemimebmaa.Rn
