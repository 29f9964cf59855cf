/-
  .. A LINE; the two answers; what stands behind a text that tells something.
-/
import Derived.Test.YtgledabcfonbeaaGreatDoorCkJ1
import Derived.Test.YtgledabcfonbeaaGreatDoorDfShelf
import Derived.Test.YtgledabcfonbeaaGreatDoorPaMath
import Derived.WalkKit
import Derived.WalkLawsBesides
import Derived.WalkMore
import Derived.Lib.Hide
import Derived.OpenShut
import Derived.Laws.AppendOwnNone
import Derived.Deep.QuietTactic
import Derived.BigQuiet
import Derived.Deep.RegionHeld3
import Derived.RangeFuncBox
import Derived.RangeFuncLeaves
import Derived.Shelf.Abstract
import Derived.OwnWalkIn
import Derived.TacticsInMore
import Derived.LoopNIn
import Derived.LoopIn
import Derived.Maps.AppendAt
namespace Go.Proofs.YtgledabcfonbeaaGreatDoor.Df
open Go.Proofs.YtgledabcfonbeaaGreatDoor

/-! ### words -/
theorem words_mem : ∀ (p cur x : Bs), x ∈ words cur p → ∀ c ∈ x, c ∈ cur ∨ c ∈ p
  | [], cur, x, hx, c, hc => by
    rw [words] at hx
    obtain ⟨rfl, _⟩ := fl_mem hx
    exact .inl hc
  | b :: r, cur, x, hx, c, hc => by
    rw [words] at hx
    split at hx
    · rcases List.mem_append.1 hx with hx | hx
      · obtain ⟨rfl, _⟩ := fl_mem hx
        exact .inl hc
      · rcases words_mem r [] x hx c hc with h | h
        · cases h
        · exact .inr (List.mem_cons_of_mem _ h)
    · rcases words_mem r _ x hx c hc with h | h
      · rcases List.mem_append.1 h with h | h
        · exact .inl h
        · rw [List.mem_singleton.1 h]; exact .inr (by simp)
      · exact .inr (List.mem_cons_of_mem _ h)
theorem words_has {c : UInt8} (hc : c ≠ 32) : ∀ (p cur : Bs), (c ∈ cur ∨ c ∈ p) → ∃ x ∈ words cur p, c ∈ x
  | [], cur, h => by
    rcases h with h | h
    · have hne : cur ≠ [] := fun e => by rw [e] at h; cases h
      exact ⟨cur, by rw [words, fl, if_neg hne]; simp, h⟩
    · cases h
  | b :: r, cur, h => by
    rw [words]
    by_cases hb : b = 32
    · rw [if_pos hb]
      rcases h with h | h
      · have hne : cur ≠ [] := fun e => by rw [e] at h; cases h
        exact ⟨cur, by rw [fl, if_neg hne]; simp, h⟩
      · rcases List.mem_cons.1 h with rfl | h
        · exact absurd hb hc
        · obtain ⟨x, hx, hcx⟩ := words_has hc r [] (.inr h)
          exact ⟨x, List.mem_append_right _ hx, hcx⟩
    · rw [if_neg hb]
      refine words_has hc r _ ?_
      rcases h with h | h
      · exact .inl (List.mem_append_left _ h)
      · rcases List.mem_cons.1 h with rfl | h
        · exact .inl (by simp)
        · exact .inr h
theorem tok_words : ∀ (p cur : Bs), 10 ∉ p → 58 ∉ p → tok cur p = words cur p
  | [], cur, _, _ => rfl
  | b :: r, cur, h1, h2 => by
    have hb1 : b ≠ 10 := fun e => h1 (by simp [e])
    have hb2 : b ≠ 58 := fun e => h2 (by simp [e])
    have hr1 : 10 ∉ r := fun e => h1 (by simp [e])
    have hr2 : 58 ∉ r := fun e => h2 (by simp [e])
    rw [tok, words]
    by_cases hb : b = 32
    · subst hb
      rw [if_pos (by decide), if_pos rfl, tok_words r [] hr1 hr2]
      simp [tk]
    · rw [if_neg (by simp [sepB, hb, hb1, hb2]), if_neg hb, tok_words r _ hr1 hr2]
theorem tok_has58 : ∀ (p cur : Bs), 58 ∈ p → [58] ∈ tok cur p
  | [], _, h => by cases h
  | b :: r, cur, h => by
    rw [tok]
    rcases List.mem_cons.1 h with e | h
    · subst e
      rw [if_pos (by decide)]
      simp [tk]
    · split
      · exact List.mem_append_right _ (tok_has58 r [] h)
      · exact tok_has58 r _ h
theorem clean_bad {w : Bs} {c : UInt8} (h : c ∈ w) (hc : plainB c = false) : (cleanL w).2 ≠ 0 := by
  unfold cleanL
  split
  · decide
  · have : w.all plainB = false := by
      cases ha : w.all plainB with
      | false => rfl
      | true => have := List.all_eq_true.1 ha c h; rw [hc] at this; cases this
    rw [if_pos (.inl this)]
    decide
theorem cutB_none {c : UInt8} {l : Bs} (h : c ∉ l) : cutB c l = none := by
  unfold cutB
  split
  · rename_i i e
    obtain ⟨h1, _⟩ := Lib.indexByte_some (o := i) e
    exact absurd (List.mem_of_getElem? h1) h
  · rfl
theorem cutB_some {c : UInt8} {l : Bs} (h : c ∈ l) : ∃ a b, cutB c l = some (a, b) ∧ l = a ++ c :: b ∧ c ∉ a := by
  unfold cutB
  split
  · rename_i i e
    obtain ⟨h1, h2⟩ := Lib.indexByte_some (o := i) e
    obtain ⟨hi, he⟩ := List.getElem?_eq_some_iff.1 h1
    refine ⟨_, _, rfl, ?_, fun hm => ?_⟩
    · rw [← he]; simp
    · obtain ⟨k, hk, ek⟩ := List.mem_iff_getElem.1 hm
      rw [List.length_take] at hk
      refine h2 k (by omega) ?_
      rw [List.getElem?_eq_getElem (by omega)]
      rw [List.getElem_take] at ek
      rw [ek]
  · rename_i k e
    have hge := Lib.indexByte_ge l c
    have h1 : Lib.indexByte l c = -1 := by
      have : Lib.indexByte l c < 0 := by rw [e]; exact Int.negSucc_lt_zero _
      omega
    obtain ⟨k, hk, ek⟩ := List.mem_iff_getElem.1 h
    exact absurd (by rw [List.getElem?_eq_getElem hk, ek]) (Lib.indexByte_none h1 k)

/-! ### a line -/
theorem tellW_two (o c : Bs) (ds : List Bs) : tellW (o :: c :: ds) = if o ≠ [58] ∧ c = [58] ∧ (cleanL o).2 = 0 ∧ ds.all okTok = true then some ((cleanL o).1, onceL (ds.map fun w => (cleanL w).1)) else none := rfl
def tellA (a b : Bs) : Option (Bs × List Bs) := match cleanAll (words [] a), cleanAll (words [] b) with
  | some [o], some ds => some (o, onceL ds)
  | _, _ => none
def tellL (x : Bs) : Option (Bs × List Bs) := match cutB 58 x with
  | none => none
  | some (a, b) => tellA a b
theorem cleanAll_len {ws os : List Bs} (h : cleanAll ws = some os) : os.length = ws.length := by
  unfold cleanAll at h
  split at h
  · cases h; simp
  · cases h
theorem tell_line (x : Bs) (h10 : 10 ∉ x) : tellW (tok [] x) = tellL x := by
  unfold tellL
  by_cases h58 : 58 ∈ x
  · obtain ⟨a, b, hc, rfl, ha⟩ := cutB_some h58
    rw [hc]
    show _ = tellA a b
    have ha10 : 10 ∉ a := fun e => h10 (by simp [e])
    have hb10 : 10 ∉ b := fun e => h10 (by simp [e])
    rw [tok_sep (by decide), tok_words a [] ha10 ha]
    have ht : tk 58 = [[58]] := by decide
    rw [ht]
    unfold tellA
    have hno : ∀ w ∈ words [] a, w ≠ [58] := fun w hw e => by
      rcases words_mem a [] w hw 58 (by rw [e]; simp) with h | h
      · cases h
      · exact ha h
    rcases hA : words [] a with _ | ⟨o, _ | ⟨o2, os⟩⟩
    · have e : cleanAll ([] : List Bs) = some [] := rfl
      rw [e]
      show tellW ([58] :: tok [] b) = none
      cases tok [] b with
      | nil => rfl
      | cons c ds => rw [tellW_two, if_neg (fun e => e.1 rfl)]
    · show tellW (o :: [58] :: tok [] b) = _
      have hE : (tok [] b).all okTok = (words [] b).all (fun w => decide ((cleanL w).2 = 0)) ∧ ((tok [] b).all okTok = true → tok [] b = words [] b) := by
        by_cases hb58 : 58 ∈ b
        · have h1 : (tok [] b).all okTok = false := by
            cases hz : (tok [] b).all okTok with
            | false => rfl
            | true => have := List.all_eq_true.1 hz _ (tok_has58 b [] hb58); simp [okTok] at this
          have h2 : (words [] b).all (fun w => decide ((cleanL w).2 = 0)) = false := by
            obtain ⟨w, hw, hm⟩ := words_has (c := 58) (by decide) b [] (.inr hb58)
            cases hz : (words [] b).all (fun w => decide ((cleanL w).2 = 0)) with
            | false => rfl
            | true => exact absurd (of_decide_eq_true (List.all_eq_true.1 hz w hw)) (clean_bad hm (by decide))
          rw [h1, h2]
          exact ⟨rfl, fun h => by cases h⟩
        · have e := tok_words b [] hb10 hb58
          rw [e]
          refine ⟨?_, fun _ => rfl⟩
          have : ∀ w ∈ words [] b, okTok w = decide ((cleanL w).2 = 0) := fun w hw => by
            have n1 : w ≠ [58] := fun e => by
              rcases words_mem b [] w hw 58 (by rw [e]; simp) with h | h
              · cases h
              · exact hb58 h
            have n2 : w ≠ [10] := fun e => by
              rcases words_mem b [] w hw 10 (by rw [e]; simp) with h | h
              · cases h
              · exact hb10 h
            unfold okTok
            simp [n1, n2]
          rw [Bool.eq_iff_iff, List.all_eq_true, List.all_eq_true]
          exact ⟨fun h w hw => by rw [← this w hw]; exact h w hw, fun h w hw => by rw [this w hw]; exact h w hw⟩
      rw [tellW_two]
      unfold cleanAll
      have ho := hno o (by rw [hA]; simp)
      by_cases hco : (cleanL o).2 = 0
      · have e1 : ([o].all fun w => decide ((cleanL w).2 = 0)) = true := by simp [hco]
        rw [if_pos e1, ← hE.1]
        by_cases hz : (tok [] b).all okTok = true
        · rw [if_pos ⟨ho, rfl, hco, hz⟩, if_pos hz, hE.2 hz]
          rfl
        · rw [if_neg (fun e => hz e.2.2.2), if_neg hz]
          rfl
      · have e1 : ¬ ([o].all fun w => decide ((cleanL w).2 = 0)) = true := by simp [hco]
        rw [if_neg (fun e => hco e.2.2.1), if_neg e1]
    · have h2 := hno o2 (by rw [hA]; simp)
      have e1 : tellW (o :: o2 :: os ++ [[58]] ++ tok [] b) = none := by
        show tellW (o :: o2 :: (os ++ [[58]] ++ tok [] b)) = none
        rw [tellW_two, if_neg (fun e => h2 e.2.1)]
      rw [e1]
      cases hz : cleanAll (o :: o2 :: os) with
      | none => rfl
      | some K =>
        have := cleanAll_len hz
        match K, this with
        | k1 :: k2 :: K, _ => rfl
  · rw [cutB_none h58, tok_words x [] h10 h58]
    show tellW (words [] x) = none
    match hw : words [] x with
    | [] => rfl
    | [_] => rfl
    | o :: c :: ds =>
      rw [tellW_two]
      refine if_neg fun e => ?_
      rcases words_mem x [] c (by rw [hw]; simp) 58 (by rw [e.2.1]; simp) with h | h
      · cases h
      · exact h58 h

theorem parse_eq (t : Bs) : refP t = parseP t := by
  unfold refP parseP
  split
  · rfl
  rw [tok_rep]
  have h10 : ∀ x ∈ splS 10 [] (rep t), 10 ∉ x := spl_no 10 (rep t) [] (by simp)
  have e1 : tok [] (rep t) = jn (splS 10 [] (rep t)) := (jn_spl (rep t) []).symm
  rw [e1]
  generalize splS 10 [] (rep t) = L at *
  have hf := filter_core L
  have hc10 : ∀ x ∈ core L, 10 ∉ x := fun x hx => h10 x (by
    unfold core at hx
    rw [List.mem_reverse] at hx
    have := List.dropWhile_subset _ hx
    rw [List.mem_reverse] at this
    exact List.dropWhile_subset _ this)
  show tellW (trimNL (jn L)) = tellL (onlyL L)
  have hnone : tellL [] = none := rfl
  rcases core_ends L with h | ⟨x, hx, h | ⟨M, y, hy, h⟩⟩
  · rw [trim_core L h10, h]
    have : onlyL L = [] := by unfold onlyL; rw [← hf, h]; rfl
    rw [this, hnone]
    rfl
  · rw [trim_core L h10, h]
    have : onlyL L = x := by
      unfold onlyL
      rw [← hf, h, List.filter_cons_of_pos (by simp [hx])]
      rfl
    rw [this]
    exact tell_line x (hc10 x (by rw [h]; simp))
  · have : onlyL L = [] := by
      unfold onlyL
      rw [← hf, h, List.filter_cons_of_pos (by simp [hx]), List.filter_append, List.filter_cons_of_pos (by simp [hy]), List.filter_nil]
      cases M.filter (fun l => !blank l) <;> rfl
    rw [this, hnone]
    refine tell_nl ?_ (fun a r e => trim_head _ e)
    rw [trim_core L h10, h, jn_cons x (by simp)]
    simp
end Go.Proofs.YtgledabcfonbeaaGreatDoor.Df

/-! STRINGS AS LISTS OF BYTES; THE SMALL FUNCTIONS OF THE LIBRARY THAT THE PROGRAM CALLS. -/
namespace Go.Proofs.YtgledabcfonbeaaGreatDoor
open Go.RowKit

/-- the string of these bytes -/
def mk (l : Bs) : ByteArray := ⟨l.toArray⟩
theorem mk_bytes (l : Bs) : (mk l).data.toList = l := rfl
theorem mk_of (s : ByteArray) : mk s.data.toList = s := Lib.mk_data s
theorem mk_size (l : Bs) : (mk l).size = l.length := by rw [Lib.size_eq, mk_bytes]
theorem mk_inj {a b : Bs} (h : mk a = mk b) : a = b := by rw [← mk_bytes a, h, mk_bytes]
theorem mk_extract (l : Bs) (a b : Nat) : (mk l).extract a b = mk ((l.drop a).take (b - a)) := by rw [← mk_of ((mk l).extract a b), Lib.extract_data, mk_bytes]
theorem mk_append (a b : Bs) : mk a ++ mk b = mk (a ++ b) := by
  rw [← mk_of (mk a ++ mk b)]
  congr 1
theorem str_eq {a b : ByteArray} (h : a = b) : Value.string a = .string b := by rw [h]
theorem ret_eq {k : IntKind} {a b : Int} (h : a = b) : Ending.returned (.int k a) = .returned (.int k b) := by rw [h]
theorem val_eq {k : IntKind} {a b : Int} (h : a = b) : Value.int k a = Value.int k b := by rw [h]
theorem below_alloc (w : World) (o : Obj) : Below w.heap.size w (w.alloc o) := (Below.refl _ _).alloc (Nat.le_refl _) _
theorem below_step {w W w1 : World} (hb : Below W.heap.size W w1) (h : Below w.heap.size w W) : Below w.heap.size w w1 := h.trans (hb.mono h.size)

set_option maxHeartbeats 1000000 in
/-- stringslite.Cut at a slash -/
theorem slCut_c (s : ByteArray) (w : World) (hs : s.size < 4611686018427387904) :
    Calls Tryz.prog 126 #[.string s, .string ⟨#[47]⟩] w fun e w' => (∃ n, w' = w.drewN n) ∧
      ((Lib.indexByte s.data.toList 47 = -1 ∧ e = .returned (.tuple #[.string s, .string ⟨#[]⟩, .bool false])) ∨
       (∃ o : Nat, Lib.indexByte s.data.toList 47 = (o : Int) ∧ e = .returned (.tuple #[.string (s.extract 0 o), .string (s.extract (o + 1) s.size), .bool true]))) := by
  have hge := Lib.indexByte_ge s.data.toList 47
  have hlt : ∀ o : Nat, Lib.indexByte s.data.toList 47 = (o : Int) → o < s.size := fun o h => by rw [Lib.size_eq]; exact (cut_some h).1
  go_enter Tryz.func126, Tryz.ntmps126
  go_wp2_with fail
  refine (shstringsliteIndexone s 47 w).mono ?_
  rintro e w1 ⟨rfl, rfl⟩
  obtain ⟨H, hH⟩ : ∃ H, Lib.indexByte s.data.toList 47 = H := ⟨_, rfl⟩
  rw [hH] at hge hlt ⊢
  by_cases hn : H = -1
  · subst hn
    go_wp2
    go_ret3
    exact ⟨⟨0, rfl⟩, .inl ⟨hH, rfl⟩⟩
  · obtain ⟨o, rfl⟩ : ∃ o : Nat, H = (o : Int) := ⟨H.toNat, by omega⟩
    have ho := hlt o rfl
    go_wp2
    go_quiet (fail)
    go_wp2
    go_ret3
    exact ⟨⟨_, rfl⟩, .inr ⟨o, hH, rfl⟩⟩

set_option maxHeartbeats 1000000 in
theorem cut0_c (s : ByteArray) (w : World) (hs : s.size < 4611686018427387904) :
    Calls Tryz.prog 115 #[.string s, .string ⟨#[47]⟩] w fun e w' => (∃ n, w' = w.drewN n) ∧
      ((Lib.indexByte s.data.toList 47 = -1 ∧ e = .returned (.tuple #[.string s, .string ⟨#[]⟩, .bool false])) ∨
       (∃ o : Nat, Lib.indexByte s.data.toList 47 = (o : Int) ∧ e = .returned (.tuple #[.string (s.extract 0 o), .string (s.extract (o + 1) s.size), .bool true]))) := by
  go_enter Tryz.func115, Tryz.ntmps115
  go_wp2_with fail
  refine (slCut_c s w hs).mono ?_
  rintro e w1 ⟨⟨n, rfl⟩, ⟨hH, rfl⟩ | ⟨o, hH, rfl⟩⟩
  · go_wp2
    go_ret3
    exact ⟨⟨_, rfl⟩, .inl ⟨hH, rfl⟩⟩
  · go_wp2
    go_ret3
    exact ⟨⟨_, rfl⟩, .inr ⟨o, hH, rfl⟩⟩

/-- strings.Cut at a slash, told by the parts -/
theorem cut_c (r : Bs) (w : World) (hs : r.length < 4611686018427387904) :
    Calls Tryz.prog 115 #[.string (mk r), .string ⟨#[47]⟩] w fun e w' => (∃ n, w' = w.drewN n) ∧
      ((splitC [] r = [r] ∧ e = .returned (.tuple #[.string (mk r), .string ⟨#[]⟩, .bool false])) ∨
       (∃ a b : Bs, splitC [] r = a :: splitC [] b ∧ b.length < r.length ∧ e = .returned (.tuple #[.string (mk a), .string (mk b), .bool true]))) := by
  refine (cut0_c (mk r) w (by rw [mk_size]; exact hs)).mono ?_
  rintro e w1 ⟨hn, ⟨hH, rfl⟩ | ⟨o, hH, rfl⟩⟩
  · exact ⟨hn, .inl ⟨cut_none hH, rfl⟩⟩
  · obtain ⟨ho, hc⟩ := cut_some (l := r) hH
    refine ⟨hn, .inr ⟨r.take o, r.drop (o + 1), hc, by rw [List.length_drop]; omega, ?_⟩⟩
    rw [mk_extract, mk_extract, mk_size]
    have e1 : (r.drop 0).take (o - 0) = r.take o := by simp
    have e2 : (r.drop (o + 1)).take (r.length - (o + 1)) = r.drop (o + 1) := List.take_of_length_le (by rw [List.length_drop]; omega)
    rw [e1, e2]

set_option maxHeartbeats 1000000 in
/-- strings.Clone -/
theorem clone_c (s : ByteArray) (w : World) (hs : s.size ≤ 281474976710656) :
    Calls Tryz.prog 44 #[.string s] w fun e w' => e = .returned (.string s) ∧ Below w.heap.size w w' := by
  go_enter Tryz.func44, Tryz.ntmps44
  go_wp2_with fail
  refine (shstringsliteClone s w hs).mono ?_
  rintro e w1 ⟨rfl, hb⟩
  go_wp2
  go_ret
  exact ⟨rfl, hb⟩
end Go.Proofs.YtgledabcfonbeaaGreatDoor

/-! THE PARTS OF A YtgledabcfonbeaaGreatDoor, ONE BY ONE: the function that is ranged over keeps its word for every loop that keeps what lay ahead of it. -/
namespace Go.Proofs.YtgledabcfonbeaaGreatDoor
open Go.RowKit Go.Shelf

attribute [local go_sem] Oper.semAt_some

def strLen : Value → Nat
  | .string s => s.size
  | _ => 0
def moreN : Value → Nat
  | .bool true => 1
  | _ => 0

set_option maxHeartbeats 1000000 in
/-- parts: the name is boxed; the function value captures the box -/
theorem parts_in (n : Nat) (s : ByteArray) (w : World) :
    CallsIn Fence.wide n Tryz.prog 102 #[.string s] w fun e w' => e = .returned (.func (.func 114) #[] #[.pointer (some ⟨w.heap.size, 0, none⟩)]) ∧ w' = w.alloc (.cells #[.string s] 9) := by
  refine callsIn_of_wp Tryz.func102 rfl trivial ?_ rfl
  simp only [Tryz.ntmps102, List.size_toArray, List.length_cons, List.length_nil, Nat.reduceAdd, Nat.reduceSub, Array.replicate_succ, Array.replicate_zero, List.push_toArray, List.append_toArray, List.nil_append, List.cons_append]
  gi_wp2
  go_ret
  exact ⟨rfl, rfl⟩

set_option maxRecDepth 100000 in
set_option maxHeartbeats 1000000 in
theorem parts1_in (n : Nat) (hn : 1 ≤ n) (l Bn n₀ : Nat) (s : Bs) (hs : s.length < 4611686018427387904) (J Jx : List Bs → World → Prop)
    (hJd : ∀ pre W k, J pre W → J pre (W.drewN k))
    (hY : ∀ pre x W, J pre W → pre.length < (splitC [] s).length → YieldAt Fence.wide (n - 1) Tryz.prog l #[.string (mk x)] W fun e W' =>
      (e = .returned (.bool true) ∧ J (pre ++ [x]) W' ∧ Below n₀ W W') ∨ (e = .returned (.bool false) ∧ Jx (pre ++ [x]) W'))
    (W : World) (hBn : W.cell? ⟨Bn, 0, none⟩ = some (.string (mk s))) (h0 : J [] W) :
    CallsIn Fence.wide n Tryz.prog 114 #[.func (.yield l) #[] #[], .pointer (some ⟨Bn, 0, none⟩)] W fun e W' => (∃ v, e = .returned v) ∧
      ((∃ ys, ys = splitC [] s ∧ J ys W') ∨ (∃ pre, pre <+: splitC [] s ∧ Jx pre W')) := by
  obtain ⟨xs, hxs⟩ : ∃ xs, splitC [] s = xs := ⟨_, rfl⟩
  rw [hxs] at hY ⊢
  refine callsIn_of_wp Tryz.func114 rfl trivial ?_ rfl
  simp only [Tryz.ntmps114, List.size_toArray, List.length_cons, List.length_nil, Nat.reduceAdd, Nat.reduceSub, Array.replicate_succ, Array.replicate_zero, List.push_toArray, List.append_toArray, List.nil_append, List.cons_append]
  gi_wp2
  gi_loopw [3, 4] (fun p m wr => ∃ (pre : List Bs) (r : Bs) (b : Bool), p = .string (mk r) ∧ m = .bool b ∧ r.length ≤ s.length ∧ (if b = true then pre ++ splitC [] r = xs else pre = xs) ∧ J pre wr)
    (fun p m _ => moreN m * (strLen p + 1))
  case atStart =>
    exact ⟨[], s, true, rfl, rfl, Nat.le_refl _, by simpa using hxs, h0⟩
  case round =>
    obtain ⟨pre, r, b, rfl, rfl, hr, hx, hJs⟩ := hrel
    cases b with
    | false =>
      rw [if_neg (by decide)] at hx
      gi_wp2
      go_end0
      exact ⟨⟨_, rfl⟩, .inl ⟨pre, hx, hJs⟩⟩
    | true =>
      rw [if_pos rfl] at hx
      gi_wp2
      refine ⟨trivial, (callsIn_wide.2 (cut_c r wr (by omega))).mono ?_⟩
      rintro e W2 ⟨⟨k, rfl⟩, ⟨hc, rfl⟩ | ⟨x, b, hc, hlt, rfl⟩⟩
      · rw [hc] at hx
        obtain ⟨fn, tmps, assign, body, hy, hR⟩ := hY pre r (wr.drewN k) (hJd _ _ _ hJs) (by rw [← hx]; simp)
        gi_wp2
        refine hR.mono ?_
        rintro e W3 (⟨rfl, hJ3, hk3⟩ | ⟨rfl, hJx3⟩)
        · gi_wp2
          go_roundw
          case rel => exact ⟨pre ++ [r], [], false, rfl, rfl, Nat.zero_le _, hx, hJ3⟩
          case measure => simp [moreN]
        · gi_wp2
          refine bodyPost_ret (results_none rfl _ _ _) rfl ?_
          exact ⟨⟨_, rfl⟩, .inr ⟨pre ++ [r], by rw [hx]; exact List.prefix_refl _, hJx3⟩⟩
      · rw [hc] at hx
        obtain ⟨fn, tmps, assign, body, hy, hR⟩ := hY pre x (wr.drewN k) (hJd _ _ _ hJs) (by rw [← hx]; simp)
        gi_wp2
        refine hR.mono ?_
        rintro e W3 (⟨rfl, hJ3, hk3⟩ | ⟨rfl, hJx3⟩)
        · gi_wp2
          go_roundw
          case rel => exact ⟨pre ++ [x], b, true, rfl, rfl, by omega, by rw [if_pos rfl, ← hx]; simp, hJ3⟩
          case measure => simp only [moreN, strLen, mk_size]; omega
        · gi_wp2
          refine bodyPost_ret (results_none rfl _ _ _) rfl ?_
          exact ⟨⟨_, rfl⟩, .inr ⟨pre ++ [x], ⟨splitC [] b, by rw [← hx]; simp⟩, hJx3⟩⟩

theorem parts_stops (n : Nat) (hn : 1 ≤ n) (Bn n₀ : Nat) (s : Bs) (hs : s.length < 4611686018427387904) (w : World) (hBn : Bn < w.heap.size)
    (hc : w.cell? ⟨Bn, 0, none⟩ = some (.string (mk s))) :
    SeqStopsK Fence.wide n Tryz.prog 114 #[.pointer (some ⟨Bn, 0, none⟩)] (fun x : Bs => #[Value.string (mk x)]) (Below n₀) (fun ys => ys = splitC [] s) (fun pre => pre <+: splitC [] s) (splitC [] s).length w :=
  fun l J Jx W hW hJ _ hY h0 =>
    parts1_in n hn l Bn n₀ s hs J Jx (fun pre W k h => hJ pre W _ none h ⟨rfl, rfl, rfl, Nat.le_refl _, fun _ _ _ => rfl⟩ (by simp)) hY W ((hW.cell (p := ⟨Bn, 0, none⟩) hBn).trans hc) h0
end Go.Proofs.YtgledabcfonbeaaGreatDoor
