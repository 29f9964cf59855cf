/-
  A LOG'S DEEDS ON A DISK, whatever becomes of them: Append, Sync.
-/
import Derived.Test.YtfmelhcpccghdaaGreatRlOne
import Derived.Test.YtfmelhcpccghdaaGreatLogD
import Derived.Test.YtfmelhcpccghdaaGreatRlRef
import Derived.Test.YtfmelhcpccghdaaGreatRlPure
namespace Go.Proofs.YtfmelhcpccghdaaGreat.Rl
open Go.RowKit Go.Maps

variable {X : Nat → Prop} {K : Nat} {w : World} {p lp : Nat} {d : Ds} {nm : List UInt8} {k : UInt8}

theorem Mat.below {v : Value} {rs : List (List UInt8)} (h : Mat w v rs) {w' : World} (hb : Below w.heap.size w w') : Mat w' v rs := by
  obtain ⟨a, c, rfl, h⟩ := h
  refine ⟨a, c, rfl, fun j r hj => ?_⟩
  obtain ⟨b, o, u, h1, h2, h3, h4⟩ := h j r hj
  exact ⟨b, o, u, h1, Nat.lt_of_lt_of_le h2 hb.size, (hb.cell (p := ⟨b, o + j, none⟩) h2).trans h3, h4.below hb⟩
theorem Mat.take {a : Option Addr} {n c : Nat} {rs : List (List UInt8)} (h : Mat w (.slice a n c) rs) {m : Nat} (hm : m ≤ n) : Mat w (.slice a m c) (rs.take m) := by
  obtain ⟨a', c', e, h⟩ := h
  cases e
  refine ⟨a, c, by rw [List.length_take, Nat.min_eq_left hm], fun j r hj => ?_⟩
  rw [List.getElem?_take] at hj
  split at hj
  · exact h j r hj
  · cases hj

theorem dk_len (h : Dk X K w p d) (l : List UInt8) (i : Nat) (hi : d.now l = some i) : (d.files i).bytes.length ≤ 65536 := by
  obtain ⟨q, h⟩ := h
  exact (h.file i (ref_now hi)).len
theorem dk_in (h : Dk X K w p d) : ∀ b, X b → b < w.heap.size := by obtain ⟨q, h⟩ := h; exact h.inX
theorem LogAt.lt (h : LogAt w lp p nm k) : lp < w.heap.size := Pk.lt_of_cell h.1
theorem LogAt.kept (h : LogAt w lp p nm k) {w' : World} (hb : w'.heap[lp]? = w.heap[lp]?) : LogAt w' lp p nm k :=
  ⟨(World.cell?_of_block (w := w) (a := ⟨lp, 0, none⟩) hb).trans h.1, (World.cell?_of_block (w := w) (a := ⟨lp, 1, none⟩) hb).trans h.2.1, (World.cell?_of_block (w := w) (a := ⟨lp, 2, none⟩) hb).trans h.2.2⟩
theorem LogAt.below (h : LogAt w lp p nm k) {w' : World} (hb : Below w.heap.size w w') : LogAt w' lp p nm k := h.kept (hb.block lp h.lt)
theorem LogAt.same (h : LogAt w lp p nm k) {w' : World} (hs : Same X w w') (hX : X lp) : LogAt w' lp p nm k := h.kept (hs.block lp h.lt hX)
theorem own_row_since {w' : World} {v : Value} {n : Nat} {xs : List Value} {e : TypeId} {s : Nat} (h : w'.ownsRow w.heap.size e s v n xs) : ∀ b, Value.rowBlock v = some b → Since X w w' b := by
  intro b hb
  rcases h.2 with ⟨rfl, _⟩ | ⟨g, cap, cur, rfl, h1⟩
  · cases hb
  · simp only [Value.rowBlock] at hb
    split at hb
    · cases hb
    · cases hb
      exact .inr (h.lt _ rfl)
theorem keep_own {w' : World} {base : Nat} {v : Value} {n : Nat} {xs : List Value} {e : TypeId} {s : Nat} (h : w.ownsRow base e s v n xs) (hb : Below w.heap.size w w') : w'.ownsRow base e s v n xs := row_kept h fun k hk => hb.block k (h.lt k hk).2

set_option maxRecDepth 100000 in
set_option maxHeartbeats 2000000 in
theorem append_any (h : Dk X K w p d) (hK : K + 3 ≤ 1000) (hlog : LogAt w lp p nm k) (hnm : nm.length ≤ 1000000) {a : Option Addr} {n c : Nat} {r : List UInt8} (hr : Bq w a n c r) (hn : n ≤ 4096) :
    Calls Tryz.prog 8 #[.pointer (some ⟨lp, 0, none⟩), .slice a n c] w (Told X (K + 3) w p (DeedQ d [nm] (AppendQ (K + 1) 65536 (spent d) nm (frame r)))) := by
  have hf := frame_c hr hn
  have hlen := hr.len
  have H := Lib.hid h
  have HLOG := Lib.hid hlog
  have HLEN := Lib.hid hlen
  clear h hr hlog hlen
  go_enter Tryz.func8, Tryz.ntmps8
  go_wp2_with fail
  refine hf.mono ?_
  rintro e w1 ⟨a1, c1, rfl, hown, hb1⟩
  clear hf
  have hn1 := orNone_c (HLOG.out.below hb1)
  have HB1 := Lib.hid hb1
  have HO := Lib.hid hown
  clear hb1 hown
  go_wp2_with fail
  refine hn1.mono ?_
  rintro e w2 ⟨rfl, hb2⟩
  clear hn1
  have HB2 := Lib.hid (HB1.out.trans (hb2.mono HB1.out.size))
  have HO2 := Lib.hid (keep_own HO.out hb2)
  clear hb2 HB1 HO
  obtain ⟨W, hW⟩ : ∃ W, w2.alloc (.cells #[.pointer (some ⟨p, 0, none⟩), .string (mk nm), .int .u8 k.toNat] 61) = W := ⟨_, rfl⟩
  have hBW : Below w.heap.size w W := by rw [← hW]; exact HB2.out.alloc HB2.out.size _
  have hOW : W.ownsRow w.heap.size 5 1 (.slice a1 (8 + n) c1) (frame r).length (bytesV (frame r)) := by
    rw [← hW, frame_length, ← HLEN.out]
    exact keep_own HO2.out (below_alloc _ _)
  have ha : Calls Tryz.prog 28 #[.pointer (some ⟨p, 0, none⟩), .string (mk nm), .slice a1 (8 + n) c1] W (Told (Since X w W) (K + 3) W p (DeedQ d [nm] (AppendQ (K + 1) 65536 (spent d) nm (frame r)))) := by
    have hdk := H.out.since hBW
    have hall := dk_len hdk
    obtain ⟨q, hq⟩ := hdk
    exact Append_c hq hK (Nat.le_refl _) hall hnm (row_bytes hOW) (own_row_since hOW) (by rw [frame_length, ← HLEN.out]; omega)
  have HBW := Lib.hid hBW
  rw [← hW] at ha HBW
  clear hBW hOW hW HB2 HO2
  go_wp2_with fail
  refine ha.mono ?_
  rintro e w3 ⟨m, d', rfl, hT⟩
  clear ha
  have HT := Lib.hid hT
  clear hT
  go_wp2
  go_ret
  exact Told.weak ⟨m, d', rfl, HT.out⟩ (fun k hk => .inl hk) (Same.of_below HBW.out)

/-! ### what follows in turn -/
def Ran (Q : Nat → Ds → Int → Ds → Prop) (d : Ds) : Nat → Ds → Prop
  | 0, e => e = d
  | j + 1, e => ∃ c, Ran Q d j c ∧ Q j c 0 e
def TurnQ (Q : Nat → Ds → Int → Ds → Prop) (n : Nat) (d : Ds) (m : Int) (d' : Ds) : Prop :=
  (m = 0 ∧ Ran Q d n d') ∨ (m ≠ 0 ∧ ∃ j c, j < n ∧ Ran Q d j c ∧ Q j c m d')
theorem inTurn_told {Y : Nat → Prop} {a n c : Nat} {F : Nat → Nat} {bs cs : Nat → Array Value} {Q : Nat → Ds → Int → Ds → Prop} (h : Dk Y K w p d) (hn : n ≤ 1000) (hY : Y a) (hcell : ∀ j, j < n → w.cell? ⟨a, j, none⟩ = some (.func (.func (F j)) (bs j) (cs j)))
    (hrun : ∀ j W', j < n → Sem.run Tryz.prog (callFunc (F j) (bs j ++ cs j)) W' = .ok (.enter (F j) (bs j ++ cs j)) W')
    (hdo : ∀ j W e, j < n → Same Y w W → Dk Y (K + 3 * j) W p e → Calls Tryz.prog (F j) (bs j ++ cs j) W (Told Y (K + 3 * j + 3) W p (Q j e))) :
    Calls Tryz.prog 22 #[.slice (some ⟨a, 0, none⟩) n c] w (Told Y (K + 3 * n) w p (TurnQ Q n d)) := by
  have hlt := dk_in h a hY
  refine (inTurn_c (w := w) (a := a) (n := n) (c := c) (R := fun j W => Same Y w W ∧ ∃ e, Dk Y (K + 3 * j) W p e ∧ Ran Q d j e) (E := fun m W => Same Y w W ∧ ∃ d', Dk Y (K + 3 * n) W p d' ∧ ∃ j c, j < n ∧ Ran Q d j c ∧ Q j c m d') hn (fun j W hj ⟨hs, e, he, hR⟩ => ?_) ⟨Same.refl _ _, d, h, rfl⟩).mono ?_
  · refine ⟨F j, bs j, cs j, (hs.cell (p := ⟨a, j, none⟩) hlt hY).trans (hcell j hj), fun W' => hrun j W' hj, (hdo j W e hj hs he).mono ?_⟩
    rintro e' W' ⟨m, d', h1, h2, h3, h4⟩
    exact ⟨m, h1, fun h0 => ⟨hs.trans h2, d', h3.mono (by omega), e, hR, h0 ▸ h4⟩, fun h0 => ⟨hs.trans h2, d', h3.mono (by omega), j, e, hj, hR, h4⟩⟩
  · rintro e' W' ⟨m, h1, h2, h3⟩
    by_cases hm : m = 0
    · obtain ⟨hs, d', hd, hr⟩ := h2 hm
      exact ⟨m, d', h1, hs, hd, .inl ⟨hm, hr⟩⟩
    · obtain ⟨hs, d', hd, hr⟩ := h3 hm
      exact ⟨m, d', h1, hs, hd, .inr ⟨hm, hr⟩⟩

def syncF (nm : List UInt8) (d : Ds) : Int → Ds → Prop := DeedQ d [nm] (OnQ (spent d) nm (fun i n d' => n = 0 ∧ d' = synced (spent d) i))
def dirF (d : Ds) : Int → Ds → Prop := DeedQ d [] (fun n d' => n = 0 ∧ d' = settled (spent d) (spent d).changes.length)
def writeF (K : Nat) (nm bs : List UInt8) (d : Ds) : Int → Ds → Prop := DeedQ d [nm] (WriteQ (K + 1) 65536 (spent d) nm bs)
def renameF (l m : List UInt8) (d : Ds) : Int → Ds → Prop := DeedQ d [l, m] (OnQ (spent d) l (fun i n d' => n = 0 ∧ d' = changed (spent d) ⟨l, m, some i⟩))
def removeF (l : List UInt8) (d : Ds) : Int → Ds → Prop := DeedQ d [l] (OnQ (spent d) l (fun _ n d' => n = 0 ∧ d' = changed (spent d) ⟨l, [], none⟩))
def cutDF (l : List UInt8) (z : Int) (d : Ds) : Int → Ds → Prop := DeedQ d [l] (OnQ (spent d) l (fun i n d' => CutQ (spent d) i z n d'))
def syncTF (nm : List UInt8) (j : Nat) : Ds → Int → Ds → Prop := if j = 0 then syncF nm else dirF

set_option maxHeartbeats 1000000 in
theorem syncCl_c {b : Nat} (h : Dk X K w p d) (hK : K < 1000) (hnm : nm.length ≤ 1000000) (c0 : w.cell? ⟨b, 0, none⟩ = some (.pointer (some ⟨p, 0, none⟩))) (c1 : w.cell? ⟨b, 1, none⟩ = some (.string (mk nm))) :
    Calls Tryz.prog 29 #[.pointer (some ⟨b, 0, none⟩)] w (Told X (K + 1) w p (syncF nm d)) := by
  have hs : Calls Tryz.prog 30 #[.pointer (some ⟨p, 0, none⟩), .string (mk nm)] w (Told X (K + 1) w p (syncF nm d)) := by
    obtain ⟨q, h⟩ := h
    exact Sync_c h hK hnm
  clear h
  go_enter Tryz.func29, Tryz.ntmps29
  go_wp2_with fail
  refine hs.mono ?_
  rintro e w1 ⟨m, d', rfl, hT⟩
  clear hs
  have HT := Lib.hid hT
  clear hT
  go_wp2
  go_ret
  exact ⟨m, d', rfl, HT.out⟩

set_option maxRecDepth 100000 in
set_option maxHeartbeats 2000000 in
theorem sync_any (h : Dk X K w p d) (hK : K + 6 ≤ 1000) (hlog : LogAt w lp p nm k) (hnm : nm.length ≤ 1000000) :
    Calls Tryz.prog 9 #[.pointer (some ⟨lp, 0, none⟩)] w (Told X (K + 6) w p (TurnQ (syncTF nm) 2 d)) := by
  have hn := orNone_c hlog
  have H := Lib.hid h
  clear h hlog
  go_enter Tryz.func9, Tryz.ntmps9
  go_wp2_with fail
  refine hn.mono ?_
  rintro e w1 ⟨rfl, hb1⟩
  clear hn
  obtain ⟨W0, hW0⟩ : ∃ W, (w1.alloc (.cells #[.pointer (some ⟨p, 0, none⟩), .string (mk nm), .int .u8 k.toNat] 61)).alloc (.cells #[.func (.func 29) #[] #[.pointer (some ⟨w1.heap.size, 0, none⟩)], .func (.func 19) #[.pointer (some ⟨p, 0, none⟩)] #[]] 36) = W := ⟨_, rfl⟩
  have d0 : W0.cell? ⟨w1.heap.size, 0, none⟩ = some (.pointer (some ⟨p, 0, none⟩)) := by rw [← hW0]; exact Pk.cell_keep (cell_at_new _ _ _ _ _ rfl) _
  have d1 : W0.cell? ⟨w1.heap.size, 1, none⟩ = some (.string (mk nm)) := by rw [← hW0]; exact Pk.cell_keep (cell_at_new _ _ _ _ _ rfl) _
  have e1 : (w1.alloc (.cells #[.pointer (some ⟨p, 0, none⟩), .string (mk nm), .int .u8 k.toNat] 61)).heap.size = w1.heap.size + 1 := Array.size_push _
  have d2 : W0.cell? ⟨w1.heap.size + 1, 0, none⟩ = some (.func (.func 29) #[] #[.pointer (some ⟨w1.heap.size, 0, none⟩)]) := by
    rw [← hW0, ← e1]
    exact cell_at_new _ _ _ _ _ rfl
  have d3 : W0.cell? ⟨w1.heap.size + 1, 1, none⟩ = some (.func (.func 19) #[.pointer (some ⟨p, 0, none⟩)] #[]) := by
    rw [← hW0, ← e1]
    exact cell_at_new _ _ _ _ _ rfl
  have e2 : W0.heap.size = w1.heap.size + 1 + 1 := by rw [← hW0, World.size_alloc, e1]
  have hb0 : Below w.heap.size w W0 := by rw [← hW0]; exact hb1.trans (((below_alloc w1 _).trans ((below_alloc _ _).mono (below_alloc w1 _).size)).mono hb1.size)
  have hs1 := hb1.size
  have hin := inTurn_told (w := W0) (Y := Since X w W0) (a := w1.heap.size + 1) (n := 2) (c := 2) (p := p) (d := d) (K := K) (F := fun j => if j = 0 then 29 else 19) (bs := fun j => if j = 0 then #[] else #[.pointer (some ⟨p, 0, none⟩)]) (cs := fun j => if j = 0 then #[.pointer (some ⟨w1.heap.size, 0, none⟩)] else #[]) (Q := syncTF nm)
    (H.out.since hb0) (by omega) (.inr ⟨by omega, by omega⟩)
    (fun j hj => by match j, hj with | 0, _ => exact d2 | 1, _ => exact d3)
    (fun j W' hj => by match j, hj with | 0, _ => rfl | 1, _ => rfl)
    (fun j W e hj hs he => by
      match j, hj with
      | 0, _ => exact (syncCl_c he (by omega) hnm ((hs.cell (p := ⟨w1.heap.size, 0, none⟩) (Pk.lt_of_cell d0) (.inr ⟨hs1, Pk.lt_of_cell d0⟩)).trans d0) ((hs.cell (p := ⟨w1.heap.size, 1, none⟩) (Pk.lt_of_cell d1) (.inr ⟨hs1, Pk.lt_of_cell d1⟩)).trans d1)).mono fun _ _ hT => hT.imp (by omega) (fun _ _ hq => hq)
      | 1, _ =>
        obtain ⟨q, he⟩ := he
        exact (SyncDir_c he (by omega)).mono fun _ _ hT => hT.imp (by omega) (fun _ _ hq => hq))
  rw [← hW0] at hin
  have HB0 := Lib.hid hb0
  rw [← hW0] at HB0
  clear d0 d1 d2 d3 hb0 hW0 hb1 hs1 e1 e2
  go_wp2_with fail
  refine hin.mono ?_
  rintro e w3 ⟨m, d', rfl, hT⟩
  clear hin
  have HT := Lib.hid hT
  clear hT
  go_wp2
  go_ret
  exact Told.weak ⟨m, d', rfl, HT.out⟩ (fun k hk => .inl hk) (Same.of_below HB0.out)
end Go.Proofs.YtfmelhcpccghdaaGreat.Rl

/-! WHAT AN OPENING COMES TO, on a disk that is up. -/
namespace Go.Proofs.YtfmelhcpccghdaaGreat.Rl
open Go.RowKit Go.Maps

variable {K : Nat} {d d' : Ds} {nm sp b : List UInt8} {k : UInt8} {rs o : List (List UInt8)} {n : Int}

def dropF (sp : List UInt8) (d : Ds) (n : Int) (d' : Ds) : Prop :=
  (d.up = true ∧ d.now sp = none ∧ n = 0 ∧ d' = d) ∨ (¬ (d.up = true ∧ d.now sp = none) ∧ removeF sp d n d')
def loadF (K : Nat) (nm : List UInt8) (k : UInt8) (d : Ds) (n : Int) (d' : Ds) : Prop :=
  (d.up = false ∧ n = 8 ∧ d' = d) ∨ (d.up = true ∧
    ((scanErr k (bytesOf d nm) ≠ 0 ∧ n = scanErr k (bytesOf d nm) ∧ d' = d) ∨
     (scanErr k (bytesOf d nm) = 0 ∧ scanEnd k (bytesOf d nm) = 0 ∧ writeF K nm (head k) d n d') ∨
     (scanErr k (bytesOf d nm) = 0 ∧ scanEnd k (bytesOf d nm) ≠ 0 ∧ scanEnd k (bytesOf d nm) < (bytesOf d nm).length ∧ cutDF nm (scanEnd k (bytesOf d nm)) d n d') ∨
     (scanErr k (bytesOf d nm) = 0 ∧ scanEnd k (bytesOf d nm) ≠ 0 ∧ ¬ scanEnd k (bytesOf d nm) < (bytesOf d nm).length ∧ n = 0 ∧ d' = d)))
def openF (K : Nat) (nm sp : List UInt8) (k : UInt8) (d : Ds) (n : Int) (d' : Ds) (rs : List (List UInt8)) : Prop :=
  (n ≠ 0 ∧ dropF sp d n d') ∨ ∃ d1, dropF sp d 0 d1 ∧ loadF K nm k d1 n d' ∧ (n = 0 → rs = scanRecs k (bytesOf d1 nm))

theorem scan_zero (h0 : scanEnd k b = 0) (ho : okHead k b) : b.length < 8 ∧ scanRecs k b = [] := by
  have h8 : b.length < 8 := by
    by_cases h : 8 ≤ b.length
    · unfold scanEnd at h0
      rw [if_pos ⟨ho, h⟩] at h0
      omega
    · omega
  exact ⟨h8, (scan_short ho h8).1⟩
theorem scan_some (h0 : scanEnd k b ≠ 0) (ho : okHead k b) : scanEnd k b ≤ b.length ∧ b.take (scanEnd k b) = body k (scanRecs k b) ∧ Shorts (scanRecs k b) := by
  have h8 : 8 ≤ b.length := by
    by_cases h : 8 ≤ b.length
    · exact h
    · exact absurd (scan_short ho (by omega)).2.1 h0
  have e1 : scanEnd k b = 8 + (all (gotOf b)).length := by unfold scanEnd; rw [if_pos ⟨ho, h8⟩]
  have e2 : scanRecs k b = gotOf b := by unfold scanRecs; rw [if_pos ho]
  have e3 : gotOf b = recs (b.drop 8) := by unfold gotOf; rw [if_neg (by omega)]
  obtain ⟨t, ht, _⟩ := recs_of (b.drop 8)
  have hh : b.take 8 = head k := by
    have := ho
    unfold okHead at this
    rw [Nat.min_eq_right h8] at this
    rw [this]
    rfl
  have hb : b = head k ++ (all (gotOf b) ++ t) := by
    rw [e3, ← ht, ← hh, List.take_append_drop]
  have hl : b.length = 8 + ((all (gotOf b)).length + t.length) := by
    have := congrArg List.length hb
    rwa [List.length_append, List.length_append, head_length] at this
  refine ⟨by omega, ?_, ?_⟩
  · rw [e1, e2, body]
    generalize gotOf b = g at hb
    rw [hb, ← List.append_assoc]
    exact List.take_left' (by rw [List.length_append, head_length])
  · rw [e2, e3]
    exact recs_shorts _

/-- a disk that is up, on which a log may be opened -/
structure Rdy (nm sp : List UInt8) (d : Ds) : Prop where
  up : d.up = true
  left : d.left = -1
  eq : d.now = turns d.sure d.changes
  two : ∀ n, Two nm sp (lead d n)
  few : d.changes.length ≤ 2
/-- .. and behind that -/
structure Opd (nm sp : List UInt8) (k : UInt8) (rs : List (List UInt8)) (d : Ds) (id : Nat) : Prop where
  up : d.up = true
  left : d.left = -1
  eq : d.now = turns d.sure d.changes
  now : d.now nm = some id
  spare : d.now sp = none
  bytes : (d.files id).bytes = body k rs
  short : Shorts rs
  two : ∀ n, Two nm sp (lead d n)
  few : d.changes.length ≤ 4
structure Near (d d' : Ds) : Prop where
  quota : d'.quota = d.quota
  clock : d'.clock ≤ d.clock + 1
  deeds : d'.deeds ≤ d.deeds + 2
theorem spent_left (hl : d.left = -1) : (spent d).left = -1 := by show (if 0 < d.left then d.left - 1 else d.left) = -1; rw [hl]; rfl

theorem bytes_now (h : 0 < (bytesOf d nm).length) : ∃ i, d.now nm = some i ∧ (d.files i).bytes = bytesOf d nm := by
  unfold bytesOf at h ⊢
  cases hi : d.now nm with
  | none => rw [hi] at h; simp at h
  | some i => exact ⟨i, rfl, rfl⟩

/-- what a spare file's dropping leaves -/
structure Drp (nm sp : List UInt8) (d d1 : Ds) : Prop where
  up : d1.up = true
  left : d1.left = -1
  eq : d1.now = turns d1.sure d1.changes
  two : ∀ n, Two nm sp (lead d1 n)
  few : d1.changes.length ≤ 3
  spare : d1.now sp = none
  nm : d1.now nm = d.now nm
  files : d1.files = d.files
  quota : d1.quota = d.quota
  clock : d1.clock = d.clock
  deeds : d1.deeds ≤ d.deeds + 1
theorem drop_runs (hR : Rdy nm sp d) (hne : nm ≠ sp) (r2 : rightL sp = true) (h : dropF sp d n d') : n = 0 ∧ Drp nm sp d d' := by
  rcases h with ⟨_, h2, h3, rfl⟩ | ⟨h1, h2⟩
  · exact ⟨h3, hR.up, hR.left, hR.eq, hR.two, by have := hR.few; omega, h2, rfl, rfl, rfl, rfl, by omega⟩
  · have hq := deed_runs h2 hR.up (by rw [hR.left]; decide) (by intro x hx; simp at hx; subst hx; exact r2)
    rcases hq with ⟨hn, _⟩ | ⟨i, hi, h0, rfl⟩
    · exact absurd ⟨hR.up, hn⟩ h1
    · refine ⟨h0, hR.up, spent_left hR.left, ?_, fun n => ?_, ?_, ?_, ?_, rfl, rfl, rfl, Nat.le_refl _⟩
      · show turn1 d.now ⟨sp, [], none⟩ = turns d.sure (d.changes ++ [⟨sp, [], none⟩])
        rw [turns_snoc, hR.eq]
      · rcases lead_changed (spent d) ⟨sp, [], none⟩ n with e | e
        · rw [e]; exact hR.two n
        · rw [e]
          refine Two.turn1 ?_ (.inr (.inr rfl))
          have := hR.two d.changes.length
          rw [lead_all] at this
          exact this
      · show (d.changes ++ [(⟨sp, [], none⟩ : Ch)]).length ≤ 3
        have := hR.few
        simp; omega
      · show turn1 d.now ⟨sp, [], none⟩ sp = none
        rw [turn1_none rfl]; exact upd_same _ _ _
      · show turn1 d.now ⟨sp, [], none⟩ nm = d.now nm
        rw [turn1_none rfl]; exact upd_other _ _ hne

theorem load_runs {d1 : Ds} (hD : Drp nm sp d d1) (hne : nm ≠ sp) (h0 : sp ≠ []) (r1 : rightL nm = true) (hroom : K + 2 ≤ 200 ∧ (K + 1) * 65536 + 8 ≤ d.quota) (ho : okHead k (bytesOf d1 nm)) (h : loadF K nm k d1 n d') :
    n = 0 ∧ (∃ id, Opd nm sp k (scanRecs k (bytesOf d1 nm)) d' id) ∧ Near d d' := by
  have hse : scanErr k (bytesOf d1 nm) = 0 := by unfold scanErr; rw [if_pos ho]
  have hll : d1.left ≠ 0 := by rw [hD.left]; decide
  have hrr : ∀ l ∈ [nm], rightL l = true := by intro x hx; simp at hx; subst hx; exact r1
  have hq := hD.quota
  have hc := hD.clock
  have hdd := hD.deeds
  rcases h with ⟨h1, _⟩ | ⟨_, h⟩
  · rw [hD.up] at h1; cases h1
  rcases h with ⟨h1, _⟩ | ⟨_, h2, h3⟩ | ⟨_, h2, h3, h4⟩ | ⟨_, h2, h3, h4, rfl⟩
  · exact absurd hse h1
  · have hw := deed_runs h3 hD.up hll hrr
    have hn : n = 0 := hw.2 (by rw [head_length]; omega) (by omega) (by rw [head_length]; show _ ≤ d1.quota; rw [hq]; exact hroom.2)
    refine ⟨hn, ?_⟩
    rcases hw.1 with ⟨_, _, i, hi, rfl⟩ | ⟨h5, _⟩
    · have hz := scan_zero h2 ho
      have hf : (written (spent d1) nm (head k) i).files i = ⟨head k, 0, d1.clock⟩ := upd_same _ _ _
      refine ⟨⟨i, hD.up, spent_left hD.left, ?_, turn1_dst (f := d1.now) (c := ⟨[], nm, some i⟩) rfl, ?_, ?_, ?_, fun m => ?_, ?_⟩, hq, by show d1.clock + 1 ≤ _; omega, by show d1.deeds + 1 ≤ _; omega⟩
      · show turn1 d1.now ⟨[], nm, some i⟩ = turns d1.sure (d1.changes ++ [⟨[], nm, some i⟩])
        rw [turns_snoc, hD.eq]
      · show turn1 d1.now ⟨[], nm, some i⟩ sp = none
        rw [turn1_off h0 (fun e => hne e.symm)]
        exact hD.spare
      · rw [hf, hz.2]
        show head k = head k ++ all []
        rw [all_nil, List.append_nil]
      · rw [hz.2]; intro r hr; cases hr
      · rcases lead_changed (setF (ticked (spent d1)) i ⟨head k, 0, (spent d1).clock⟩) ⟨[], nm, some i⟩ m with e | e
        · rw [show lead (written (spent d1) nm (head k) i) m = _ from e]; exact hD.two m
        · rw [show lead (written (spent d1) nm (head k) i) m = _ from e]
          refine Two.turn1 ?_ (.inl rfl)
          have := hD.two d1.changes.length
          rw [lead_all] at this
          exact this
      · show (d1.changes ++ [(⟨[], nm, some i⟩ : Ch)]).length ≤ 4
        have := hD.few
        simp; omega
    · omega
  · obtain ⟨hs1, hs2, hs3⟩ := scan_some h2 ho
    obtain ⟨i, hi, hb⟩ := bytes_now (d := d1) (nm := nm) (by omega)
    have hw := onQ_of (Q := fun i n d' => CutQ (spent d1) i _ n d') (deed_runs h4 hD.up hll hrr) (i := i) hi
    rcases hw with ⟨h5, _⟩ | ⟨_, _, h6, rfl⟩
    · have hbb : ((spent d1).files i).bytes = bytesOf d1 nm := hb
      rw [hbb] at h5
      omega
    · refine ⟨h6, ⟨i, hD.up, spent_left hD.left, hD.eq, hi, hD.spare, ?_, hs3, hD.two, by have := hD.few; show d1.changes.length ≤ 4; omega⟩, hq, by show d1.clock + 1 ≤ _; omega, by show d1.deeds + 1 ≤ _; omega⟩
      have hf : (cutF (spent d1) i ((scanEnd k (bytesOf d1 nm) : Nat) : Int).toNat).files i = ⟨((spent d1).files i).bytes.take ((scanEnd k (bytesOf d1 nm) : Nat) : Int).toNat, min ((spent d1).files i).sure ((scanEnd k (bytesOf d1 nm) : Nat) : Int).toNat, (spent d1).clock⟩ := upd_same _ _ _
      rw [hf, Int.toNat_natCast]
      show (d1.files i).bytes.take _ = _
      rw [hb, hs2]
  · obtain ⟨hs1, hs2, hs3⟩ := scan_some h2 ho
    obtain ⟨i, hi, hb⟩ := bytes_now (nm := nm) (Nat.lt_of_lt_of_le (Nat.pos_of_ne_zero h2) hs1)
    refine ⟨h4, ⟨i, hD.up, hD.left, hD.eq, hi, hD.spare, ?_, hs3, hD.two, by have := hD.few; omega⟩, hq, by omega, by omega⟩
    rw [hb, ← hs2, List.take_of_length_le (by omega)]

theorem open_runs (hR : Rdy nm sp d) (hne : nm ≠ sp) (h0 : sp ≠ []) (r1 : rightL nm = true) (r2 : rightL sp = true) (hroom : K + 2 ≤ 200 ∧ (K + 1) * 65536 + 8 ≤ d.quota) (ho : okHead k (bytesOf d nm)) (h : openF K nm sp k d n d' rs) :
    n = 0 ∧ rs = scanRecs k (bytesOf d nm) ∧ (∃ id, Opd nm sp k rs d' id) ∧ Near d d' := by
  rcases h with ⟨h1, h2⟩ | ⟨d1, h1, h2, h3⟩
  · exact absurd (drop_runs hR hne r2 h2).1 h1
  · obtain ⟨_, hD⟩ := drop_runs hR hne r2 h1
    have hb : bytesOf d1 nm = bytesOf d nm := by unfold bytesOf; rw [hD.nm, hD.files]
    obtain ⟨hn, h4, h5⟩ := load_runs hD hne h0 r1 hroom (by rw [hb]; exact ho) h2
    have hr := h3 hn
    rw [← hr] at h4
    exact ⟨hn, by rw [hr, hb], h4, h5⟩

/-- a file that is no log -/
theorem open_bad (hR : Rdy nm sp d) (hne : nm ≠ sp) (r2 : rightL sp = true) (ho : ¬ okHead k (bytesOf d nm)) (h : openF K nm sp k d n d' rs) : n = 9 ∧ Drp nm sp d d' := by
  rcases h with ⟨h1, h2⟩ | ⟨d1, h1, h2, h3⟩
  · exact absurd (drop_runs hR hne r2 h2).1 h1
  · obtain ⟨_, hD⟩ := drop_runs hR hne r2 h1
    have hb : bytesOf d1 nm = bytesOf d nm := by unfold bytesOf; rw [hD.nm, hD.files]
    have hse : scanErr k (bytesOf d1 nm) = 9 := by unfold scanErr; rw [hb, if_neg ho]
    rcases h2 with ⟨h1, _⟩ | ⟨_, h⟩
    · rw [hD.up] at h1; cases h1
    rw [hse] at h
    rcases h with ⟨_, h2, rfl⟩ | ⟨h1, _⟩ | ⟨h1, _⟩ | ⟨h1, _⟩
    · exact ⟨h2, hD⟩
    · cases h1
    · cases h1
    · cases h1
end Go.Proofs.YtfmelhcpccghdaaGreat.Rl

/-! A SPARE FILE IS DROPPED, A FILE IS READ AND MADE A LOG. -/
namespace Go.Proofs.YtfmelhcpccghdaaGreat.Rl
open Go.RowKit Go.Maps

variable {X : Nat → Prop} {K : Nat} {w : World} {p lp : Nat} {d : Ds} {nm : List UInt8} {k : UInt8}

/-- rows that the disk does not touch -/
def Safe (Y : Nat → Prop) (w : World) (v : Value) (rs : List (List UInt8)) : Prop := ∀ w', Same Y w w' → Mat w' v rs
theorem Safe.mat {Y : Nat → Prop} {v : Value} {rs : List (List UInt8)} (h : Safe Y w v rs) : Mat w v rs := h w (Same.refl _ _)
theorem Safe.same {Y : Nat → Prop} {v : Value} {rs : List (List UInt8)} (h : Safe Y w v rs) {w' : World} (hs : Same Y w w') : Safe Y w' v rs := fun w2 h2 => h w2 (hs.trans h2)
theorem Safe.more {Y Z : Nat → Prop} {v : Value} {rs : List (List UInt8)} (h : Safe Y w v rs) (hYZ : ∀ b, Y b → Z b) : Safe Z w v rs := fun w' hs => h w' (hs.mono fun b _ hb => hYZ b hb)
theorem Rows.safe {Y : Nat → Prop} {base : Nat} {v : Value} {rs : List (List UInt8)} (h : Rows base w v rs) (hY : ∀ b, base ≤ b → b < w.heap.size → Y b) : Safe Y w v rs := fun _ hs => (h.keptBy fun k h1 h2 => hs.block k h2 (hY k h1 h2)).mat

theorem remove_d (h : Dk X K w p d) (hK : K + 2 ≤ 1000) {l : List UInt8} (hl : l.length ≤ 1000000) : Calls Tryz.prog 48 #[.pointer (some ⟨p, 0, none⟩), .string (mk l)] w (Told X (K + 2) w p (removeF l d)) := by
  obtain ⟨q, h⟩ := h
  exact Remove_c h hK hl
theorem cut_d (h : Dk X K w p d) (hK : K + 2 ≤ 1000) {l : List UInt8} (hl : l.length ≤ 1000000) (z : Int) : Calls Tryz.prog 51 #[.pointer (some ⟨p, 0, none⟩), .string (mk l), .int .i64 z] w (Told X (K + 2) w p (cutDF l z d)) := by
  obtain ⟨q, h⟩ := h
  exact Cut_c h hK hl z
theorem write_d (h : Dk X K w p d) (hK : K + 3 ≤ 1000) {l : List UInt8} (hl : l.length ≤ 1000000) {v : Value} {bs : List UInt8} (hv : BRow w v bs) (hvX : ∀ k, Value.rowBlock v = some k → X k) (hbs : bs.length ≤ 1000000000) : Calls Tryz.prog 18 #[.pointer (some ⟨p, 0, none⟩), .string (mk l), v] w (Told X (K + 3) w p (writeF K l bs d)) := by
  have hall := dk_len h
  obtain ⟨q, h⟩ := h
  exact Write_c h hK (Nat.le_refl _) hall hl hv hvX hbs
theorem rename_d (h : Dk X K w p d) (hK : K + 2 ≤ 1000) {l m : List UInt8} (hl : l.length ≤ 1000000) (hm : m.length ≤ 1000000) : Calls Tryz.prog 36 #[.pointer (some ⟨p, 0, none⟩), .string (mk l), .string (mk m)] w (Told X (K + 2) w p (renameF l m d)) := by
  obtain ⟨q, h⟩ := h
  exact Rename_c h hK hl hm
theorem sync_d (h : Dk X K w p d) (hK : K < 1000) {l : List UInt8} (hl : l.length ≤ 1000000) : Calls Tryz.prog 30 #[.pointer (some ⟨p, 0, none⟩), .string (mk l)] w (Told X (K + 1) w p (syncF l d)) := by
  obtain ⟨q, h⟩ := h
  exact Sync_c h hK hl
theorem dir_d (h : Dk X K w p d) (hK : K < 1000) : Calls Tryz.prog 19 #[.pointer (some ⟨p, 0, none⟩)] w (Told X (K + 1) w p (dirF d)) := by
  obtain ⟨q, h⟩ := h
  exact SyncDir_c h hK

theorem dk_drew (h : Dk X K w p d) : Dk X K w.drew p d := h.frame (w' := w.drew) (Nat.le_refl _) (fun _ _ _ => rfl) (fun _ _ hy => hy) (fun b hb => dk_in h b hb)

theorem stat_any (h : Dk X K w p d) {l : List UInt8} (hl : l.length ≤ maxLen) : Calls Tryz.prog 20 #[.pointer (some ⟨p, 0, none⟩), .string (mk l)] w fun e w' =>
    ∃ a b m : Int, e = .returned (.tuple #[.agg #[.int .i64 a, .int .i64 b], .int .i64 m]) ∧ (m = 6 ↔ (d.up = true ∧ d.now l = none)) ∧ Below w.heap.size w w' := by
  cases hu : d.up with
  | false =>
    refine (stat_down h hu).mono ?_
    rintro e w' ⟨h1, h2⟩
    exact ⟨_, _, _, h1, ⟨fun e => absurd e (by decide), fun e => absurd e.1 (by decide)⟩, h2⟩
  | true =>
    cases hi : d.now l with
    | none =>
      refine (stat_none h hl hu hi).mono ?_
      rintro e w' ⟨h1, h2⟩
      exact ⟨_, _, _, h1, ⟨fun _ => ⟨rfl, rfl⟩, fun _ => rfl⟩, h2⟩
    | some i =>
      refine (stat_some h hl hu hi).mono ?_
      rintro e w' ⟨h1, h2⟩
      exact ⟨_, _, _, h1, ⟨fun e => absurd e (by decide), fun e => absurd e.2 (by simp)⟩, h2⟩

set_option maxRecDepth 100000 in
set_option maxHeartbeats 2000000 in
theorem dropSpare_any (h : Dk X K w p d) (hK : K + 2 ≤ 1000) (hX : X lp) (hlog : LogAt w lp p nm k) (hnm : nm.length ≤ 900000) :
    Calls Tryz.prog 23 #[.pointer (some ⟨lp, 0, none⟩)] w (Told X (K + 2) w p (dropF (newN nm) d)) := by
  have hdr := dk_drew h
  have hal := dk_drew (h.keep (below_alloc w (.cells #[.int .i64 0, .int .i64 0] 50)))
  obtain ⟨c0, c1, c2⟩ := hlog
  have hm : (newN nm).length ≤ maxLen := by unfold maxLen newN; simp; omega
  have hpA := spare_c (w := w.drew) (lp := lp) (nm := nm) c1 (by omega)
  have hpB := spare_c (w := (w.alloc (.cells #[.int .i64 0, .int .i64 0] 50)).drew) (lp := lp) (nm := nm) (alloc_cell _ c1) (by omega)
  have hS : ∀ W, Below w.heap.size w W → Dk X K W p d → Calls Tryz.prog 20 #[.pointer (some ⟨p, 0, none⟩), .string (mk (newN nm))] W fun e w' => ∃ a b m : Int, e = .returned (.tuple #[.agg #[.int .i64 a, .int .i64 b], .int .i64 m]) ∧ (m = 6 ↔ (d.up = true ∧ d.now (newN nm) = none)) ∧ Below w.heap.size w w' ∧ w'.cell? ⟨lp, 0, none⟩ = some (.pointer (some ⟨p, 0, none⟩)) ∧ w'.cell? ⟨lp, 1, none⟩ = some (.string (mk nm)) ∧ w'.heap.size ≠ lp := fun W hW hD => (stat_any hD hm).mono fun e w' ⟨a, b, m, h1, h2, h3⟩ => by
    have hB := hW.trans (h3.mono hW.size)
    exact ⟨a, b, m, h1, h2, hB, (hB.cell (p := ⟨lp, 0, none⟩) (Pk.lt_of_cell c0)).trans c0, (hB.cell (p := ⟨lp, 1, none⟩) (Pk.lt_of_cell c1)).trans c1, fun e => by have h5 := hB.size; have h6 : lp < w.heap.size := Pk.lt_of_cell c0; omega⟩
  have hsA := hS w.drew ⟨rfl, rfl, rfl, Nat.le_refl _, fun _ _ => rfl⟩ hdr
  have hbB := below_alloc w (.cells #[.int .i64 0, .int .i64 0] 50)
  have hsB : Calls Tryz.prog 20 #[.pointer (some ⟨p, 0, none⟩), .string (mk (newN nm))] (w.alloc (.cells #[.int .i64 0, .int .i64 0] 50)).drew fun e w' => ∃ a b m : Int, e = .returned (.tuple #[.agg #[.int .i64 a, .int .i64 b], .int .i64 m]) ∧ (m = 6 ↔ (d.up = true ∧ d.now (newN nm) = none)) ∧ Below w.heap.size w w' ∧ w'.cell? ⟨lp, 0, none⟩ = some (.pointer (some ⟨p, 0, none⟩)) ∧ w'.cell? ⟨lp, 1, none⟩ = some (.string (mk nm)) ∧ w'.cell? ⟨w.heap.size, 0, none⟩ = some (.int .i64 0) ∧ w'.cell? ⟨w.heap.size, 1, none⟩ = some (.int .i64 0) ∧ w'.frozen? ⟨w.heap.size, 0, none⟩ = false ∧ w'.frozen? ⟨w.heap.size, 1, none⟩ = false := (stat_any hal hm).mono fun e w' ⟨a, b, m, h1, h2, h3⟩ => by
    have hb0 : Below w.heap.size w (w.alloc (.cells #[.int .i64 0, .int .i64 0] 50)).drew := ⟨hbB.os, hbB.tape, hbB.output, hbB.size, hbB.block⟩
    have hB := hb0.trans (h3.mono hb0.size)
    have hlt : w.heap.size < (w.alloc (.cells #[.int .i64 0, .int .i64 0] 50)).drew.heap.size := by show _ < (w.alloc _).heap.size; simp
    have hbk := h3.block w.heap.size hlt
    exact ⟨a, b, m, h1, h2, hB, (hB.cell (p := ⟨lp, 0, none⟩) (Pk.lt_of_cell c0)).trans c0, (hB.cell (p := ⟨lp, 1, none⟩) (Pk.lt_of_cell c1)).trans c1,
      (h3.cell (p := ⟨w.heap.size, 0, none⟩) hlt).trans (cell_at_new w _ _ 0 _ rfl), (h3.cell (p := ⟨w.heap.size, 1, none⟩) hlt).trans (cell_at_new w _ _ 1 _ rfl),
      (World.frozen?_of_block (a := ⟨w.heap.size, 0, none⟩) hbk).trans (frozen_of (heap_alloc_new w _) 0), (World.frozen?_of_block (a := ⟨w.heap.size, 1, none⟩) hbk).trans (frozen_of (heap_alloc_new w _) 1)⟩
  have hne : w.heap.size ≠ lp := fun e => by have h6 : lp < w.heap.size := Pk.lt_of_cell c0; omega
  have HH := Lib.hid h
  clear hS hbB hdr hal h
  go_enter Tryz.func23, Tryz.ntmps23
  go_wp2_with fail
  go_region_held3 (fun w' => w'.cell? ⟨lp, 0, none⟩ = some (.pointer (some ⟨p, 0, none⟩)) ∧ w'.cell? ⟨lp, 1, none⟩ = some (.string (mk nm)))
    (first | exact ⟨c0, c1⟩ | exact ⟨alloc_cell _ c0, alloc_cell _ c1⟩ | exact ⟨m0, m1⟩ | exact ⟨alloc_cell _ m0, alloc_cell _ m1⟩ | exact ⟨set_blk hne (set_blk hne m0), set_blk hne (set_blk hne m1)⟩ | exact ⟨set_blk hn6 (set_blk hn6 (alloc_cell _ m0)), set_blk hn6 (set_blk hn6 (alloc_cell _ m1))⟩ | fail)
    (first
      | (go_at_call 32; (first | (with_reducible refine hpA.mono ?_) | (with_reducible refine hpB.mono ?_)); rintro e w5 ⟨rfl, rfl⟩)
      | (go_at_call 20; (with_reducible refine hsA.mono ?_); rintro e w6 ⟨sa, sb, sm, rfl, hiff, hb6, m0, m1, hn6⟩)
      | (go_at_call 20; (with_reducible refine hsB.mono ?_); rintro e w6 ⟨sa, sb, sm, rfl, hiff, hb6, m0, m1, x0, x1, z0, z1⟩))
  · have hBF : Below w.heap.size w (w6.alloc (.cells #[.int .i64 sa, .int .i64 sb] 50)) := hb6.alloc hb6.size _
    clear m0 m1 hn6 hsA hsB hpA hpB
    generalize w6.alloc (.cells #[.int .i64 sa, .int .i64 sb] 50) = WF at *
    rename_i hHeld
    obtain ⟨f0, f1⟩ := hHeld
    have hlt : lp < WF.heap.size := Pk.lt_of_cell f0
    have hrm : Calls Tryz.prog 48 #[.pointer (some ⟨p, 0, none⟩), .string (mk (newN nm))] WF.drew fun e w' => Told X (K + 2) WF.drew p (removeF (newN nm) d) e w' ∧ w'.cell? ⟨lp, 0, none⟩ = some (.pointer (some ⟨p, 0, none⟩)) ∧ w'.cell? ⟨lp, 1, none⟩ = some (.string (mk nm)) := (remove_d (dk_drew (HH.out.keep hBF)) hK (l := newN nm) (by unfold newN; simp; omega)).mono fun e w' hT => by
      obtain ⟨m, d', _, hs, _⟩ := id hT
      exact ⟨hT, (hs.cell (p := ⟨lp, 0, none⟩) hlt hX).trans f0, (hs.cell (p := ⟨lp, 1, none⟩) hlt hX).trans f1⟩
    clear hlt
    have hsp := spare_c (w := WF.drew) (lp := lp) (nm := nm) f1 (by omega)
    have HBF := Lib.hid hBF
    have HIF := Lib.hid hiff
    clear hBF hiff
    by_cases h6 : sm = 6
    · subst h6
      have hup := HIF.out.1 rfl
      have HUP := Lib.hid hup
      clear hup hrm hsp
      go_wp2
      go_ret
      exact ⟨0, d, rfl, Same.of_below HBF.out, (HH.out.keep HBF.out).mono (by omega), .inl ⟨HUP.out.1, HUP.out.2, rfl, rfl⟩⟩
    · have hz : (sm == 6) = false := by simp [h6]
      have HN := Lib.hid (fun h => h6 (HIF.out.2 h))
      clear h6
      go_wp2_with fail
      go_region_held3 (fun w' => w'.cell? ⟨lp, 0, none⟩ = some (.pointer (some ⟨p, 0, none⟩)) ∧ w'.cell? ⟨lp, 1, none⟩ = some (.string (mk nm)))
        (first | exact ⟨f0, f1⟩ | exact ⟨g0, g1⟩ | fail)
        (first
          | (go_at_call 32; (with_reducible refine hsp.mono ?_); rintro e w5 ⟨rfl, rfl⟩)
          | (go_at_call 48; (with_reducible refine hrm.mono ?_); rintro e w7 ⟨⟨m7, d7, rfl, hT⟩, g0, g1⟩))
      go_wp2
      go_ret
      exact Told.weak ⟨m7, d7, rfl, hT.1, hT.2.1, .inr ⟨HN.out, hT.2.2⟩⟩ (fun k hk => hk) (Same.of_below ⟨HBF.out.os, HBF.out.tape, HBF.out.output, HBF.out.size, HBF.out.block⟩)
  · have hBF : Below w.heap.size w ((w6.setCell ⟨w.heap.size, 0, none⟩ (.int .i64 sa)).setCell ⟨w.heap.size, 1, none⟩ (.int .i64 sb)) := (hb6.setCell (Nat.le_refl _) _).setCell (Nat.le_refl _) _
    clear m0 m1 x0 x1 z0 z1 hsA hsB hpA hpB
    generalize (w6.setCell ⟨w.heap.size, 0, none⟩ (.int .i64 sa)).setCell ⟨w.heap.size, 1, none⟩ (.int .i64 sb) = WF at *
    rename_i hHeld
    obtain ⟨f0, f1⟩ := hHeld
    have hlt : lp < WF.heap.size := Pk.lt_of_cell f0
    have hrm : Calls Tryz.prog 48 #[.pointer (some ⟨p, 0, none⟩), .string (mk (newN nm))] WF.drew fun e w' => Told X (K + 2) WF.drew p (removeF (newN nm) d) e w' ∧ w'.cell? ⟨lp, 0, none⟩ = some (.pointer (some ⟨p, 0, none⟩)) ∧ w'.cell? ⟨lp, 1, none⟩ = some (.string (mk nm)) := (remove_d (dk_drew (HH.out.keep hBF)) hK (l := newN nm) (by unfold newN; simp; omega)).mono fun e w' hT => by
      obtain ⟨m, d', _, hs, _⟩ := id hT
      exact ⟨hT, (hs.cell (p := ⟨lp, 0, none⟩) hlt hX).trans f0, (hs.cell (p := ⟨lp, 1, none⟩) hlt hX).trans f1⟩
    clear hlt
    have hsp := spare_c (w := WF.drew) (lp := lp) (nm := nm) f1 (by omega)
    have HBF := Lib.hid hBF
    have HIF := Lib.hid hiff
    clear hBF hiff
    by_cases h6 : sm = 6
    · subst h6
      have hup := HIF.out.1 rfl
      have HUP := Lib.hid hup
      clear hup hrm hsp
      go_wp2
      go_ret
      exact ⟨0, d, rfl, Same.of_below HBF.out, (HH.out.keep HBF.out).mono (by omega), .inl ⟨HUP.out.1, HUP.out.2, rfl, rfl⟩⟩
    · have hz : (sm == 6) = false := by simp [h6]
      have HN := Lib.hid (fun h => h6 (HIF.out.2 h))
      clear h6
      go_wp2_with fail
      go_region_held3 (fun w' => w'.cell? ⟨lp, 0, none⟩ = some (.pointer (some ⟨p, 0, none⟩)) ∧ w'.cell? ⟨lp, 1, none⟩ = some (.string (mk nm)))
        (first | exact ⟨f0, f1⟩ | exact ⟨g0, g1⟩ | fail)
        (first
          | (go_at_call 32; (with_reducible refine hsp.mono ?_); rintro e w5 ⟨rfl, rfl⟩)
          | (go_at_call 48; (with_reducible refine hrm.mono ?_); rintro e w7 ⟨⟨m7, d7, rfl, hT⟩, g0, g1⟩))
      go_wp2
      go_ret
      exact Told.weak ⟨m7, d7, rfl, hT.1, hT.2.1, .inr ⟨HN.out, hT.2.2⟩⟩ (fun k hk => hk) (Same.of_below ⟨HBF.out.os, HBF.out.tape, HBF.out.output, HBF.out.size, HBF.out.block⟩)
  · have hBF : Below w.heap.size w ((w6.setCell ⟨w.heap.size, 0, none⟩ (.int .i64 sa)).setCell ⟨w.heap.size, 1, none⟩ (.int .i64 sb)) := (hb6.setCell (Nat.le_refl _) _).setCell (Nat.le_refl _) _
    clear m0 m1 x0 x1 z0 z1 hsA hsB hpA hpB
    generalize (w6.setCell ⟨w.heap.size, 0, none⟩ (.int .i64 sa)).setCell ⟨w.heap.size, 1, none⟩ (.int .i64 sb) = WF at *
    rename_i hHeld
    obtain ⟨f0, f1⟩ := hHeld
    have hlt : lp < WF.heap.size := Pk.lt_of_cell f0
    have hrm : Calls Tryz.prog 48 #[.pointer (some ⟨p, 0, none⟩), .string (mk (newN nm))] WF.drew fun e w' => Told X (K + 2) WF.drew p (removeF (newN nm) d) e w' ∧ w'.cell? ⟨lp, 0, none⟩ = some (.pointer (some ⟨p, 0, none⟩)) ∧ w'.cell? ⟨lp, 1, none⟩ = some (.string (mk nm)) := (remove_d (dk_drew (HH.out.keep hBF)) hK (l := newN nm) (by unfold newN; simp; omega)).mono fun e w' hT => by
      obtain ⟨m, d', _, hs, _⟩ := id hT
      exact ⟨hT, (hs.cell (p := ⟨lp, 0, none⟩) hlt hX).trans f0, (hs.cell (p := ⟨lp, 1, none⟩) hlt hX).trans f1⟩
    clear hlt
    have hsp := spare_c (w := WF.drew) (lp := lp) (nm := nm) f1 (by omega)
    have HBF := Lib.hid hBF
    have HIF := Lib.hid hiff
    clear hBF hiff
    by_cases h6 : sm = 6
    · subst h6
      have hup := HIF.out.1 rfl
      have HUP := Lib.hid hup
      clear hup hrm hsp
      go_wp2
      go_ret
      exact ⟨0, d, rfl, Same.of_below HBF.out, (HH.out.keep HBF.out).mono (by omega), .inl ⟨HUP.out.1, HUP.out.2, rfl, rfl⟩⟩
    · have hz : (sm == 6) = false := by simp [h6]
      have HN := Lib.hid (fun h => h6 (HIF.out.2 h))
      clear h6
      go_wp2_with fail
      go_region_held3 (fun w' => w'.cell? ⟨lp, 0, none⟩ = some (.pointer (some ⟨p, 0, none⟩)) ∧ w'.cell? ⟨lp, 1, none⟩ = some (.string (mk nm)))
        (first | exact ⟨f0, f1⟩ | exact ⟨g0, g1⟩ | fail)
        (first
          | (go_at_call 32; (with_reducible refine hsp.mono ?_); rintro e w5 ⟨rfl, rfl⟩)
          | (go_at_call 48; (with_reducible refine hrm.mono ?_); rintro e w7 ⟨⟨m7, d7, rfl, hT⟩, g0, g1⟩))
      go_wp2
      go_ret
      exact Told.weak ⟨m7, d7, rfl, hT.1, hT.2.1, .inr ⟨HN.out, hT.2.2⟩⟩ (fun k hk => hk) (Same.of_below ⟨HBF.out.os, HBF.out.tape, HBF.out.output, HBF.out.size, HBF.out.block⟩)
end Go.Proofs.YtfmelhcpccghdaaGreat.Rl
