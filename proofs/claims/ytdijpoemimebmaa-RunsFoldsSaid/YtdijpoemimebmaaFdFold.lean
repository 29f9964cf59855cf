/-
  runs.Fold, WALKED: of each output the last run, by its name's order.
-/
import Derived.Test.YtdijpoemimebmaaFdAll
import Derived.Carry
namespace Go.Proofs.Ytdijpoemimebmaa.Rn
open Go.RowKit Go.Maps
open Go.Proofs.Ytdijpoemimebmaa.Cr

/-- where each output was last, among the first j runs -/
def lx (L : List Run) : Nat → Bs → Option Nat
  | 0 => fun _ => Option.none
  | j + 1 => match L[j]? with
    | some x => upd (lx L j) (bsOf x.out) (some j)
    | Option.none => lx L j

theorem lx_next {L : List Run} {j : Nat} {x : Run} (hx : L[j]? = some x) : lx L (j + 1) = upd (lx L j) (bsOf x.out) (some j) := by
  simp only [lx, hx]

/-- a run whose parts can be copied -/
structure Thin (r : Run) : Prop where
  out : r.out.size ≤ 1000000
  cmd : r.cmd.size ≤ 1000000
  ins : r.ins.length ≤ 100000
  fds : r.found.length ≤ 100000
  names : ∀ x ∈ r.ins, x.name.size ≤ 1000000

theorem mi_put {w W : World} {n m : Nat} {f : Bs → Option Nat} (h : Mi W n m f) (hm : w.heap.size ≤ m) (hb : Below w.heap.size w W) (hn : n ≤ 1000000) (s : ByteArray) (hs : s.size ≤ 1000000) (i : Nat) :
    ∃ W', (Instr.mapUpdate 87 (.map (some m)) (.string s) (.int .i64 (i : Int))).run Try.prog W = .ok () W' ∧ Mi W' (n + 1) m (upd f (bsOf s) (some i)) ∧ Below w.heap.size w W' := by
  obtain ⟨W', h1, h2, h3, h4⟩ := h.put (by unfold maxLen; omega) (l := bsOf s) (by rw [bsOf_len]; unfold maxLen; omega) i
  rw [mkS_of] at h1
  exact ⟨W', h1, h2, hb.trans ⟨h3.os, h3.tape, h3.output, h3.size, fun k hk => h3.block k (by have := hb.size; omega) (by simp; omega)⟩⟩

theorem lx_spec {L : List Run} {j i : Nat} {nm : Bs} (h : lx L j nm = some i) : i < j ∧ ∃ x, L[i]? = some x ∧ bsOf x.out = nm := by
  induction j with
  | zero => simp [lx] at h
  | succ j ih =>
    cases hx : L[j]? with
    | none =>
      simp only [lx, hx] at h
      obtain ⟨h1, h2⟩ := ih h
      exact ⟨by omega, h2⟩
    | some x =>
      rw [lx_next hx] at h
      by_cases e : nm = bsOf x.out
      · rw [e, upd_same] at h
        cases h
        exact ⟨by omega, x, hx, e.symm⟩
      · rw [upd_other _ _ e] at h
        obtain ⟨h1, h2⟩ := ih h
        exact ⟨by omega, h2⟩

theorem infoR : (Try.prog.info? 33).map (fun i => (i.zero, i.size, i.bytes)) = some (some (.agg #[.string ⟨#[]⟩, .string ⟨#[]⟩, .int .i64 0, .int .i64 0, .slice Option.none 0 0, .slice Option.none 0 0]), 6, 96) := by kernel_rfl

abbrev Gr := Run × Value × Value
def runV (G : List Gr) : List Value := G.flatMap fun g => [.string g.1.out, .string g.1.cmd, .int .i64 g.1.time, .int .i64 g.1.mark, g.2.1, g.2.2]
theorem runV_snoc (G : List Gr) (g : Gr) : runV (G ++ [g]) = runV G ++ [.string g.1.out, .string g.1.cmd, .int .i64 g.1.time, .int .i64 g.1.mark, g.2.1, g.2.2] := by simp [runV]

structure GE (B : Nat) (W : World) (g : Gr) : Prop where
  ins : W.ownsRow B 59 2 g.2.1 g.1.ins.length (inV g.1.ins)
  fds : W.ownsRow B 3 1 g.2.2 g.1.found.length (tV g.1.found)

/-- what is folded so far; the names, and the map, beside it -/
structure GA (w W : World) (v : Value) (G : List Gr) (nv : Value) (NS : List Bs) (f : Bs → Option Nat) : Prop where
  own : W.ownsRow w.heap.size 33 6 v G.length (runV G)
  els : ∀ g ∈ G, GE w.heap.size W g
  row : W.ownsRow w.heap.size 9 1 nv NS.length (NS.map encStr)
  map : ∃ n, Mi W n w.heap.size f
  bel : Below w.heap.size w W

section
variable {w W W1 : World} {v nv vn : Value} {G : List Gr} {NS : List Bs} {f : Bs → Option Nat}
theorem GA.next (h : GA w W v G nv NS f) (hb : Below W.heap.size W W1) : GA w W1 v G nv NS f := by
  obtain ⟨n, hm⟩ := h.map
  exact ⟨owns_below h.own hb, fun g hg => ⟨owns_below (h.els g hg).ins hb, owns_below (h.els g hg).fds hb⟩, owns_below h.row hb, ⟨n, hm.kept (hb.block _ hm.lt)⟩, h.bel.trans (hb.mono h.bel.size)⟩

theorem GA.snoc {g : Gr} {ob : Obj} (h : GA w W v G nv NS f) (hg : GE w.heap.size W g) (hgr : (W.alloc ob).grownBy W1 v.ownBlock) (hown : W1.ownsRow w.heap.size 33 6 vn (G.length + 1) (runV G ++ [.string g.1.out, .string g.1.cmd, .int .i64 g.1.time, .int .i64 g.1.mark, g.2.1, g.2.2])) :
    GA w W1 vn (G ++ [g]) nv NS f := by
  have hz : (W.alloc ob).heap.size = W.heap.size + 1 := Array.size_push _
  have hk : ∀ k, k < W.heap.size → v.ownBlock ≠ some k → W1.heap[k]? = W.heap[k]? := fun k hk hv => (hgr.block k (by omega) fun e => hv e.symm).trans (Below.heap_alloc _ _ _ hk)
  have hrow : ∀ {e sz n : Nat} {u : Value} {xs : List Value}, e ≠ 33 → W.ownsRow w.heap.size e sz u n xs → W1.ownsRow w.heap.size e sz u n xs := fun {e sz n u xs} hne hu => owns_kept hu fun k hkk => hk k (hu.lt k hkk).2 fun e2 => by
    obtain ⟨_, c1, x1⟩ := owns_block h.own e2
    obtain ⟨_, c2, x2⟩ := owns_block hu hkk
    exact ne_type x2 x1 hne rfl
  obtain ⟨n, hm⟩ := h.map
  refine ⟨by rw [runV_snoc, List.length_append]; exact hown, fun q hq => ?_, hrow (by decide) h.row, ⟨n, hm.kept (hk _ hm.lt fun e2 => ?_)⟩, h.bel.trans ⟨hgr.os, hgr.tape, hgr.output, by have := hgr.size; omega, fun k hkk => hk k (by have := h.bel.size; omega) fun e2 => by have := (h.own.lt k e2).1; omega⟩⟩
  · rcases List.mem_append.1 hq with hq | hq
    · exact ⟨hrow (by decide) (h.els q hq).ins, hrow (by decide) (h.els q hq).fds⟩
    · rw [List.mem_singleton.1 hq]
      exact ⟨hrow (by decide) hg.ins, hrow (by decide) hg.fds⟩
  · obtain ⟨_, c1, x1⟩ := owns_block h.own e2
    obtain ⟨es, c2, x2⟩ := hm.map
    rw [x1] at x2
    cases x2
end

/-- Fold's end -/
def FoQ (w : World) (L : List Run) (e : Ending) (w' : World) : Prop :=
  ∃ (v : Value) (G : List Gr) (NS : List Bs), e = .returned v ∧ w'.ownsRow w.heap.size 33 6 v G.length (runV G) ∧ (∀ g ∈ G, GE w.heap.size w' g) ∧ Below w.heap.size w w' ∧ NS.Nodup ∧ NS.Pairwise (fun x y => x ≤ y) ∧ (∀ x, x ∈ NS ↔ (lx L L.length x).isSome = true) ∧
    G.map (·.1) = NS.filterMap fun n => (lx L L.length n).bind fun i => L[i]?

theorem leB_sorted (ss : List Bs) : (ss.mergeSort fun x y => decide (x ≤ y)).Pairwise (fun x y => x ≤ y) := by
  have := List.pairwise_mergeSort (le := fun (x y : Bs) => decide (x ≤ y)) (fun a b c h1 h2 => by simp only [decide_eq_true_eq] at *; exact List.le_trans h1 h2) (fun a b => by simp only [Bool.or_eq_true, decide_eq_true_eq]; exact List.le_total a b) ss
  exact this.imp fun h => by simpa using h

theorem run_newsD (W : World) (r : Run) (vi vf : Value) (h1 : vi.oneCell' = true) (h2 : vf.oneCell' = true) : (∀ j u, [Value.string r.out, .string r.cmd, .int .i64 r.time, .int .i64 r.mark, vi, vf][j]? = some u → (W.alloc (.cells #[.string r.out, .string r.cmd, .int .i64 r.time, .int .i64 r.mark, vi, vf] 33)).cell? ((⟨W.heap.size, 0, Option.none⟩ : Addr).add j) = some u) ∧ (∀ u ∈ [Value.string r.out, .string r.cmd, .int .i64 r.time, .int .i64 r.mark, vi, vf], u.oneCell' = true) :=
  ⟨fun j u hu => World.news_of_block (w := W.alloc (.cells #[.string r.out, .string r.cmd, .int .i64 r.time, .int .i64 r.mark, vi, vf] 33)) (cs := #[.string r.out, .string r.cmd, .int .i64 r.time, .int .i64 r.mark, vi, vf]) (t := 33) (fr := (0, 0)) (heap_alloc_new W _) j u hu, by
    intro u hu
    simp at hu
    rcases hu with rfl | rfl | rfl | rfl | rfl | rfl
    all_goals first | rfl | assumption⟩

theorem fm_next {L : List Run} {NS : List Bs} {f : Bs → Option Nat} {j i : Nat} {nm : Bs} {x : Run} (hn : NS[j]? = some nm) (hf : f nm = some i) (hx : L[i]? = some x) :
    (NS.take (j + 1)).filterMap (fun n => (f n).bind fun i => L[i]?) = (NS.take j).filterMap (fun n => (f n).bind fun i => L[i]?) ++ [x] := by
  rw [List.take_add_one, hn]
  simp [hf, hx]

set_option maxRecDepth 100000 in
set_option maxHeartbeats 8000000 in
theorem fold_c {w : World} {v : Value} {L : List Run} (h : RunRow w v L) (hL : L.length ≤ 1000) (hT : ∀ x ∈ L, Thin x) :
    Calls Try.prog 21 #[v] w (FoQ w L) := by
  obtain ⟨a, c, rfl, hnil, hle, hrow⟩ := h.at
  have HROW := Lib.hid hrow
  have HT := Lib.hid hT
  have hm := @run_makeMap Try.prog
  obtain ⟨W0, hW0⟩ : ∃ W, w.alloc (.map #[] 0) = W := ⟨_, rfl⟩
  have x0 : Hid (Mi W0 0 w.heap.size (lx L 0)) := Lib.hid (by rw [← hW0]; exact Mi.made w)
  have HB0 : Hid (Below w.heap.size w W0) := Lib.hid (by rw [← hW0]; exact Pk.below_alloc _ _)
  clear hrow h hnil hT
  go_enter Try.func21, Try.ntmps21
  go_wp2_with fail
  go_loopw [12] (fun i wr => ∃ j : Nat, j ≤ L.length ∧ i = .int .i64 j ∧ Hid (Mi wr j w.heap.size (lx L j)) ∧ Hid (Below w.heap.size w wr)) (fun i _ => L.length - (intOf i).toNat)
  case atStart => exact ⟨0, Nat.zero_le _, rfl, x0, HB0⟩
  case round =>
    obtain ⟨j, hj, rfl, hM, hBw⟩ := hrel
    clear x0 HB0
    by_cases hlt : j < L.length
    · have hx := List.getElem?_eq_getElem hlt
      have hthin := HT.out _ (List.getElem_mem hlt)
      rcases HROW.out with h | ⟨b, off, rfl, hb, hcell⟩
      · rw [h] at hlt; simp at hlt
      obtain ⟨ai, ni, ci, af, nf, cf, hAt0⟩ := hcell j _ hx
      have hAt := hAt0.below hb hBw.out
      have hnx := lx_next hx
      generalize L[j] = x at *
      obtain ⟨c0, c1, c2, c3, c4, c5, -, -⟩ := hAt
      obtain ⟨V, hV⟩ : ∃ V, wr.alloc (.cells #[.string x.out, .string x.cmd, .int .i64 x.time, .int .i64 x.mark, .slice ai ni ci, .slice af nf cf] 33) = V := ⟨_, rfl⟩
      have hMV : Mi V j w.heap.size (lx L j) := hM.out.kept (by rw [← hV]; exact Below.heap_alloc _ _ _ hM.out.lt)
      have hBV : Below w.heap.size w V := by rw [← hV]; exact hBw.out.alloc hBw.out.size _
      have k0 : V.cell? ⟨wr.heap.size, 0, Option.none⟩ = some (.string x.out) := by rw [← hV]; exact (six_cells (heap_alloc_new _ _)).1.1
      obtain ⟨V', hrun, hM', hB'⟩ := mi_put hMV (Nat.le_refl _) hBV (by omega) x.out hthin.out j
      rw [← hnx] at hM'
      have HM' := Lib.hid hM'
      have HB' := Lib.hid hB'
      have hi0 : (0 : Int) ≤ (j : Int) := by omega
      have hi1 : (j : Int) < (L.length : Int) := by omega
      clear hM' hB' hMV hBV hnx hAt0 hcell hx hthin
      go_wp2_with fail
      go_roundw
      case rel => exact ⟨j + 1, by omega, by go_num, HM', HB'⟩
      case measure => simp [intOf]; omega
    · obtain rfl : j = L.length := by omega
      obtain ⟨k, hk, hlen⟩ := hM.out.len
      have hkb : k ≤ 1000 := by omega
      obtain ⟨i0, hti, hz0, hz1, hz2⟩ := info_parts infoR
      obtain ⟨V1, hmk, hown1, hg1⟩ := run_make_own (P := Try.prog) wr w.heap.size 47 33 i0 (.agg #[.string ⟨#[]⟩, .string ⟨#[]⟩, .int .i64 0, .int .i64 0, .slice Option.none 0 0, .slice Option.none 0 0]) 6 Try.underlying47 hti hz0 hz1 .i64 .i64 k (by rw [hz2]; omega) (by unfold maxLen; omega) hBw.out.size
      have hb1 : Below wr.heap.size wr V1 := ⟨hg1.os, hg1.tape, hg1.output, hg1.size, fun k hk => hg1.block k hk (by simp)⟩
      obtain ⟨D, hD, hhas, hat⟩ := hM.out.kept (hb1.block _ hM.out.lt)
      have hsz := hD.size_le
      have hks := (callsIn_wide (n := 5)).1 (mkeys_c (some w.heap.size) V1)
      have hso := (callsIn_wide (n := 5)).1 (msorted_c w.heap.size L.length D intE V1 hD (by unfold maxLen; omega) (by omega))
      have HKO := Lib.hid (fun (ns : List Bs) (hp : ns.Perm (strKeys D)) => keys_of hD hhas hp)
      have HM1 := Lib.hid (hM.out.kept (hb1.block _ hM.out.lt))
      have HB1 := Lib.hid (hBw.out.trans (hb1.mono hBw.out.size))
      have HO1 := Lib.hid hown1
      clear hD hhas hat hsz hown1 hg1 hb1
      go_wp2_with fail
      refine hks.mono ?_
      rintro e V2 ⟨rfl, rfl⟩
      clear hks
      go_wp2_with fail
      refine hso.mono ?_
      rintro e V3 ⟨nv, ss, rfl, hperm, hrow3, hnil3, hb3⟩
      clear hso
      obtain ⟨na, nc, rfl⟩ := own_slice hrow3
      obtain ⟨n1, n2, n3, n4⟩ := HKO.out _ ((List.mergeSort_perm ss fun x y => decide (x ≤ y)).trans hperm)
      have hso := leB_sorted ss
      have hlen3 : (ss.mergeSort fun x y => decide (x ≤ y)).length = ss.length := List.length_mergeSort _
      generalize (ss.mergeSort fun x y => decide (x ≤ y)) = NS at *
      have hb13 : Below V1.heap.size V1 V3 := (Pk.below_alloc V1 _).trans (hb3.mono (by simp))
      have hga : GA w V3 (.slice (some ⟨wr.heap.size, 0, Option.none⟩) 0 k) [] (.slice na NS.length nc) NS (lx L L.length) := by
        refine ⟨owns_below HO1.out hb13, by simp, ?_, ⟨_, HM1.out.kept (hb13.block _ HM1.out.lt)⟩, HB1.out.trans (hb13.mono HB1.out.size)⟩
        rw [hlen3]
        exact owns_base hrow3 (by have := HB1.out.size; simp; omega)
      rw [← hlen3]
      have N1 := Lib.hid n1
      have N2 := Lib.hid n2
      have N3 := Lib.hid n3
      have NSO := Lib.hid hso
      have GA0 := Lib.hid hga
      clear hperm hrow3 hnil3 hb3 n1 n2 n3 hso hlen3 hb13 hga HO1 HM1 HB1 HKO hM hlen hmk hm hBw
      go_wp2_with fail
      go_loopw [6, 29] (fun v i wr => ∃ j : Nat, j ≤ NS.length ∧ i = .int .i64 j ∧ ∃ a n k G, v = .slice a n k ∧ Hid (GA w wr (.slice a n k) G (.slice na NS.length nc) NS (lx L L.length)) ∧ Hid (G.map (·.1) = (NS.take j).filterMap fun n => (lx L L.length n).bind fun i => L[i]?) ∧ G.length = j) (fun _ i _ => NS.length - (intOf i).toNat)
      case atStart => exact ⟨0, Nat.zero_le _, rfl, _, _, _, [], rfl, GA0, Lib.hid (by simp), rfl⟩
      case round =>
        obtain ⟨j, hj, rfl, pa, pn, pk, G, rfl, hG, hE, hGl⟩ := hrel
        clear GA0
        by_cases hlt2 : j < NS.length
        · have hx := List.getElem?_eq_getElem hlt2
          have hmem := (N2.out _).1 (List.getElem_mem hlt2)
          have hnl := N3.out _ (List.getElem_mem hlt2)
          generalize NS[j] = nm at *
          obtain ⟨ix, hix⟩ := Option.isSome_iff_exists.1 hmem
          obtain ⟨hil, x, hxi, hxo⟩ := lx_spec hix
          have hth := HT.out _ (List.mem_of_getElem? hxi)
          rcases HROW.out with h | ⟨b, off, rfl, hb, hcell⟩
          · rw [h] at hil; simp at hil
          obtain ⟨ai, ni, ci, af, nf, cf, hAt0⟩ := hcell ix _ hxi
          have hAt := hAt0.below hb hG.out.bel
          obtain ⟨mn, hMi⟩ := hG.out.map
          have hlook := hMi.look hnl hix
          rcases own_at hG.out.row with ⟨e, e2⟩ | ⟨gn, cn, e, -, -, -, hnc⟩
          · rw [e2] at hlt2; simp at hlt2
          cases e
          have hname : wr.cell? ⟨gn, j, Option.none⟩ = some (.string (mkS nm)) := hnc j _ (by simp [hx]; rfl)
          have hfm := fm_next (L := L) hx hix hxi
          have hown := own_c (r := x) hAt.ins hAt.fds hth.ins hth.fds hth.out hth.cmd hth.names
          obtain ⟨c0, c1, c2, c3, c4, c5, -, -⟩ := hAt
          have hi0 : (0 : Int) ≤ (j : Int) := by omega
          have hi1 : (j : Int) < (NS.length : Int) := by omega
          have hi2 : (0 : Int) ≤ (ix : Int) := by omega
          have hi3 : (ix : Int) < (L.length : Int) := by omega
          have HFM := Lib.hid hfm
          unfold runC at hown
          clear hfm hnc hMi hAt0 hcell hmem hix hx hxi hxo hth hnl
          go_wp2_with fail
          refine hown.mono ?_
          rintro e V5 ⟨ui, uf, rfl, ho1, ho2, hb5⟩
          obtain ⟨xa, xc, rfl⟩ := own_slice ho1
          obtain ⟨ya, yc, rfl⟩ := own_slice ho2
          have G5 := Lib.hid (hG.out.next hb5)
          have hge : GE w.heap.size V5 (x, .slice xa x.ins.length xc, .slice ya x.found.length yc) := ⟨owns_base ho1 hG.out.bel.size, owns_base ho2 hG.out.bel.size⟩
          have HGE := Lib.hid hge
          have hml : G.length + 1 ≤ maxLen := by unfold maxLen; omega
          have hby : (G.length + 1) * 96 ≤ 140737488355328 := by omega
          have hoa : Hid (∀ ob, (V5.alloc ob).ownsRow w.heap.size 33 6 (.slice pa pn pk) G.length (runV G)) := Lib.hid fun ob => owns_below G5.out.own (Pk.below_alloc _ _)
          have hbs : Hid (∀ ob, w.heap.size ≤ (V5.alloc ob).heap.size) := Lib.hid fun ob => Nat.le_trans G5.out.bel.size (Pk.below_alloc V5 ob).size
          have HN := Lib.hid (run_newsD V5 x (.slice xa x.ins.length xc) (.slice ya x.found.length yc) rfl rfl)
          have HGL := Lib.hid hGl
          clear hown ho1 ho2 hb5 hge hG c0 c1 c2 c3 c4 c5 hlook hname hGl
          go_wp2_with (at_builtin; refine wpList_append_own _ rfl (.tmp 33) (.tmp 41) 47 rfl w.heap.size 33 i0 (.agg #[.string ⟨#[]⟩, .string ⟨#[]⟩, .int .i64 0, .int .i64 0, .slice Option.none 0 0, .slice Option.none 0 0]) 6 96 Try.underlying47 hti hz0 hz1 hz2 rfl (by decide) (.slice pa pn pk) G.length (runV G) rfl (hoa.out _) ⟨V5.heap.size, 0, Option.none⟩ 1 1 [.string x.out, .string x.cmd, .int .i64 x.time, .int .i64 x.mark, .slice xa x.ins.length xc, .slice ya x.found.length yc] rfl rfl HN.out.1 HN.out.2 hml hby (hbs.out _) ?_; intro vn W9 hown9 hg9 _; obtain ⟨va, vc, rfl⟩ := own_slice hown9; have HE9 := Lib.hid (G5.out.snoc HGE.out hg9 hown9); clear hown9 hg9)
          go_roundw
          case rel => exact ⟨j + 1, by omega, by go_num, _, _, _, _, rfl, HE9, Lib.hid (by rw [HFM.out, List.map_append, hE.out]; rfl), by rw [List.length_append, HGL.out]; rfl⟩
          case measure => simp [intOf]; omega
        · obtain rfl : j = NS.length := by omega
          rw [List.take_length] at hE
          go_wp2_with fail
          go_ret
          exact ⟨_, G, NS, rfl, hG.out.own, hG.out.els, hG.out.bel, N1.out, NSO.out, N2.out, hE.out⟩
end Go.Proofs.Ytdijpoemimebmaa.Rn
