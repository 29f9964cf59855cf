/-
  All, WALKED: what was found of any book whose outputs are told apart.
-/
import Derived.Test.YtofdnbddpageoaaNmSort
import Derived.Test.YtofdnbddpageoaaNmAllN
namespace Go.Proofs.Ytofdnbddpageoaa.Nm
open Go.RowKit Go.Maps Go.Sort Go.Shelf

instance : Inhabited ByteArray := ⟨⟨#[]⟩⟩

def findG (G : List Gd) (s : ByteArray) : Gd := (G.find? fun g => decide (g.1.out = s)).getD (⟨s, 0, []⟩, Option.none, 0)
def encG (G : List Gd) (s : ByteArray) : List Value := [.string s, .int .i64 (findG G s).1.time, .slice (findG G s).2.1 (findG G s).1.deps.length (findG G s).2.2]

theorem findG_at {G : List Gd} (hd : (G.map fun g => g.1.out).Nodup) {i : Nat} {g : Gd} (hi : G[i]? = some g) : findG G g.1.out = g := by
  unfold findG
  have : G.find? (fun x => decide (x.1.out = g.1.out)) = some g := by
    rw [List.find?_eq_some_iff_getElem]
    obtain ⟨hil, hie⟩ := List.getElem?_eq_some_iff.1 hi
    refine ⟨by simp, i, hil, hie, fun j hj => ?_⟩
    simp only [Bool.not_eq_true', decide_eq_false_iff_not]
    intro e
    have h1 : (G.map fun g => g.1.out)[j]'(by simp; omega) = (G.map fun g => g.1.out)[i]'(by simp; omega) := by
      simp only [List.getElem_map]
      rw [e, hie]
    exact (List.pairwise_iff_getElem.1 hd) j i (by simp; omega) (by simp; omega) hj h1
  rw [this]
  rfl

set_option maxHeartbeats 1000000 in
theorem cmpD_c (G : List Gd) (x y : ByteArray) (W : World) : Calls Try.prog 44 #[.agg (encG G x).toArray, .agg (encG G y).toArray] W fun e w' => e = .returned (.int .i64 (cfS x y)) ∧ ∃ q os', w' = grow (W.drewN q) os' := by
  have hcon := fun W' => shCompare x y W'
  change ∀ W', Calls Try.prog 45 _ _ _ at hcon
  obtain ⟨r, hr⟩ : ∃ r, cfS x y = r := ⟨_, rfl⟩
  unfold cfS at hr
  rw [hr] at hcon
  have hr2 : cfS x y = r := hr
  rw [hr2]
  unfold encG
  generalize (findG G x).1.time = t1
  generalize (findG G x).2.1 = a1
  generalize (findG G x).1.deps.length = n1
  generalize (findG G x).2.2 = c1
  generalize (findG G y).1.time = t2
  generalize (findG G y).2.1 = a2
  generalize (findG G y).1.deps.length = n2
  generalize (findG G y).2.2 = c2
  clear hr hr2
  go_enter Try.func44, Try.ntmps44
  go_wp2_with (go_at_call 45; refine (hcon _).mono ?_; rintro e w' ⟨rfl, rfl⟩)
  go_ret
  exact ⟨rfl, 0, _, by rw [alloc_eq_grow, alloc_eq_grow, grow_grow]; rfl⟩

theorem mapBlock_other (w : World) (blk : Nat) (f : Array Value → Array Value) {k : Nat} (h : k ≠ blk) : (mapBlock w blk f).heap[k]? = w.heap[k]? := by
  unfold mapBlock
  simp only [Array.getElem?_modify]
  rw [if_neg (fun e => h e.symm)]

theorem sortWorld_other (enc : ByteArray → List Value) (w : World) (blk m : Nat) (dk : Array ByteArray) (os : Array Obj) {k : Nat} (hk : k < w.heap.size) (h : k ≠ blk) : (sortWorldK enc 3 w blk 0 m dk os).heap[k]? = w.heap[k]? := by
  have hz : (putRowK enc 3 (Sort.ahead w m) blk 0 dk).heap.size = w.heap.size := by
    unfold putRowK putRow mapBlock
    simp [Sort.ahead]
  unfold sortWorldK
  rw [heap_grow_old _ _ (by rw [hz]; exact hk)]
  unfold putRowK putRow
  rw [mapBlock_other _ _ _ h]
  rfl
theorem sortWorld_below (enc : ByteArray → List Value) {w0 w : World} {blk m : Nat} {dk : Array ByteArray} {os : Array Obj} (hb : Below w0.heap.size w0 w) (hblk : w0.heap.size ≤ blk) : Below w0.heap.size w0 (sortWorldK enc 3 w blk 0 m dk os) := by
  have hz : (putRowK enc 3 (Sort.ahead w m) blk 0 dk).heap.size = w.heap.size := by
    unfold putRowK putRow mapBlock
    simp [Sort.ahead]
  refine ⟨hb.os, hb.tape, hb.output, ?_, fun k hk => ?_⟩
  · unfold sortWorldK
    rw [size_grow, hz]
    have := hb.size
    omega
  · rw [sortWorld_other _ _ _ _ _ _ (by have := hb.size; omega) (by omega)]
    exact hb.block k hk

/-- the sorted row, read -/
theorem sorted_row {w wr : World} {g c m : Nat} {G : List Gd} {os : Array Obj} (h : AllR w wr (.slice (some ⟨g, 0, Option.none⟩) G.length c) G) (hnd : (G.map fun x => x.1.out).Nodup) (_hne : G ≠ [])
    (hH : HoldsK (encG G) 3 wr g 0 (G.map fun x => x.1.out).toArray) :
    (∀ W : World, (sortWorldK (encG G) 3 wr g 0 m ((G.map fun x => x.1.out).toArray.toList.mergeSort leS).toArray os).heap.size ≤ W.heap.size → (∀ k, w.heap.size ≤ k → k < (sortWorldK (encG G) 3 wr g 0 m ((G.map fun x => x.1.out).toArray.toList.mergeSort leS).toArray os).heap.size → W.heap[k]? = (sortWorldK (encG G) 3 wr g 0 m ((G.map fun x => x.1.out).toArray.toList.mergeSort leS).toArray os).heap[k]?) → DepRow W (.slice (some ⟨g, 0, Option.none⟩) G.length c) (sortD (G.map (·.1)))) ∧ Below w.heap.size w (sortWorldK (encG G) 3 wr g 0 m ((G.map fun x => x.1.out).toArray.toList.mergeSort leS).toArray os) := by
  obtain ⟨hgl, cur, hcur⟩ := owns_block h.own (g := g) rfl
  have hgs := lt_some hcur
  simp only [List.toList_toArray] at *
  obtain ⟨NS, hNS⟩ : ∃ NS, (G.map fun x => x.1.out).mergeSort leS = NS := ⟨_, rfl⟩
  have hperm : NS.Perm (G.map fun x => x.1.out) := by rw [← hNS]; exact List.mergeSort_perm _ _
  have hlen : NS.length = G.length := by rw [hperm.length_eq, List.length_map]
  have hK := holdsK_sortWorldK_c (encG G) 3 wr g 0 (G.map fun x => x.1.out).toArray NS.toArray m os hH hgs (by simp [hlen])
  have hout : (G.map (·.1)).map Dp.out = G.map fun x => x.1.out := by rw [List.map_map]; rfl
  have hfind : ∀ s ∈ NS, ∃ q ∈ G, q.1.out = s ∧ findG G s = q ∧ (G.map (·.1)).find? (fun x => decide (x.out = s)) = some q.1 := fun s hs => by
    have := hperm.mem_iff.1 hs
    obtain ⟨q, hq, rfl⟩ := List.mem_map.1 this
    obtain ⟨i, hi⟩ := List.mem_iff_getElem?.1 hq
    have hf := findG_at hnd hi
    refine ⟨q, hq, rfl, hf, ?_⟩
    rw [List.find?_map]
    have hcomp : ((fun x : Dp => decide (x.out = q.1.out)) ∘ fun x : Gd => x.1) = fun g : Gd => decide (g.1.out = q.1.out) := rfl
    rw [hcomp]
    unfold findG at hf
    cases e : G.find? (fun g => decide (g.1.out = q.1.out)) with
    | none =>
      rw [List.find?_eq_none] at e
      have := e q hq
      simp at this
    | some z => rw [e] at hf; simp at hf; rw [hf]; rfl
  have hsd : sortD (G.map (·.1)) = NS.map fun s => (findG G s).1 := by
    unfold sortD
    rw [hout, hNS]
    have : ∀ (M : List ByteArray), (∀ s ∈ M, s ∈ NS) → (M.filterMap fun s => (G.map (·.1)).find? fun x => decide (x.out = s)) = M.map fun s => (findG G s).1 := by
      intro M
      induction M with
      | nil => intro _; rfl
      | cons s M ih =>
        intro hM
        obtain ⟨q, _, _, h3, h4⟩ := hfind s (hM s (by simp))
        rw [List.filterMap_cons, h4, List.map_cons, ih (fun x hx => hM x (by simp [hx])), h3]
    exact this NS fun s hs => hs
  rw [hNS, hsd]
  have hSz : wr.heap.size ≤ (sortWorldK (encG G) 3 wr g 0 m NS.toArray os).heap.size := by
    unfold sortWorldK putRowK putRow mapBlock
    simp [Sort.ahead]
  refine ⟨fun W hWs hW => ⟨_, c, ?_, ?_, .inr ⟨g, 0, rfl, ?_, fun i x hx => ?_⟩⟩, sortWorld_below _ h.bel hgl⟩
  · rw [List.length_map, hlen]
  · rw [List.length_map, hlen]
    exact own_cap h.own
  · omega
  · rw [List.getElem?_map] at hx
    obtain ⟨s, hs, rfl⟩ := Option.map_eq_some_iff.1 hx
    obtain ⟨hil, hie⟩ := List.getElem?_eq_some_iff.1 hs
    obtain ⟨q, hq, ho, hf, -⟩ := hfind s (List.mem_of_getElem? hs)
    have e0 : NS.toArray[i]! = s := by simp [hil, hie]
    have k0 := (hK.cell (i := i) (c := 0) (by simp; omega) (by omega)).1
    have k1 := (hK.cell (i := i) (c := 1) (by simp; omega) (by omega)).1
    have k2 := (hK.cell (i := i) (c := 2) (by simp; omega) (by omega)).1
    rw [e0] at k0 k1 k2
    have hgW := hW g hgl (by omega)
    rw [← cell_of_block hgW] at k0 k1 k2
    refine ⟨q.v, ?_, ?_, ?_, ?_, ?_⟩
    · rw [hf, ho]; exact k0
    · rw [hf]
      have : (encG G s)[1]! = .int .i64 q.1.time := by unfold encG; rw [hf]; rfl
      rw [this] at k1
      exact k1
    · have : (encG G s)[2]! = q.v := by unfold encG; rw [hf]; rfl
      rw [this] at k2
      exact k2
    · rw [hf]
      have hel := h.els q hq
      refine (strRow_of (owns_kept hel fun k hk => (hW k (hel.lt k hk).1 (by have := (hel.lt k hk).2; omega)).trans (sortWorld_other _ _ _ _ _ _ (hel.lt k hk).2 ?_))).1
      obtain ⟨_, _, x1⟩ := owns_block hel hk
      exact ne_type x1 hcur (by decide)
    · exact (strRow_of (h.els q hq)).2

theorem holds_row {w wr : World} {g c : Nat} {G : List Gd} (h : AllR w wr (.slice (some ⟨g, 0, Option.none⟩) G.length c) G) (hnd : (G.map fun x => x.1.out).Nodup) : HoldsK (encG G) 3 wr g 0 (G.map fun x => x.1.out).toArray := by
  intro t ht
  rw [size_flatK] at ht
  have ht' : t < G.length * 3 := by simpa using ht
  have hi : t / 3 < G.length := by omega
  have hx := List.getElem?_eq_getElem hi
  have hf := findG_at hnd hx
  obtain ⟨d0, d1, d2⟩ := depV_get G (t / 3) _ hx
  have e1 : (G.map fun x => x.1.out).toArray[t / 3]! = (G[t / 3]).1.out := by simp [hi]
  have e2 : id (flatK (encG G) 3 (G.map fun x => x.1.out).toArray)[t]! = (encG G (G[t / 3]).1.out)[t % 3]! := by
    show (flatK (encG G) 3 (G.map fun x => x.1.out).toArray)[t]! = _
    rw [get_flatK _ _ _ _ ht, e1]
  have hv : (depV G)[t]? = some ((encG G (G[t / 3]).1.out)[t % 3]!) := by
    unfold encG
    rw [hf]
    have h3 : t % 3 = 0 ∨ t % 3 = 1 ∨ t % 3 = 2 := by omega
    rcases h3 with h3 | h3 | h3
    · rw [h3, show (depV G)[t]? = (depV G)[t / 3 * 3]? by congr 1; omega, d0]; rfl
    · rw [h3, show (depV G)[t]? = (depV G)[t / 3 * 3 + 1]? by congr 1; omega, d1]; rfl
    · rw [h3, show (depV G)[t]? = (depV G)[t / 3 * 3 + 2]? by congr 1; omega, d2]; rfl
  rw [e2, Nat.zero_add]
  refine ⟨?_, h.own.frozenAt t⟩
  rcases own_at h.own with ⟨e, h0⟩ | ⟨g', cap, e, _, _, _, hc⟩
  · cases e
  · cases e
    exact hc t _ hv

theorem foundAt_len {B : Bo} (hl : B.F.length = B.N.length) (j : Nat) (hj : j < B.F.length) : (∃ fd nm, B.F[j]? = some (some fd) ∧ B.N[j]? = some nm ∧ foundAt B j = some (depOf B.N nm fd)) ∨ (B.F[j]? = some Option.none ∧ foundAt B j = Option.none) := by
  have hx := List.getElem?_eq_getElem hj
  have hy := List.getElem?_eq_getElem (show j < B.N.length by omega)
  cases e : B.F[j] with
  | none =>
    rw [e] at hx
    exact .inr ⟨hx, by unfold foundAt; rw [hy, hx]; rfl⟩
  | some fd =>
    rw [e] at hx
    exact .inl ⟨fd, _, hx, hy, by unfold foundAt; rw [hy, hx]; rfl⟩

set_option maxRecDepth 100000 in
set_option maxHeartbeats 4000000 in
theorem allD_c {b lo hi : Nat} {w : World} {p : Nat} {B : Bo} (h : Own b lo hi w p B) (hnd : ((foundL B B.F.length).map Dp.out).Nodup) :
    Calls Try.prog 23 #[.pointer (some ⟨p, 0, Option.none⟩)] w fun e w' => ∃ a c, e = .returned (.slice a (allL B).length c) ∧ (∀ W : World, w'.heap.size ≤ W.heap.size → (∀ k, w.heap.size ≤ k → k < w'.heap.size → W.heap[k]? = w'.heap[k]?) → DepRow W (.slice a (allL B).length c) (allL B)) ∧ Below w.heap.size w w' := by
  have HO := Lib.hid h
  obtain ⟨S, v1, v2, v3, Q, h1, -⟩ := h
  obtain ⟨-, -, c2, -⟩ := h1.cells
  have hlenF := h1.len
  have hfew : B.F.length ≤ 1000000 := by rw [h1.len]; exact h1.few
  obtain ⟨a3, c3, rfl⟩ := own_slice h1.found
  have hle := own_cap h1.found
  have hcell : ∀ (j : Nat) (hj : j < B.F.length), ∃ g, a3 = some ⟨g, 0, Option.none⟩ ∧ g < w.heap.size ∧ ((∃ fd nm q, B.F[j]? = some (some fd) ∧ B.N[j]? = some nm ∧ foundAt B j = some (depOf B.N nm fd) ∧ w.cell? ⟨g, j, Option.none⟩ = some (.pointer (some ⟨q, 0, Option.none⟩))) ∨ (foundAt B j = Option.none ∧ w.cell? ⟨g, j, Option.none⟩ = some (.pointer Option.none))) := fun j hj => by
    rcases own_at h1.found with ⟨e, h0⟩ | ⟨g, cap, e, _, hlt, _, hc⟩
    · omega
    · cases e
      refine ⟨g, rfl, hlt, ?_⟩
      rcases foundAt_len hlenF j hj with ⟨fd, nm, k1, k2, k3⟩ | ⟨k1, k2⟩
      · obtain ⟨q, hq, -⟩ := h1.yes j fd k1
        exact .inl ⟨fd, nm, q, k1, k2, k3, hc j _ (by rw [List.getElem?_map, hq]; rfl)⟩
      · exact .inr ⟨k2, hc j _ (by rw [List.getElem?_map, h1.no j k1]; rfl)⟩
  have HC := Lib.hid hcell
  have HND := Lib.hid hnd
  have EL : Hid (allL B = sortD (foundL B B.F.length)) := Lib.hid rfl
  have hpl := lt_some h1.box
  obtain ⟨n, hn⟩ : ∃ n, B.F.length = n := ⟨_, rfl⟩
  rw [hn] at HC HND EL c2 hle hfew
  clear h1 hcell hnd hn
  go_enter Try.func23, Try.ntmps23
  go_wp2_with fail
  go_loopw [3, 13] (fun va i wr => ∃ j : Nat, j ≤ n ∧ i = .int .i64 j ∧ ∃ G : List Gd, Hid (G.map (·.1) = foundL B j) ∧ Hid (AllR w wr va G)) (fun _ i _ => n - (intOf i).toNat)
  case atStart => exact ⟨0, Nat.zero_le _, rfl, [], Lib.hid rfl, Lib.hid ⟨World.ownsRow_nil _ _ _ _, fun g hg => by simp at hg, Below.refl _ _⟩⟩
  case round =>
    obtain ⟨j, hj, rfl, G, hG, hR⟩ := hrel
    have hGl : G.length ≤ j := by
      have e : G.length = (foundL B j).length := by rw [← hG.out, List.length_map]
      have : (foundL B j).length ≤ j := by
        unfold foundL
        have := List.length_filterMap_le (foundAt B) (List.range j)
        rw [List.length_range] at this
        exact this
      omega
    obtain ⟨va, vc, rfl⟩ := own_slice hR.out.own
    by_cases hlt : j < n
    · obtain ⟨g, rfl, hg, hcase⟩ := HC.out j hlt
      have hi0 : (0 : Int) ≤ (j : Int) := by omega
      have hi1 : (j : Int) < (n : Int) := by omega
      rcases hcase with ⟨fd, nm, q, k1, k2, k3, hx⟩ | ⟨k3, hx⟩
      · have hx' := (cell_of_block (hR.out.bel.block g hg)).trans hx
        have cd := dep_c (HO.out.below hR.out.bel) k1 k2
        have HNX : Hid (foundL B (j + 1) = foundL B j ++ [depOf B.N nm fd]) := Lib.hid (by rw [foundL_succ, k3]; rfl)
        clear k1 k2 k3 hx
        go_wp2_with fail
        refine cd.mono ?_
        rintro e w1 ⟨da, dc, rfl, ho, hb1⟩
        have hR1 := hR.out.below hb1
        have hdl : (fd.nums.map (nameAt B.N)).length = fd.nums.length := List.length_map _
        have ho1 : w1.ownsRow w.heap.size 9 1 (Gd.v (depOf B.N nm fd, da, dc)) (depOf B.N nm fd).deps.length (strV (depOf B.N nm fd).deps) := by
          show World.ownsRow _ _ _ _ (.slice da (fd.nums.map (nameAt B.N)).length dc) (fd.nums.map (nameAt B.N)).length (strV (fd.nums.map (nameAt B.N)))
          rw [hdl]
          exact owns_base ho hR.out.bel.size
        obtain ⟨a9, c9, w9, hr9, hR9⟩ := dep_app (g := (depOf B.N nm fd, da, dc)) (ty := 53) hR1 ho1 (by omega)
        have hr9' : (Builtin.append_ #[53, 53] 53 #[.slice va G.length vc, .slice (some ⟨w1.heap.size, 0, Option.none⟩) 1 1]).run Try.prog (w1.alloc (.cells #[.string nm, .int .i64 (fd.time : Int), .slice da fd.nums.length dc] 39)) = .ok (.slice a9 (G.length + 1) c9) w9 := by
          have := hr9
          simp only [Gd.v, depOf, hdl] at this
          exact this
        have HR9 := Lib.hid hr9'
        have HRR := Lib.hid hR9
        clear cd ho hb1 ho1 hr9 hr9' hR9 hR1
        go_wp2_with (at_builtin; refine wpList_run rfl (.tmp 20) (.tmp 24) rfl rfl rfl HR9.out ?_)
        go_roundw
        case rel => exact ⟨j + 1, by omega, by go_num, G ++ [(depOf B.N nm fd, da, dc)], Lib.hid (by rw [List.map_append, hG.out, HNX.out]; rfl), by have := HRR.out; rw [List.length_append] at this; exact Lib.hid this⟩
        case measure => simp [intOf]; omega
      · have hx' := (cell_of_block (hR.out.bel.block g hg)).trans hx
        have HNX : Hid (foundL B (j + 1) = foundL B j) := Lib.hid (by rw [foundL_succ, k3]; simp)
        clear k3 hx
        go_wp2_with fail
        go_roundw
        case rel => exact ⟨j + 1, by omega, by go_num, G, Lib.hid (by rw [hG.out, HNX.out]), hR⟩
        case measure => simp [intOf]; omega
    · obtain rfl : j = n := by omega
      have hGout : (G.map fun x => x.1.out).Nodup := by
        have := HND.out
        rw [← hG.out, List.map_map] at this
        exact this
      have hAL : allL B = sortD (G.map (·.1)) := by rw [EL.out, hG.out]
      by_cases hGn : G = []
      · subst hGn
        have hs := sort_none wr va vc (.func (.func 44) #[] #[])
        have hAL0 : allL B = [] := by rw [hAL]; simp [sortD]
        have HAL := Lib.hid hAL0
        have HB := Lib.hid hR.out.bel
        clear hAL hAL0 hGout hR hG
        go_wp2_with fail
        refine hs.mono ?_
        rintro e w1 ⟨rfl, rfl⟩
        clear hs
        go_wp2_with fail
        go_ret
        exact ⟨va, vc, by rw [HAL.out]; rfl, by rw [HAL.out]; exact fun W _ _ => ⟨_, _, rfl, Nat.zero_le _, .inl rfl⟩, HB.out⟩
      · have hGl0 : 0 < G.length := List.length_pos_iff.2 hGn
        obtain ⟨gb, rfl, hgb⟩ : ∃ g, va = some ⟨g, 0, Option.none⟩ ∧ g < wr.heap.size := by
          rcases own_at hR.out.own with ⟨e, h0⟩ | ⟨g, cap, e, _, hlt, _, _⟩
          · omega
          · cases e
            exact ⟨g, rfl, hlt⟩
        have hH := holds_row hR.out hGout
        have hsz : (G.map fun x => x.1.out).toArray.size = G.length := by simp
        have hs := AnyQ.slices_SortFunc_total shsortD 3 Try.isAgg39 Try.sizeOf39 (encG G) (fun _ => rfl) (fun x v hv => by simp [encG] at hv; rcases hv with rfl | rfl | rfl <;> rfl) cfS swoS 44 #[] gb 0 vc (G.map fun x => x.1.out).toArray wr (enters_of Try.func44 (by kernel_rfl) rfl) (fun m os dk _ x y => cmpD_c G x y _) hH hgb (by rw [hsz]; omega) totS
        change Calls Try.prog 43 _ _ _ at hs
        rw [hsz] at hs
        have HSR := Lib.hid (fun m os => sorted_row (m := m) (os := os) hR.out hGout hGn hH)
        have HAL := Lib.hid hAL
        have hGlen : G.length = (allL B).length := by
          have := (HSR.out 0 #[]).1 _ (Nat.le_refl _) (fun _ _ _ => rfl)
          obtain ⟨_, _, e, _⟩ := this
          rw [hAL]
          exact (Value.slice.inj e).2.1
        have HGL := Lib.hid hGlen
        clear hG hGout hAL hH hsz hGlen
        go_wp2_with fail
        refine hs.mono ?_
        rintro e w1 ⟨rfl, m, os, hw0⟩
        have hw1 : w1 = sortWorldK (encG G) 3 wr gb 0 m ((G.map fun x => x.1.out).toArray.toList.mergeSort leS).toArray os := hw0
        have hfin := HSR.out m os
        rw [← hw1] at hfin
        have HF := Lib.hid hfin
        clear hs hw1 hw0 hfin HSR
        go_wp2_with fail
        go_ret
        exact ⟨some ⟨gb, 0, Option.none⟩, vc, by rw [← HGL.out]; rfl, by rw [← HGL.out, HAL.out]; exact HF.out.1, HF.out.2⟩
end Go.Proofs.Ytofdnbddpageoaa.Nm
