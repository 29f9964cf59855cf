/-
  A Ytofdnbddpageoaa's RECORD: takeName, walked.
-/
import Derived.Test.YtofdnbddpageoaaNmPut
import Derived.Test.YtofdnbddpageoaaNmTake
import Derived.Test.YtofdnbddpageoaaRgHold
import Derived.Deep.DeepCutAuto
namespace Go.Proofs.Ytofdnbddpageoaa.Nm
open Go.RowKit Go.Maps

/-- what a record's kind comes to -/
def TkQ (S : Nat → Prop) (w : World) (r p : Nat) (B : Bo) (R : Option Bo) (e : Ending) (w' : World) : Prop :=
  e = .returned (.bool R.isSome) ∧ (∃ v1 v2 v3 Q, Bk (more S w w') w' p (R.getD B) v1 v2 v3 Q) ∧ Mod (fun k => S k ∨ k = r) w w'

theorem two_start {S : Nat → Prop} {W W2 : World} {p m : Nat} {B : Bo} {v1 v3 : Value} {Q : List (Option Nat)} (h : Bk S W p B v1 (.map (some m)) v3 Q) (hg : W.grownBy W2 (some m)) : Two W2.drew W2.drew v1 v3 v1 v3 (strV B.N) (Q.map ptrO) := by
  obtain ⟨es, c, hm⟩ := h.map.blk rfl
  have k1 : ∀ g, v1.ownBlock = some g → W2.heap[g]? = W.heap[g]? := fun g hg1 => hg.block g (h.names.lt g hg1).2 fun e => by
    obtain ⟨_, cur, hc⟩ := owns_block h.names hg1
    obtain rfl : g = m := Option.some.inj e
    exact map_ne hc hm rfl
  have k3 : ∀ g, v3.ownBlock = some g → W2.heap[g]? = W.heap[g]? := fun g hg1 => hg.block g (h.found.lt g hg1).2 fun e => by
    obtain ⟨_, cur, hc⟩ := owns_block h.found hg1
    obtain rfl : g = m := Option.some.inj e
    exact map_ne hc hm rfl
  refine ⟨?_, ?_, fun k hk => .inl hk, fun k hk => .inl hk, rfl, rfl, rfl, Nat.le_refl _, fun _ _ _ _ => rfl⟩
  · have := owns_kept (w' := W2.drew) h.names k1
    simpa [strV] using this
  · have := owns_kept (w' := W2.drew) h.found k3
    rw [List.length_map, h.qlen]
    exact this

theorem two_box {w W : World} {v1 v3 n1 f1 : Value} {xs ys : List Value} {p : Nat} {C : Array Value} {k1 k3 : Nat} {u1 u3 : List Value} (h : Two w W v1 v3 n1 f1 xs ys) (hb : w.heap[p]? = some (.cells C 69 (0, 0))) (hx : w.ownsRow 0 9 1 v1 k1 u1) (hy : w.ownsRow 0 85 1 v3 k3 u3) : W.heap[p]? = some (.cells C 69 (0, 0)) :=
  (h.block p (lt_some hb) (fun e => by
    obtain ⟨_, cur, hc⟩ := owns_block hx e
    exact ne_type hb hc (by decide) rfl) (fun e => by
    obtain ⟨_, cur, hc⟩ := owns_block hy e
    exact ne_type hb hc (by decide) rfl)).trans hb

theorem more_more {S S2 : Nat → Prop} {w W W5 : World} (h2 : ∀ k, S2 k → more S w W k) (h1 : w.heap.size ≤ W.heap.size) (h5 : W.heap.size ≤ W5.heap.size) : ∀ k, more S2 W W5 k → more S w W5 k := fun k hk => by
  rcases hk with hk | hk
  · rcases h2 k hk with h | h
    · exact .inl h
    · exact .inr ⟨h.1, by omega⟩
  · exact .inr ⟨by omega, hk.2⟩

theorem mapI_yes (w : World) : (binOp BinOp.eql 66 (.map Option.none) (.map Option.none)).run Try.prog w = .ok (.bool true) w := by kernel_rfl
theorem mapI_no (w : World) (m : Nat) : (binOp BinOp.eql 66 (.map (some m)) (.map Option.none)).run Try.prog w = .ok (.bool false) w := by kernel_rfl

set_option maxRecDepth 100000 in
set_option maxHeartbeats 8000000 in
/-- behind the reading: the name is put -/
theorem name_end {S S2 : Nat → Prop} {w W : World} {r p m : Nat} {B : Bo} {v1 v3 : Value} {Q : List (Option Nat)} {s : ByteArray} {R : Option Bo} (h : Bk S2 W p B v1 (.map (some m)) v3 Q) (hs : s.size ≤ 1000000) (hN : B.N.length < 1000000) (hx : ixOf B.N s = Option.none)
    (hS2 : ∀ k, S2 k → more S w W k) (hM : Mod (fun k => S k ∨ k = r) w W) (hR : R = some ⟨B.N ++ [s], B.F ++ [Option.none]⟩) {W2 W4 : World} {n1 f1 : Value}
    (hmi : Mi W2 (B.N.length + 1) m (ofN (B.N ++ [s]))) (hg : W.grownBy W2 (some m)) (hz : W2.heap.size = W.heap.size)
    (hT : Two W2.drew W4 v1 v3 n1 f1 (strV B.N ++ [.string s]) (Q.map ptrO ++ [.pointer Option.none])) :
    TkQ S w r p B R (.returned (.bool true)) ((W4.setCell ⟨p, 0, Option.none⟩ n1).setCell ⟨p, 2, Option.none⟩ f1) := by
  obtain ⟨h1, h2⟩ := bk_named h hs hN hmi hg hz hT
  subst hR
  refine ⟨rfl, ⟨_, _, _, _, h1.wide (more_more hS2 hM.size h2.size)⟩, ?_⟩
  refine ⟨h2.os.trans hM.os, h2.tape.trans hM.tape, h2.output.trans hM.output, Nat.le_trans hM.size h2.size, fun k hk hns => (h2.block k (Nat.lt_of_lt_of_le hk hM.size) fun hk2 => ?_).trans (hM.block k hk hns)⟩
  rcases hS2 k hk2 with h3 | h3
  · exact hns (.inl h3)
  · omega

set_option maxRecDepth 100000 in
set_option maxHeartbeats 8000000 in
theorem takeName_c {S : Nat → Prop} {w : World} {p r g : Nat} {B : Bo} {v1 v2 v3 : Value} {Q : List (Option Nat)} {l : List Nat} (h : Bk S w p B v1 v2 v3 Q) (hr : Pk.Rd w r g l false) (hS : ¬ S r) (hl : l.length ≤ 1000000) (hb : ∀ n ∈ l, n < 256) (hN : B.N.length < 1000000) :
    Calls Try.prog 34 #[.pointer (some ⟨p, 0, Option.none⟩), .pointer (some ⟨r, 0, Option.none⟩)] w (TkQ S w r p B (takeN B l)) := by
  have ht := Pk.textr_any r g l false w hr hl hb
  obtain ⟨s, hs⟩ : ∃ s, s = Pk.str (Pk.txS l) := ⟨_, rfl⟩
  have hs1 : s.size ≤ 1000000 := by
    rw [hs, Pk.str_size]
    unfold Pk.txS Pk.nx
    have := Pk.rdL_le 2 l
    split
    · rw [List.length_take]; omega
    · simp
  have HT : Hid (takeN B l = if Pk.txB l false = false ∧ Pk.txL l = [] ∧ ixOf B.N s = Option.none then some ⟨B.N ++ [s], B.F ++ [Option.none]⟩ else Option.none) := Lib.hid (by rw [hs]; rfl)
  rw [← hs] at ht
  clear hs
  go_enter Try.func34, Try.ntmps34
  go_wp2_with fail
  refine ht.mono ?_
  rintro e w1 ⟨rfl, hr1, ho1⟩
  have h1 : Bk S w1 p B v1 v2 v3 Q := h.keep fun k hk hkl => ho1.block k hkl (by rintro rfl; exact hS hk)
  have hM1 : Mod (fun k => S k ∨ k = r) w w1 := ⟨ho1.os, ho1.tape, ho1.output, ho1.size, fun k hk hn => ho1.block k hk fun e => hn (.inr e)⟩
  have hlook := h1.map.look (s := s) (by unfold maxLen; omega)
  rw [ofN_at] at hlook
  have hwh := Nm.whole_c r g _ _ w1 hr1
  obtain ⟨c0, c1, c2, f0, f1, f2⟩ := h1.cells
  have H1 := Lib.hid h1
  have HM1 := Lib.hid hM1
  clear ht h hr hr1 ho1 h1 hM1
  cases hx : ixOf B.N s with
  | some i =>
    rw [hx] at hlook
    have hlook' : (Instr.lookup 66 v2 (.string s) true).run Try.prog w1 = .ok (.tuple #[.int .i64 (i : Int), .bool true]) w1 := hlook
    have HR : Hid (takeN B l = Option.none) := Lib.hid (by rw [HT.out, if_neg (by rw [hx]; simp)])
    clear hlook hwh hx HT
    go_wp2_with fail
    go_ret
    rw [HR.out]
    exact ⟨rfl, ⟨_, _, _, _, H1.out.wide fun k hk => .inl hk⟩, HM1.out⟩
  | none =>
    rw [hx] at hlook
    have hlook' : (Instr.lookup 66 v2 (.string s) true).run Try.prog w1 = .ok (.tuple #[.int .i64 0, .bool false]) w1 := hlook
    have HX := Lib.hid hx
    clear hlook hx
    go_wp2_with fail
    refine hwh.mono ?_
    rintro e w2 ⟨rfl, rfl⟩
    clear hwh
    by_cases hok : Pk.txB l false = false ∧ Pk.txL l = []
    · have hz : (!Pk.txB l false && (Pk.txL l).isEmpty) = true := by rw [hok.1, hok.2]; rfl
      rw [hz]
      have HR : Hid (takeN B l = some ⟨B.N ++ [s], B.F ++ [Option.none]⟩) := Lib.hid (by rw [HT.out, if_pos ⟨hok.1, hok.2, HX.out⟩])
      clear hz hok HT hlook'
      have hx := HX
      rcases H1.out.map with ⟨rfl, _⟩ | ⟨m, rfl, _⟩
      · have hmk := @run_makeMap Try.prog
        have hyes := mapI_yes w1
        obtain ⟨h2, hm2⟩ := bk_mapped H1.out
        have hpl := lt_some H1.out.box
        have k1 : (w1.alloc (.map #[] 0)).cell? ⟨p, 1, Option.none⟩ = some (.map Option.none) := (cell_of_block (Below.heap_alloc _ _ _ hpl)).trans c1
        have k2 : (w1.alloc (.map #[] 0)).frozen? ⟨p, 1, Option.none⟩ = false := by
          have := (Below.heap_alloc w1 (.map #[] 0) p hpl).trans H1.out.box
          simp [World.frozen?, this]
        clear hpl
        go_upto_region 7 with fail
        have hS2 : Hid (∀ k, more S w1 ((w1.alloc (.map #[] 0)).setCell ⟨p, 1, Option.none⟩ (.map (some w1.heap.size))) k → more S w ((w1.alloc (.map #[] 0)).setCell ⟨p, 1, Option.none⟩ (.map (some w1.heap.size))) k) := Lib.hid fun k hk => by
          rcases hk with hk | hk
          · exact .inl hk
          · exact .inr ⟨by have := HM1.out.size; omega, hk.2⟩
        have hM2 : Hid (Mod (fun k => S k ∨ k = r) w ((w1.alloc (.map #[] 0)).setCell ⟨p, 1, Option.none⟩ (.map (some w1.heap.size)))) := Lib.hid (HM1.out.trans2 ⟨hm2.os, hm2.tape, hm2.output, hm2.size, fun k hk hn => hm2.block k hk fun hs => hn (.inl hs)⟩)
        clear hm2 hmk hyes k1 k2 c0 c1 c2 f0 f1 f2
        generalize hgm : w1.heap.size = m at *
        generalize hgW : (w1.alloc (.map #[] 0)).setCell ⟨p, 1, Option.none⟩ (.map (some m)) = W at *
        clear hgm hgW H1 HM1
        obtain ⟨a1, c1, rfl⟩ := own_slice h2.names
        obtain ⟨a3, c3, rfl⟩ := own_slice h2.found
        obtain ⟨c0, d1, c2, f0, f1, f2⟩ := h2.cells
        have hmiW : Mi W B.N.length m (ofN B.N) := by
          rcases h2.map with ⟨e, _⟩ | ⟨m', e, hm⟩
          · cases e
          · cases e; exact hm
        obtain ⟨W2, hput, hmi, hg, hz⟩ := (hmiW.kept (w' := W.drew) rfl).put (s := s) (by unfold maxLen; omega) (by unfold maxLen; omega) B.N.length
        rw [ofN_put hx.out] at hmi
        have hg' : W.grownBy W2 (some m) := ⟨hg.os, hg.tape, hg.output, hg.size, hg.block⟩
        have hz' : W2.heap.size = W.heap.size := hz
        have hb2 : W2.heap[p]? = some (.cells #[.slice a1 B.N.length c1, .map (some m), .slice a3 B.F.length c3] 69 (0, 0)) := (hg'.block p (lt_some h2.box) (fun e => h2.ne2 (by rw [e]; rfl))).trans h2.box
        have i0 : W2.cell? ⟨p, 0, Option.none⟩ = some (.slice a1 B.N.length c1) := by simp [World.cell?, hb2]
        have i1 : W2.cell? ⟨p, 1, Option.none⟩ = some (.map (some m)) := by simp [World.cell?, hb2]
        have c0' : W.drew.cell? ⟨p, 0, Option.none⟩ = some (.slice a1 B.N.length c1) := c0
        have d1' : W.drew.cell? ⟨p, 1, Option.none⟩ = some (.map (some m)) := d1
        obtain ⟨ys, hys⟩ : ∃ ys, Q.map ptrO = ys := ⟨_, rfl⟩
        have hT0 := two_start h2 hg'
        rw [hys] at hT0
        have T0 := Lib.hid hT0
        have HYS := Lib.hid hys
        have hb2d : W2.drew.heap[p]? = some (.cells #[.slice a1 B.N.length c1, .map (some m), .slice a3 B.F.length c3] 69 (0, 0)) := hb2
        have SB : Hid (∀ W' n f xs ys, Two W2.drew W' (.slice a1 B.N.length c1) (.slice a3 B.F.length c3) n f xs ys → (W'.cell? ⟨p, 0, Option.none⟩ = some (.slice a1 B.N.length c1) ∧ W'.cell? ⟨p, 2, Option.none⟩ = some (.slice a3 B.F.length c3))) := Lib.hid fun W' n f xs ys hT => by
          have := two_box hT hb2d T0.out.names T0.out.found
          simp [World.cell?, this]
        have SC : Hid (∀ W' n f xs ys, Two W2.drew W' (.slice a1 B.N.length c1) (.slice a3 B.F.length c3) n f xs ys → (W'.cell? ⟨p, 0, Option.none⟩ = some (.slice a1 B.N.length c1) ∧ W'.cell? ⟨p, 2, Option.none⟩ = some (.slice a3 B.F.length c3) ∧ W'.frozen? ⟨p, 0, Option.none⟩ = false ∧ W'.frozen? ⟨p, 2, Option.none⟩ = false)) := Lib.hid fun W' n f xs ys hT => by
          have := two_box hT hb2d T0.out.names T0.out.found
          simp [World.cell?, World.frozen?, this]
        have FIN : Hid (∀ W4 n1 f1, Two W2.drew W4 (.slice a1 B.N.length c1) (.slice a3 B.F.length c3) n1 f1 (strV B.N ++ [.string s]) (ys ++ [.pointer Option.none]) → TkQ S w r p B (takeN B l) (.returned (.bool true)) ((W4.setCell ⟨p, 0, Option.none⟩ n1).setCell ⟨p, 2, Option.none⟩ f1)) := Lib.hid fun W4 n1 f1 hT => name_end h2 hs1 hN hx.out hS2.out hM2.out HR.out hmi hg' hz' (by rw [HYS.out]; exact hT)
        have LEN1 : Hid ((strV B.N).length ≤ 2000000) := Lib.hid (by simp [strV]; omega)
        have LEN3 : Hid (ys.length ≤ 2000000) := Lib.hid (by rw [← hys, List.length_map, h2.qlen, h2.len]; omega)
        have H2 := Lib.hid h2
        clear hys hT0 h2 hmi hg hg' hz hz' hb2 hb2d hmiW f0 f1 f2 c2
        go_region_held3 (fun w' => w'.cell? ⟨p, 0, Option.none⟩ = some (.slice a1 B.N.length c1) ∧ w'.cell? ⟨p, 1, Option.none⟩ = some (.map (some m))) (first | exact ⟨c0', d1'⟩ | exact ⟨i0, i1⟩ | fail) (first | fail)
        go_wp2_with fail
        refine wp_region_noPanic ?_
        refine Nt.wp_region_N 17 (fun w' => w'.cell? ⟨p, 0, Option.none⟩ = some (.slice a1 B.N.length c1) ∧ w'.cell? ⟨p, 2, Option.none⟩ = some (.slice a3 B.F.length c3)) (by kernel_rfl) ?_
        generalize W2.drew = W3 at *
        refine Nt.takeT (i := 0) (oi := { dst := some 44, op := Op.move (Operand.tmp 0), type := 24, pos := _, after := #[], guard := Option.none }) (v := ?_) rfl (by kernel_rfl) (by kernel_rfl) (by kernel_rfl) (by kernel_rfl) (fun _ _ _ h => h) (Or.inl ⟨by rfl, ?_⟩) (fun _ => (SB.out _ _ _ _ _ T0.out)) ?_
        rotate_left 1
        · intro w hSw
          try dsimp only at hSw
          go_simp
          first | done | with_reducible rfl
        try simp only [Act.put, List.setIfInBounds_toArray, List.set_cons_zero, List.set_cons_succ]
        refine Nt.takeT (i := 1) (oi := { dst := some 45, op := Op.move (Operand.tmp 0), type := 24, pos := _, after := #[{ on := 17, ground := Ground.gcOnly Departure.lateStores }], guard := Option.none }) (v := ?_) rfl (by kernel_rfl) (by kernel_rfl) (by kernel_rfl) (by kernel_rfl) (fun _ _ _ h => h) (Or.inl ⟨by rfl, ?_⟩) (fun _ => (SB.out _ _ _ _ _ T0.out)) ?_
        rotate_left 1
        · intro w hSw
          try dsimp only at hSw
          go_simp
          first | done | with_reducible rfl
        try simp only [Act.put, List.setIfInBounds_toArray, List.set_cons_zero, List.set_cons_succ]
        refine Nt.takeT (i := 2) (oi := { dst := some 46, op := Op.move (Operand.tmp 0), type := 24, pos := _, after := #[], guard := Option.none }) (v := ?_) rfl (by kernel_rfl) (by kernel_rfl) (by kernel_rfl) (by kernel_rfl) (fun _ _ _ h => h) (Or.inl ⟨by rfl, ?_⟩) (fun _ => (SB.out _ _ _ _ _ T0.out)) ?_
        rotate_left 1
        · intro w hSw
          try dsimp only at hSw
          go_simp
          first | done | with_reducible rfl
        try simp only [Act.put, List.setIfInBounds_toArray, List.set_cons_zero, List.set_cons_succ]
        refine Nt.takeT (i := 3) (oi := { dst := some 47, op := Op.nilCheck (Operand.tmp 46), type := 0, pos := _, after := #[{ on := 2, ground := Ground.data }], guard := Option.none }) (v := ?_) rfl (by kernel_rfl) (by kernel_rfl) (by kernel_rfl) (by kernel_rfl) (fun _ _ _ h => h) (Or.inl ⟨by rfl, ?_⟩) (fun _ => (SB.out _ _ _ _ _ T0.out)) ?_
        rotate_left 1
        · intro w hSw
          try dsimp only at hSw
          go_simp
          first | done | with_reducible rfl
        try simp only [Act.put, List.setIfInBounds_toArray, List.set_cons_zero, List.set_cons_succ]
        refine Nt.takeT (i := 4) (oi := { dst := some 48, op := Op.fieldAddr 69 (Operand.tmp 47) 0, type := 0, pos := _, after := #[{ on := 3, ground := Ground.data }], guard := Option.none }) (v := ?_) rfl (by kernel_rfl) (by kernel_rfl) (by kernel_rfl) (by kernel_rfl) (fun _ _ _ h => h) (Or.inl ⟨by rfl, ?_⟩) (fun _ => (SB.out _ _ _ _ _ T0.out)) ?_
        rotate_left 1
        · intro w hSw
          try dsimp only at hSw
          go_simp
          first | done | with_reducible rfl
        try simp only [Act.put, List.setIfInBounds_toArray, List.set_cons_zero, List.set_cons_succ]
        refine Nt.takeS (i := 5) (oi := { dst := some 49, op := Op.load 27 (Operand.tmp 48), type := 27, pos := _, after := #[{ on := 4, ground := Ground.data }], guard := Option.none }) (v := ?_) rfl (by kernel_rfl) (by kernel_rfl) (by kernel_rfl) (by kernel_rfl) (by kernel_rfl) (by kernel_rfl) (fun _ _ _ h => h) (Or.inl ⟨by rfl, ?_⟩) (SB.out _ _ _ _ _ T0.out) ?_
        rotate_left 1
        · intro w hSw
          try dsimp only at hSw
          go_simp
          first | done | with_reducible rfl
        try simp only [Act.put, List.setIfInBounds_toArray, List.set_cons_zero, List.set_cons_succ]
        refine Nt.takeT (i := 6) (oi := { dst := some 50, op := Op.move (Operand.tmp 5), type := 9, pos := _, after := #[], guard := Option.none }) (v := ?_) rfl (by kernel_rfl) (by kernel_rfl) (by kernel_rfl) (by kernel_rfl) (fun _ _ _ h => h) (Or.inl ⟨by rfl, ?_⟩) (fun _ => (SB.out _ _ _ _ _ T0.out)) ?_
        rotate_left 1
        · intro w hSw
          try dsimp only at hSw
          go_simp
          first | done | with_reducible rfl
        try simp only [Act.put, List.setIfInBounds_toArray, List.set_cons_zero, List.set_cons_succ]
        refine Nt.takeT (i := 9) (oi := { dst := some 53, op := Op.move (Operand.tmp 0), type := 24, pos := _, after := #[], guard := Option.none }) (v := ?_) rfl (by kernel_rfl) (by kernel_rfl) (by kernel_rfl) (by kernel_rfl) (fun _ _ _ h => h) (Or.inl ⟨by rfl, ?_⟩) (fun _ => (SB.out _ _ _ _ _ T0.out)) ?_
        rotate_left 1
        · intro w hSw
          try dsimp only at hSw
          go_simp
          first | done | with_reducible rfl
        try simp only [Act.put, List.setIfInBounds_toArray, List.set_cons_zero, List.set_cons_succ]
        refine Nt.takeT (i := 10) (oi := { dst := some 54, op := Op.nilCheck (Operand.tmp 53), type := 0, pos := _, after := #[{ on := 9, ground := Ground.data }], guard := Option.none }) (v := ?_) rfl (by kernel_rfl) (by kernel_rfl) (by kernel_rfl) (by kernel_rfl) (fun _ _ _ h => h) (Or.inl ⟨by rfl, ?_⟩) (fun _ => (SB.out _ _ _ _ _ T0.out)) ?_
        rotate_left 1
        · intro w hSw
          try dsimp only at hSw
          go_simp
          first | done | with_reducible rfl
        try simp only [Act.put, List.setIfInBounds_toArray, List.set_cons_zero, List.set_cons_succ]
        refine Nt.takeT (i := 11) (oi := { dst := some 55, op := Op.fieldAddr 69 (Operand.tmp 54) 2, type := 0, pos := _, after := #[{ on := 10, ground := Ground.data }], guard := Option.none }) (v := ?_) rfl (by kernel_rfl) (by kernel_rfl) (by kernel_rfl) (by kernel_rfl) (fun _ _ _ h => h) (Or.inl ⟨by rfl, ?_⟩) (fun _ => (SB.out _ _ _ _ _ T0.out)) ?_
        rotate_left 1
        · intro w hSw
          try dsimp only at hSw
          go_simp
          first | done | with_reducible rfl
        try simp only [Act.put, List.setIfInBounds_toArray, List.set_cons_zero, List.set_cons_succ]
        refine Nt.takeS (i := 12) (oi := { dst := some 56, op := Op.load 67 (Operand.tmp 55), type := 67, pos := _, after := #[{ on := 11, ground := Ground.data }], guard := Option.none }) (v := ?_) rfl (by kernel_rfl) (by kernel_rfl) (by kernel_rfl) (by kernel_rfl) (by kernel_rfl) (by kernel_rfl) (fun _ _ _ h => h) (Or.inl ⟨by rfl, ?_⟩) (SB.out _ _ _ _ _ T0.out) ?_
        rotate_left 1
        · intro w hSw
          try dsimp only at hSw
          go_simp
          first | done | with_reducible rfl
        try simp only [Act.put, List.setIfInBounds_toArray, List.set_cons_zero, List.set_cons_succ]
        refine Nt.twoN (i := 7) (j := 13) (by kernel_rfl) rfl rfl (fun K hK => ?_) (fun K hK => ?_)
        · go_simp
          have T1 := Lib.hid (T0.out.alloc (.cells #[.string s] 9))
          have A1 := Lib.hid (heap_alloc_new W3 (.cells #[.string s] 9))
          refine hK.out _ _ (fun _ => SB.out _ _ _ _ _ T1.out) ?_
          clear hK K
          try simp only [Act.put, List.setIfInBounds_toArray, List.set_cons_zero, List.set_cons_succ]
          refine Nt.twoN (i := 8) (j := 13) (by kernel_rfl) rfl rfl (fun K hK => ?_) (fun K hK => ?_)
          · obtain ⟨nb, nc, V2, hrun, hT2, hkeep⟩ := two_appN T1.out A1.out LEN1.out 27
            have T2 := Lib.hid hT2
            refine step_run rfl (.tmp 49) (.tmp 51) rfl (by simp [Act.eval]) (by simp [Act.eval]) hrun ?_
            clear hrun hT2 hkeep
            refine hK.out _ _ (fun _ => SB.out _ _ _ _ _ T2.out) ?_
            clear hK K
            try simp only [Act.put, List.setIfInBounds_toArray, List.set_cons_zero, List.set_cons_succ]
            refine Nt.nextN (i := 13) (by kernel_rfl) rfl (fun K hK => ?_)
            go_simp
            have T3 := Lib.hid (T2.out.alloc (.cells #[.pointer Option.none] 85))
            have B3 := Lib.hid (heap_alloc_new V2 (.cells #[.pointer Option.none] 85))
            refine hK.out _ _ (fun _ => SB.out _ _ _ _ _ T3.out) ?_
            clear hK K
            try simp only [Act.put, List.setIfInBounds_toArray, List.set_cons_zero, List.set_cons_succ]
            refine Nt.nextN (i := 14) (by kernel_rfl) rfl (fun K hK => ?_)
            obtain ⟨fb, fc, V4, hrun, hT4, hkeep⟩ := two_appF T3.out B3.out LEN3.out 67
            have T4 := Lib.hid hT4
            refine step_run rfl (.tmp 56) (.tmp 57) rfl (by simp [Act.eval]) (by simp [Act.eval]) hrun ?_
            clear hrun hT4 hkeep
            refine hK.out _ _ (fun _ => SB.out _ _ _ _ _ T4.out) ?_
            clear hK K
            try simp only [Act.put, List.setIfInBounds_toArray, List.set_cons_zero, List.set_cons_succ]
            refine Nt.takeT (i := 15) (oi := { dst := some 59, op := Op.nilCheck (Operand.tmp 44), type := 0, pos := _, after := #[{ on := 0, ground := Ground.data }, { on := 0, ground := Ground.phase }, { on := 1, ground := Ground.textOnly Departure.lateStores }, { on := 2, ground := Ground.phase }, { on := 3, ground := Ground.phase }, { on := 4, ground := Ground.phase }, { on := 5, ground := Ground.phase }, { on := 6, ground := Ground.phase }, { on := 7, ground := Ground.phase }, { on := 8, ground := Ground.phase }, { on := 9, ground := Ground.textOnly Departure.lateStores }, { on := 10, ground := Ground.textOnly Departure.lateStoresUnsure }, { on := 11, ground := Ground.textOnly Departure.lateStoresUnsure }, { on := 12, ground := Ground.phase }, { on := 13, ground := Ground.textOnly Departure.lateStoresUnsure }, { on := 14, ground := Ground.phase }], guard := Option.none }) (v := ?_) rfl (by kernel_rfl) (by kernel_rfl) (by kernel_rfl) (by kernel_rfl) (fun _ _ _ h => h) (Or.inl ⟨by rfl, ?_⟩) (fun _ => (SB.out _ _ _ _ _ T4.out)) ?_
            rotate_left 1
            · intro w hSw
              try dsimp only at hSw
              go_simp
              first | done | with_reducible rfl
            try simp only [Act.put, List.setIfInBounds_toArray, List.set_cons_zero, List.set_cons_succ]
            refine Nt.takeT (i := 16) (oi := { dst := some 60, op := Op.fieldAddr 69 (Operand.tmp 59) 0, type := 0, pos := _, after := #[{ on := 15, ground := Ground.data }, { on := 0, ground := Ground.phase }, { on := 1, ground := Ground.textOnly Departure.lateStores }, { on := 2, ground := Ground.phase }, { on := 3, ground := Ground.phase }, { on := 4, ground := Ground.phase }, { on := 5, ground := Ground.phase }, { on := 6, ground := Ground.phase }, { on := 7, ground := Ground.phase }, { on := 8, ground := Ground.phase }, { on := 9, ground := Ground.textOnly Departure.lateStores }, { on := 10, ground := Ground.textOnly Departure.lateStoresUnsure }, { on := 11, ground := Ground.textOnly Departure.lateStoresUnsure }, { on := 12, ground := Ground.phase }, { on := 13, ground := Ground.textOnly Departure.lateStoresUnsure }, { on := 14, ground := Ground.phase }], guard := Option.none }) (v := ?_) rfl (by kernel_rfl) (by kernel_rfl) (by kernel_rfl) (by kernel_rfl) (fun _ _ _ h => h) (Or.inl ⟨by rfl, ?_⟩) (fun _ => (SB.out _ _ _ _ _ T4.out)) ?_
            rotate_left 1
            · intro w hSw
              try dsimp only at hSw
              go_simp
              first | done | with_reducible rfl
            try simp only [Act.put, List.setIfInBounds_toArray, List.set_cons_zero, List.set_cons_succ]
            obtain ⟨e0, e2, g0, g2⟩ := SC.out _ _ _ _ _ T4.out
            refine Nt.nextN (i := 17) (by kernel_rfl) rfl (fun K hK => ?_)
            go_simp
            refine hK.out _ _ (fun h => by simp at h) ?_
            clear hK K
            try simp only [Act.put, List.setIfInBounds_toArray, List.set_cons_zero, List.set_cons_succ]
            refine Nt.takeT (i := 18) (oi := { dst := some 61, op := Op.nilCheck (Operand.tmp 45), type := 0, pos := _, after := #[{ on := 1, ground := Ground.data }, { on := 0, ground := Ground.phase }, { on := 1, ground := Ground.phase }, { on := 2, ground := Ground.phase }, { on := 3, ground := Ground.phase }, { on := 4, ground := Ground.phase }, { on := 5, ground := Ground.phase }, { on := 6, ground := Ground.phase }, { on := 7, ground := Ground.phase }, { on := 8, ground := Ground.phase }, { on := 9, ground := Ground.phase }, { on := 10, ground := Ground.phase }, { on := 11, ground := Ground.phase }, { on := 12, ground := Ground.phase }, { on := 13, ground := Ground.phase }, { on := 14, ground := Ground.phase }, { on := 15, ground := Ground.phase }, { on := 16, ground := Ground.phase }, { on := 17, ground := Ground.phase }], guard := Option.none }) (v := ?_) rfl (by kernel_rfl) (by kernel_rfl) (by kernel_rfl) (by kernel_rfl) (fun _ _ _ h => h) (Or.inl ⟨by rfl, ?_⟩) (fun h => by simp at h) ?_
            rotate_left 1
            · intro w hSw
              try dsimp only at hSw
              go_simp
              first | done | with_reducible rfl
            try simp only [Act.put, List.setIfInBounds_toArray, List.set_cons_zero, List.set_cons_succ]
            refine Nt.takeT (i := 19) (oi := { dst := some 62, op := Op.fieldAddr 69 (Operand.tmp 61) 2, type := 0, pos := _, after := #[{ on := 18, ground := Ground.data }, { on := 0, ground := Ground.phase }, { on := 1, ground := Ground.phase }, { on := 2, ground := Ground.phase }, { on := 3, ground := Ground.phase }, { on := 4, ground := Ground.phase }, { on := 5, ground := Ground.phase }, { on := 6, ground := Ground.phase }, { on := 7, ground := Ground.phase }, { on := 8, ground := Ground.phase }, { on := 9, ground := Ground.phase }, { on := 10, ground := Ground.phase }, { on := 11, ground := Ground.phase }, { on := 12, ground := Ground.phase }, { on := 13, ground := Ground.phase }, { on := 14, ground := Ground.phase }, { on := 15, ground := Ground.phase }, { on := 16, ground := Ground.phase }, { on := 17, ground := Ground.phase }], guard := Option.none }) (v := ?_) rfl (by kernel_rfl) (by kernel_rfl) (by kernel_rfl) (by kernel_rfl) (fun _ _ _ h => h) (Or.inl ⟨by rfl, ?_⟩) (fun h => by simp at h) ?_
            rotate_left 1
            · intro w hSw
              try dsimp only at hSw
              go_simp
              first | done | with_reducible rfl
            try simp only [Act.put, List.setIfInBounds_toArray, List.set_cons_zero, List.set_cons_succ]
            refine Nt.nextN (i := 20) (by kernel_rfl) rfl (fun K hK => ?_)
            go_simp
            refine hK.out _ _ (fun h => by simp at h) ?_
            clear hK K
            try simp only [Act.put, List.setIfInBounds_toArray, List.set_cons_zero, List.set_cons_succ]
            refine Nt.doneN (by kernel_rfl) ?_ _
            refine NoPanic.normal ?_
            go_wp2_with fail
            go_ret
            exact FIN.out _ _ _ T4.out
          · go_simp
            have T2 := Lib.hid (T1.out.alloc (.cells #[.pointer Option.none] 85))
            have B2 := Lib.hid (heap_alloc_new (W3.alloc (.cells #[.string s] 9)) (.cells #[.pointer Option.none] 85))
            have A2 := Lib.hid ((Below.heap_alloc (W3.alloc (.cells #[.string s] 9)) (.cells #[.pointer Option.none] 85) _ (lt_some A1.out)).trans A1.out)
            refine hK.out _ _ (fun _ => SB.out _ _ _ _ _ T2.out) ?_
            clear hK K
            try simp only [Act.put, List.setIfInBounds_toArray, List.set_cons_zero, List.set_cons_succ]
            refine Nt.nextN (i := 8) (by kernel_rfl) rfl (fun K hK => ?_)
            obtain ⟨nb, nc, V3, hrun, hT3, hkeep⟩ := two_appN T2.out A2.out LEN1.out 27
            have T3 := Lib.hid hT3
            have B3 := Lib.hid (hkeep _ _ B2.out)
            refine step_run rfl (.tmp 49) (.tmp 51) rfl (by simp [Act.eval]) (by simp [Act.eval]) hrun ?_
            clear hrun hT3 hkeep
            refine hK.out _ _ (fun _ => SB.out _ _ _ _ _ T3.out) ?_
            clear hK K
            try simp only [Act.put, List.setIfInBounds_toArray, List.set_cons_zero, List.set_cons_succ]
            refine Nt.nextN (i := 14) (by kernel_rfl) rfl (fun K hK => ?_)
            obtain ⟨fb, fc, V4, hrun, hT4, hkeep⟩ := two_appF T3.out B3.out LEN3.out 67
            have T4 := Lib.hid hT4
            refine step_run rfl (.tmp 56) (.tmp 57) rfl (by simp [Act.eval]) (by simp [Act.eval]) hrun ?_
            clear hrun hT4 hkeep
            refine hK.out _ _ (fun _ => SB.out _ _ _ _ _ T4.out) ?_
            clear hK K
            try simp only [Act.put, List.setIfInBounds_toArray, List.set_cons_zero, List.set_cons_succ]
            refine Nt.takeT (i := 15) (oi := { dst := some 59, op := Op.nilCheck (Operand.tmp 44), type := 0, pos := _, after := #[{ on := 0, ground := Ground.data }, { on := 0, ground := Ground.phase }, { on := 1, ground := Ground.textOnly Departure.lateStores }, { on := 2, ground := Ground.phase }, { on := 3, ground := Ground.phase }, { on := 4, ground := Ground.phase }, { on := 5, ground := Ground.phase }, { on := 6, ground := Ground.phase }, { on := 7, ground := Ground.phase }, { on := 8, ground := Ground.phase }, { on := 9, ground := Ground.textOnly Departure.lateStores }, { on := 10, ground := Ground.textOnly Departure.lateStoresUnsure }, { on := 11, ground := Ground.textOnly Departure.lateStoresUnsure }, { on := 12, ground := Ground.phase }, { on := 13, ground := Ground.textOnly Departure.lateStoresUnsure }, { on := 14, ground := Ground.phase }], guard := Option.none }) (v := ?_) rfl (by kernel_rfl) (by kernel_rfl) (by kernel_rfl) (by kernel_rfl) (fun _ _ _ h => h) (Or.inl ⟨by rfl, ?_⟩) (fun _ => (SB.out _ _ _ _ _ T4.out)) ?_
            rotate_left 1
            · intro w hSw
              try dsimp only at hSw
              go_simp
              first | done | with_reducible rfl
            try simp only [Act.put, List.setIfInBounds_toArray, List.set_cons_zero, List.set_cons_succ]
            refine Nt.takeT (i := 16) (oi := { dst := some 60, op := Op.fieldAddr 69 (Operand.tmp 59) 0, type := 0, pos := _, after := #[{ on := 15, ground := Ground.data }, { on := 0, ground := Ground.phase }, { on := 1, ground := Ground.textOnly Departure.lateStores }, { on := 2, ground := Ground.phase }, { on := 3, ground := Ground.phase }, { on := 4, ground := Ground.phase }, { on := 5, ground := Ground.phase }, { on := 6, ground := Ground.phase }, { on := 7, ground := Ground.phase }, { on := 8, ground := Ground.phase }, { on := 9, ground := Ground.textOnly Departure.lateStores }, { on := 10, ground := Ground.textOnly Departure.lateStoresUnsure }, { on := 11, ground := Ground.textOnly Departure.lateStoresUnsure }, { on := 12, ground := Ground.phase }, { on := 13, ground := Ground.textOnly Departure.lateStoresUnsure }, { on := 14, ground := Ground.phase }], guard := Option.none }) (v := ?_) rfl (by kernel_rfl) (by kernel_rfl) (by kernel_rfl) (by kernel_rfl) (fun _ _ _ h => h) (Or.inl ⟨by rfl, ?_⟩) (fun _ => (SB.out _ _ _ _ _ T4.out)) ?_
            rotate_left 1
            · intro w hSw
              try dsimp only at hSw
              go_simp
              first | done | with_reducible rfl
            try simp only [Act.put, List.setIfInBounds_toArray, List.set_cons_zero, List.set_cons_succ]
            obtain ⟨e0, e2, g0, g2⟩ := SC.out _ _ _ _ _ T4.out
            refine Nt.nextN (i := 17) (by kernel_rfl) rfl (fun K hK => ?_)
            go_simp
            refine hK.out _ _ (fun h => by simp at h) ?_
            clear hK K
            try simp only [Act.put, List.setIfInBounds_toArray, List.set_cons_zero, List.set_cons_succ]
            refine Nt.takeT (i := 18) (oi := { dst := some 61, op := Op.nilCheck (Operand.tmp 45), type := 0, pos := _, after := #[{ on := 1, ground := Ground.data }, { on := 0, ground := Ground.phase }, { on := 1, ground := Ground.phase }, { on := 2, ground := Ground.phase }, { on := 3, ground := Ground.phase }, { on := 4, ground := Ground.phase }, { on := 5, ground := Ground.phase }, { on := 6, ground := Ground.phase }, { on := 7, ground := Ground.phase }, { on := 8, ground := Ground.phase }, { on := 9, ground := Ground.phase }, { on := 10, ground := Ground.phase }, { on := 11, ground := Ground.phase }, { on := 12, ground := Ground.phase }, { on := 13, ground := Ground.phase }, { on := 14, ground := Ground.phase }, { on := 15, ground := Ground.phase }, { on := 16, ground := Ground.phase }, { on := 17, ground := Ground.phase }], guard := Option.none }) (v := ?_) rfl (by kernel_rfl) (by kernel_rfl) (by kernel_rfl) (by kernel_rfl) (fun _ _ _ h => h) (Or.inl ⟨by rfl, ?_⟩) (fun h => by simp at h) ?_
            rotate_left 1
            · intro w hSw
              try dsimp only at hSw
              go_simp
              first | done | with_reducible rfl
            try simp only [Act.put, List.setIfInBounds_toArray, List.set_cons_zero, List.set_cons_succ]
            refine Nt.takeT (i := 19) (oi := { dst := some 62, op := Op.fieldAddr 69 (Operand.tmp 61) 2, type := 0, pos := _, after := #[{ on := 18, ground := Ground.data }, { on := 0, ground := Ground.phase }, { on := 1, ground := Ground.phase }, { on := 2, ground := Ground.phase }, { on := 3, ground := Ground.phase }, { on := 4, ground := Ground.phase }, { on := 5, ground := Ground.phase }, { on := 6, ground := Ground.phase }, { on := 7, ground := Ground.phase }, { on := 8, ground := Ground.phase }, { on := 9, ground := Ground.phase }, { on := 10, ground := Ground.phase }, { on := 11, ground := Ground.phase }, { on := 12, ground := Ground.phase }, { on := 13, ground := Ground.phase }, { on := 14, ground := Ground.phase }, { on := 15, ground := Ground.phase }, { on := 16, ground := Ground.phase }, { on := 17, ground := Ground.phase }], guard := Option.none }) (v := ?_) rfl (by kernel_rfl) (by kernel_rfl) (by kernel_rfl) (by kernel_rfl) (fun _ _ _ h => h) (Or.inl ⟨by rfl, ?_⟩) (fun h => by simp at h) ?_
            rotate_left 1
            · intro w hSw
              try dsimp only at hSw
              go_simp
              first | done | with_reducible rfl
            try simp only [Act.put, List.setIfInBounds_toArray, List.set_cons_zero, List.set_cons_succ]
            refine Nt.nextN (i := 20) (by kernel_rfl) rfl (fun K hK => ?_)
            go_simp
            refine hK.out _ _ (fun h => by simp at h) ?_
            clear hK K
            try simp only [Act.put, List.setIfInBounds_toArray, List.set_cons_zero, List.set_cons_succ]
            refine Nt.doneN (by kernel_rfl) ?_ _
            refine NoPanic.normal ?_
            go_wp2_with fail
            go_ret
            exact FIN.out _ _ _ T4.out
        · go_simp
          have T1 := Lib.hid (T0.out.alloc (.cells #[.pointer Option.none] 85))
          have B1 := Lib.hid (heap_alloc_new W3 (.cells #[.pointer Option.none] 85))
          refine hK.out _ _ (fun _ => SB.out _ _ _ _ _ T1.out) ?_
          clear hK K
          try simp only [Act.put, List.setIfInBounds_toArray, List.set_cons_zero, List.set_cons_succ]
          refine Nt.nextN (i := 7) (by kernel_rfl) rfl (fun K hK => ?_)
          go_simp
          have T2 := Lib.hid (T1.out.alloc (.cells #[.string s] 9))
          have A2 := Lib.hid (heap_alloc_new (W3.alloc (.cells #[.pointer Option.none] 85)) (.cells #[.string s] 9))
          have B2 := Lib.hid ((Below.heap_alloc (W3.alloc (.cells #[.pointer Option.none] 85)) (.cells #[.string s] 9) _ (lt_some B1.out)).trans B1.out)
          refine hK.out _ _ (fun _ => SB.out _ _ _ _ _ T2.out) ?_
          clear hK K
          try simp only [Act.put, List.setIfInBounds_toArray, List.set_cons_zero, List.set_cons_succ]
          refine Nt.nextN (i := 8) (by kernel_rfl) rfl (fun K hK => ?_)
          obtain ⟨nb, nc, V3, hrun, hT3, hkeep⟩ := two_appN T2.out A2.out LEN1.out 27
          have T3 := Lib.hid hT3
          have B3 := Lib.hid (hkeep _ _ B2.out)
          refine step_run rfl (.tmp 49) (.tmp 51) rfl (by simp [Act.eval]) (by simp [Act.eval]) hrun ?_
          clear hrun hT3 hkeep
          refine hK.out _ _ (fun _ => SB.out _ _ _ _ _ T3.out) ?_
          clear hK K
          try simp only [Act.put, List.setIfInBounds_toArray, List.set_cons_zero, List.set_cons_succ]
          refine Nt.nextN (i := 14) (by kernel_rfl) rfl (fun K hK => ?_)
          obtain ⟨fb, fc, V4, hrun, hT4, hkeep⟩ := two_appF T3.out B3.out LEN3.out 67
          have T4 := Lib.hid hT4
          refine step_run rfl (.tmp 56) (.tmp 57) rfl (by simp [Act.eval]) (by simp [Act.eval]) hrun ?_
          clear hrun hT4 hkeep
          refine hK.out _ _ (fun _ => SB.out _ _ _ _ _ T4.out) ?_
          clear hK K
          try simp only [Act.put, List.setIfInBounds_toArray, List.set_cons_zero, List.set_cons_succ]
          refine Nt.takeT (i := 15) (oi := { dst := some 59, op := Op.nilCheck (Operand.tmp 44), type := 0, pos := _, after := #[{ on := 0, ground := Ground.data }, { on := 0, ground := Ground.phase }, { on := 1, ground := Ground.textOnly Departure.lateStores }, { on := 2, ground := Ground.phase }, { on := 3, ground := Ground.phase }, { on := 4, ground := Ground.phase }, { on := 5, ground := Ground.phase }, { on := 6, ground := Ground.phase }, { on := 7, ground := Ground.phase }, { on := 8, ground := Ground.phase }, { on := 9, ground := Ground.textOnly Departure.lateStores }, { on := 10, ground := Ground.textOnly Departure.lateStoresUnsure }, { on := 11, ground := Ground.textOnly Departure.lateStoresUnsure }, { on := 12, ground := Ground.phase }, { on := 13, ground := Ground.textOnly Departure.lateStoresUnsure }, { on := 14, ground := Ground.phase }], guard := Option.none }) (v := ?_) rfl (by kernel_rfl) (by kernel_rfl) (by kernel_rfl) (by kernel_rfl) (fun _ _ _ h => h) (Or.inl ⟨by rfl, ?_⟩) (fun _ => (SB.out _ _ _ _ _ T4.out)) ?_
          rotate_left 1
          · intro w hSw
            try dsimp only at hSw
            go_simp
            first | done | with_reducible rfl
          try simp only [Act.put, List.setIfInBounds_toArray, List.set_cons_zero, List.set_cons_succ]
          refine Nt.takeT (i := 16) (oi := { dst := some 60, op := Op.fieldAddr 69 (Operand.tmp 59) 0, type := 0, pos := _, after := #[{ on := 15, ground := Ground.data }, { on := 0, ground := Ground.phase }, { on := 1, ground := Ground.textOnly Departure.lateStores }, { on := 2, ground := Ground.phase }, { on := 3, ground := Ground.phase }, { on := 4, ground := Ground.phase }, { on := 5, ground := Ground.phase }, { on := 6, ground := Ground.phase }, { on := 7, ground := Ground.phase }, { on := 8, ground := Ground.phase }, { on := 9, ground := Ground.textOnly Departure.lateStores }, { on := 10, ground := Ground.textOnly Departure.lateStoresUnsure }, { on := 11, ground := Ground.textOnly Departure.lateStoresUnsure }, { on := 12, ground := Ground.phase }, { on := 13, ground := Ground.textOnly Departure.lateStoresUnsure }, { on := 14, ground := Ground.phase }], guard := Option.none }) (v := ?_) rfl (by kernel_rfl) (by kernel_rfl) (by kernel_rfl) (by kernel_rfl) (fun _ _ _ h => h) (Or.inl ⟨by rfl, ?_⟩) (fun _ => (SB.out _ _ _ _ _ T4.out)) ?_
          rotate_left 1
          · intro w hSw
            try dsimp only at hSw
            go_simp
            first | done | with_reducible rfl
          try simp only [Act.put, List.setIfInBounds_toArray, List.set_cons_zero, List.set_cons_succ]
          obtain ⟨e0, e2, g0, g2⟩ := SC.out _ _ _ _ _ T4.out
          refine Nt.nextN (i := 17) (by kernel_rfl) rfl (fun K hK => ?_)
          go_simp
          refine hK.out _ _ (fun h => by simp at h) ?_
          clear hK K
          try simp only [Act.put, List.setIfInBounds_toArray, List.set_cons_zero, List.set_cons_succ]
          refine Nt.takeT (i := 18) (oi := { dst := some 61, op := Op.nilCheck (Operand.tmp 45), type := 0, pos := _, after := #[{ on := 1, ground := Ground.data }, { on := 0, ground := Ground.phase }, { on := 1, ground := Ground.phase }, { on := 2, ground := Ground.phase }, { on := 3, ground := Ground.phase }, { on := 4, ground := Ground.phase }, { on := 5, ground := Ground.phase }, { on := 6, ground := Ground.phase }, { on := 7, ground := Ground.phase }, { on := 8, ground := Ground.phase }, { on := 9, ground := Ground.phase }, { on := 10, ground := Ground.phase }, { on := 11, ground := Ground.phase }, { on := 12, ground := Ground.phase }, { on := 13, ground := Ground.phase }, { on := 14, ground := Ground.phase }, { on := 15, ground := Ground.phase }, { on := 16, ground := Ground.phase }, { on := 17, ground := Ground.phase }], guard := Option.none }) (v := ?_) rfl (by kernel_rfl) (by kernel_rfl) (by kernel_rfl) (by kernel_rfl) (fun _ _ _ h => h) (Or.inl ⟨by rfl, ?_⟩) (fun h => by simp at h) ?_
          rotate_left 1
          · intro w hSw
            try dsimp only at hSw
            go_simp
            first | done | with_reducible rfl
          try simp only [Act.put, List.setIfInBounds_toArray, List.set_cons_zero, List.set_cons_succ]
          refine Nt.takeT (i := 19) (oi := { dst := some 62, op := Op.fieldAddr 69 (Operand.tmp 61) 2, type := 0, pos := _, after := #[{ on := 18, ground := Ground.data }, { on := 0, ground := Ground.phase }, { on := 1, ground := Ground.phase }, { on := 2, ground := Ground.phase }, { on := 3, ground := Ground.phase }, { on := 4, ground := Ground.phase }, { on := 5, ground := Ground.phase }, { on := 6, ground := Ground.phase }, { on := 7, ground := Ground.phase }, { on := 8, ground := Ground.phase }, { on := 9, ground := Ground.phase }, { on := 10, ground := Ground.phase }, { on := 11, ground := Ground.phase }, { on := 12, ground := Ground.phase }, { on := 13, ground := Ground.phase }, { on := 14, ground := Ground.phase }, { on := 15, ground := Ground.phase }, { on := 16, ground := Ground.phase }, { on := 17, ground := Ground.phase }], guard := Option.none }) (v := ?_) rfl (by kernel_rfl) (by kernel_rfl) (by kernel_rfl) (by kernel_rfl) (fun _ _ _ h => h) (Or.inl ⟨by rfl, ?_⟩) (fun h => by simp at h) ?_
          rotate_left 1
          · intro w hSw
            try dsimp only at hSw
            go_simp
            first | done | with_reducible rfl
          try simp only [Act.put, List.setIfInBounds_toArray, List.set_cons_zero, List.set_cons_succ]
          refine Nt.nextN (i := 20) (by kernel_rfl) rfl (fun K hK => ?_)
          go_simp
          refine hK.out _ _ (fun h => by simp at h) ?_
          clear hK K
          try simp only [Act.put, List.setIfInBounds_toArray, List.set_cons_zero, List.set_cons_succ]
          refine Nt.doneN (by kernel_rfl) ?_ _
          refine NoPanic.normal ?_
          go_wp2_with fail
          go_ret
          exact FIN.out _ _ _ T4.out
      · have hS2 : Hid (∀ k, S k → more S w w1 k) := Lib.hid fun k hk => .inl hk
        have hM2 := HM1
        have h2 := H1.out
        have hno := mapI_no w1 m
        clear H1 HM1
        obtain ⟨W, rfl⟩ : ∃ W, W = w1 := ⟨_, rfl⟩
        go_upto_region 7 with fail
        clear hno c0 c1 c2 f0 f1 f2
        obtain ⟨a1, c1, rfl⟩ := own_slice h2.names
        obtain ⟨a3, c3, rfl⟩ := own_slice h2.found
        obtain ⟨c0, d1, c2, f0, f1, f2⟩ := h2.cells
        have hmiW : Mi W B.N.length m (ofN B.N) := by
          rcases h2.map with ⟨e, _⟩ | ⟨m', e, hm⟩
          · cases e
          · cases e; exact hm
        obtain ⟨W2, hput, hmi, hg, hz⟩ := (hmiW.kept (w' := W.drew) rfl).put (s := s) (by unfold maxLen; omega) (by unfold maxLen; omega) B.N.length
        rw [ofN_put hx.out] at hmi
        have hg' : W.grownBy W2 (some m) := ⟨hg.os, hg.tape, hg.output, hg.size, hg.block⟩
        have hz' : W2.heap.size = W.heap.size := hz
        have hb2 : W2.heap[p]? = some (.cells #[.slice a1 B.N.length c1, .map (some m), .slice a3 B.F.length c3] 69 (0, 0)) := (hg'.block p (lt_some h2.box) (fun e => h2.ne2 (by rw [e]; rfl))).trans h2.box
        have i0 : W2.cell? ⟨p, 0, Option.none⟩ = some (.slice a1 B.N.length c1) := by simp [World.cell?, hb2]
        have i1 : W2.cell? ⟨p, 1, Option.none⟩ = some (.map (some m)) := by simp [World.cell?, hb2]
        have c0' : W.drew.cell? ⟨p, 0, Option.none⟩ = some (.slice a1 B.N.length c1) := c0
        have d1' : W.drew.cell? ⟨p, 1, Option.none⟩ = some (.map (some m)) := d1
        obtain ⟨ys, hys⟩ : ∃ ys, Q.map ptrO = ys := ⟨_, rfl⟩
        have hT0 := two_start h2 hg'
        rw [hys] at hT0
        have T0 := Lib.hid hT0
        have HYS := Lib.hid hys
        have hb2d : W2.drew.heap[p]? = some (.cells #[.slice a1 B.N.length c1, .map (some m), .slice a3 B.F.length c3] 69 (0, 0)) := hb2
        have SB : Hid (∀ W' n f xs ys, Two W2.drew W' (.slice a1 B.N.length c1) (.slice a3 B.F.length c3) n f xs ys → (W'.cell? ⟨p, 0, Option.none⟩ = some (.slice a1 B.N.length c1) ∧ W'.cell? ⟨p, 2, Option.none⟩ = some (.slice a3 B.F.length c3))) := Lib.hid fun W' n f xs ys hT => by
          have := two_box hT hb2d T0.out.names T0.out.found
          simp [World.cell?, this]
        have SC : Hid (∀ W' n f xs ys, Two W2.drew W' (.slice a1 B.N.length c1) (.slice a3 B.F.length c3) n f xs ys → (W'.cell? ⟨p, 0, Option.none⟩ = some (.slice a1 B.N.length c1) ∧ W'.cell? ⟨p, 2, Option.none⟩ = some (.slice a3 B.F.length c3) ∧ W'.frozen? ⟨p, 0, Option.none⟩ = false ∧ W'.frozen? ⟨p, 2, Option.none⟩ = false)) := Lib.hid fun W' n f xs ys hT => by
          have := two_box hT hb2d T0.out.names T0.out.found
          simp [World.cell?, World.frozen?, this]
        have FIN : Hid (∀ W4 n1 f1, Two W2.drew W4 (.slice a1 B.N.length c1) (.slice a3 B.F.length c3) n1 f1 (strV B.N ++ [.string s]) (ys ++ [.pointer Option.none]) → TkQ S w r p B (takeN B l) (.returned (.bool true)) ((W4.setCell ⟨p, 0, Option.none⟩ n1).setCell ⟨p, 2, Option.none⟩ f1)) := Lib.hid fun W4 n1 f1 hT => name_end h2 hs1 hN hx.out hS2.out hM2.out HR.out hmi hg' hz' (by rw [HYS.out]; exact hT)
        have LEN1 : Hid ((strV B.N).length ≤ 2000000) := Lib.hid (by simp [strV]; omega)
        have LEN3 : Hid (ys.length ≤ 2000000) := Lib.hid (by rw [← hys, List.length_map, h2.qlen, h2.len]; omega)
        have H2 := Lib.hid h2
        clear hys hT0 h2 hmi hg hg' hz hz' hb2 hb2d hmiW f0 f1 f2 c2
        go_region_held3 (fun w' => w'.cell? ⟨p, 0, Option.none⟩ = some (.slice a1 B.N.length c1) ∧ w'.cell? ⟨p, 1, Option.none⟩ = some (.map (some m))) (first | exact ⟨c0', d1'⟩ | exact ⟨i0, i1⟩ | fail) (first | fail)
        go_wp2_with fail
        refine wp_region_noPanic ?_
        refine Nt.wp_region_N 17 (fun w' => w'.cell? ⟨p, 0, Option.none⟩ = some (.slice a1 B.N.length c1) ∧ w'.cell? ⟨p, 2, Option.none⟩ = some (.slice a3 B.F.length c3)) (by kernel_rfl) ?_
        generalize W2.drew = W3 at *
        refine Nt.takeT (i := 0) (oi := { dst := some 44, op := Op.move (Operand.tmp 0), type := 24, pos := _, after := #[], guard := Option.none }) (v := ?_) rfl (by kernel_rfl) (by kernel_rfl) (by kernel_rfl) (by kernel_rfl) (fun _ _ _ h => h) (Or.inl ⟨by rfl, ?_⟩) (fun _ => (SB.out _ _ _ _ _ T0.out)) ?_
        rotate_left 1
        · intro w hSw
          try dsimp only at hSw
          go_simp
          first | done | with_reducible rfl
        try simp only [Act.put, List.setIfInBounds_toArray, List.set_cons_zero, List.set_cons_succ]
        refine Nt.takeT (i := 1) (oi := { dst := some 45, op := Op.move (Operand.tmp 0), type := 24, pos := _, after := #[{ on := 17, ground := Ground.gcOnly Departure.lateStores }], guard := Option.none }) (v := ?_) rfl (by kernel_rfl) (by kernel_rfl) (by kernel_rfl) (by kernel_rfl) (fun _ _ _ h => h) (Or.inl ⟨by rfl, ?_⟩) (fun _ => (SB.out _ _ _ _ _ T0.out)) ?_
        rotate_left 1
        · intro w hSw
          try dsimp only at hSw
          go_simp
          first | done | with_reducible rfl
        try simp only [Act.put, List.setIfInBounds_toArray, List.set_cons_zero, List.set_cons_succ]
        refine Nt.takeT (i := 2) (oi := { dst := some 46, op := Op.move (Operand.tmp 0), type := 24, pos := _, after := #[], guard := Option.none }) (v := ?_) rfl (by kernel_rfl) (by kernel_rfl) (by kernel_rfl) (by kernel_rfl) (fun _ _ _ h => h) (Or.inl ⟨by rfl, ?_⟩) (fun _ => (SB.out _ _ _ _ _ T0.out)) ?_
        rotate_left 1
        · intro w hSw
          try dsimp only at hSw
          go_simp
          first | done | with_reducible rfl
        try simp only [Act.put, List.setIfInBounds_toArray, List.set_cons_zero, List.set_cons_succ]
        refine Nt.takeT (i := 3) (oi := { dst := some 47, op := Op.nilCheck (Operand.tmp 46), type := 0, pos := _, after := #[{ on := 2, ground := Ground.data }], guard := Option.none }) (v := ?_) rfl (by kernel_rfl) (by kernel_rfl) (by kernel_rfl) (by kernel_rfl) (fun _ _ _ h => h) (Or.inl ⟨by rfl, ?_⟩) (fun _ => (SB.out _ _ _ _ _ T0.out)) ?_
        rotate_left 1
        · intro w hSw
          try dsimp only at hSw
          go_simp
          first | done | with_reducible rfl
        try simp only [Act.put, List.setIfInBounds_toArray, List.set_cons_zero, List.set_cons_succ]
        refine Nt.takeT (i := 4) (oi := { dst := some 48, op := Op.fieldAddr 69 (Operand.tmp 47) 0, type := 0, pos := _, after := #[{ on := 3, ground := Ground.data }], guard := Option.none }) (v := ?_) rfl (by kernel_rfl) (by kernel_rfl) (by kernel_rfl) (by kernel_rfl) (fun _ _ _ h => h) (Or.inl ⟨by rfl, ?_⟩) (fun _ => (SB.out _ _ _ _ _ T0.out)) ?_
        rotate_left 1
        · intro w hSw
          try dsimp only at hSw
          go_simp
          first | done | with_reducible rfl
        try simp only [Act.put, List.setIfInBounds_toArray, List.set_cons_zero, List.set_cons_succ]
        refine Nt.takeS (i := 5) (oi := { dst := some 49, op := Op.load 27 (Operand.tmp 48), type := 27, pos := _, after := #[{ on := 4, ground := Ground.data }], guard := Option.none }) (v := ?_) rfl (by kernel_rfl) (by kernel_rfl) (by kernel_rfl) (by kernel_rfl) (by kernel_rfl) (by kernel_rfl) (fun _ _ _ h => h) (Or.inl ⟨by rfl, ?_⟩) (SB.out _ _ _ _ _ T0.out) ?_
        rotate_left 1
        · intro w hSw
          try dsimp only at hSw
          go_simp
          first | done | with_reducible rfl
        try simp only [Act.put, List.setIfInBounds_toArray, List.set_cons_zero, List.set_cons_succ]
        refine Nt.takeT (i := 6) (oi := { dst := some 50, op := Op.move (Operand.tmp 5), type := 9, pos := _, after := #[], guard := Option.none }) (v := ?_) rfl (by kernel_rfl) (by kernel_rfl) (by kernel_rfl) (by kernel_rfl) (fun _ _ _ h => h) (Or.inl ⟨by rfl, ?_⟩) (fun _ => (SB.out _ _ _ _ _ T0.out)) ?_
        rotate_left 1
        · intro w hSw
          try dsimp only at hSw
          go_simp
          first | done | with_reducible rfl
        try simp only [Act.put, List.setIfInBounds_toArray, List.set_cons_zero, List.set_cons_succ]
        refine Nt.takeT (i := 9) (oi := { dst := some 53, op := Op.move (Operand.tmp 0), type := 24, pos := _, after := #[], guard := Option.none }) (v := ?_) rfl (by kernel_rfl) (by kernel_rfl) (by kernel_rfl) (by kernel_rfl) (fun _ _ _ h => h) (Or.inl ⟨by rfl, ?_⟩) (fun _ => (SB.out _ _ _ _ _ T0.out)) ?_
        rotate_left 1
        · intro w hSw
          try dsimp only at hSw
          go_simp
          first | done | with_reducible rfl
        try simp only [Act.put, List.setIfInBounds_toArray, List.set_cons_zero, List.set_cons_succ]
        refine Nt.takeT (i := 10) (oi := { dst := some 54, op := Op.nilCheck (Operand.tmp 53), type := 0, pos := _, after := #[{ on := 9, ground := Ground.data }], guard := Option.none }) (v := ?_) rfl (by kernel_rfl) (by kernel_rfl) (by kernel_rfl) (by kernel_rfl) (fun _ _ _ h => h) (Or.inl ⟨by rfl, ?_⟩) (fun _ => (SB.out _ _ _ _ _ T0.out)) ?_
        rotate_left 1
        · intro w hSw
          try dsimp only at hSw
          go_simp
          first | done | with_reducible rfl
        try simp only [Act.put, List.setIfInBounds_toArray, List.set_cons_zero, List.set_cons_succ]
        refine Nt.takeT (i := 11) (oi := { dst := some 55, op := Op.fieldAddr 69 (Operand.tmp 54) 2, type := 0, pos := _, after := #[{ on := 10, ground := Ground.data }], guard := Option.none }) (v := ?_) rfl (by kernel_rfl) (by kernel_rfl) (by kernel_rfl) (by kernel_rfl) (fun _ _ _ h => h) (Or.inl ⟨by rfl, ?_⟩) (fun _ => (SB.out _ _ _ _ _ T0.out)) ?_
        rotate_left 1
        · intro w hSw
          try dsimp only at hSw
          go_simp
          first | done | with_reducible rfl
        try simp only [Act.put, List.setIfInBounds_toArray, List.set_cons_zero, List.set_cons_succ]
        refine Nt.takeS (i := 12) (oi := { dst := some 56, op := Op.load 67 (Operand.tmp 55), type := 67, pos := _, after := #[{ on := 11, ground := Ground.data }], guard := Option.none }) (v := ?_) rfl (by kernel_rfl) (by kernel_rfl) (by kernel_rfl) (by kernel_rfl) (by kernel_rfl) (by kernel_rfl) (fun _ _ _ h => h) (Or.inl ⟨by rfl, ?_⟩) (SB.out _ _ _ _ _ T0.out) ?_
        rotate_left 1
        · intro w hSw
          try dsimp only at hSw
          go_simp
          first | done | with_reducible rfl
        try simp only [Act.put, List.setIfInBounds_toArray, List.set_cons_zero, List.set_cons_succ]
        refine Nt.twoN (i := 7) (j := 13) (by kernel_rfl) rfl rfl (fun K hK => ?_) (fun K hK => ?_)
        · go_simp
          have T1 := Lib.hid (T0.out.alloc (.cells #[.string s] 9))
          have A1 := Lib.hid (heap_alloc_new W3 (.cells #[.string s] 9))
          refine hK.out _ _ (fun _ => SB.out _ _ _ _ _ T1.out) ?_
          clear hK K
          try simp only [Act.put, List.setIfInBounds_toArray, List.set_cons_zero, List.set_cons_succ]
          refine Nt.twoN (i := 8) (j := 13) (by kernel_rfl) rfl rfl (fun K hK => ?_) (fun K hK => ?_)
          · obtain ⟨nb, nc, V2, hrun, hT2, hkeep⟩ := two_appN T1.out A1.out LEN1.out 27
            have T2 := Lib.hid hT2
            refine step_run rfl (.tmp 49) (.tmp 51) rfl (by simp [Act.eval]) (by simp [Act.eval]) hrun ?_
            clear hrun hT2 hkeep
            refine hK.out _ _ (fun _ => SB.out _ _ _ _ _ T2.out) ?_
            clear hK K
            try simp only [Act.put, List.setIfInBounds_toArray, List.set_cons_zero, List.set_cons_succ]
            refine Nt.nextN (i := 13) (by kernel_rfl) rfl (fun K hK => ?_)
            go_simp
            have T3 := Lib.hid (T2.out.alloc (.cells #[.pointer Option.none] 85))
            have B3 := Lib.hid (heap_alloc_new V2 (.cells #[.pointer Option.none] 85))
            refine hK.out _ _ (fun _ => SB.out _ _ _ _ _ T3.out) ?_
            clear hK K
            try simp only [Act.put, List.setIfInBounds_toArray, List.set_cons_zero, List.set_cons_succ]
            refine Nt.nextN (i := 14) (by kernel_rfl) rfl (fun K hK => ?_)
            obtain ⟨fb, fc, V4, hrun, hT4, hkeep⟩ := two_appF T3.out B3.out LEN3.out 67
            have T4 := Lib.hid hT4
            refine step_run rfl (.tmp 56) (.tmp 57) rfl (by simp [Act.eval]) (by simp [Act.eval]) hrun ?_
            clear hrun hT4 hkeep
            refine hK.out _ _ (fun _ => SB.out _ _ _ _ _ T4.out) ?_
            clear hK K
            try simp only [Act.put, List.setIfInBounds_toArray, List.set_cons_zero, List.set_cons_succ]
            refine Nt.takeT (i := 15) (oi := { dst := some 59, op := Op.nilCheck (Operand.tmp 44), type := 0, pos := _, after := #[{ on := 0, ground := Ground.data }, { on := 0, ground := Ground.phase }, { on := 1, ground := Ground.textOnly Departure.lateStores }, { on := 2, ground := Ground.phase }, { on := 3, ground := Ground.phase }, { on := 4, ground := Ground.phase }, { on := 5, ground := Ground.phase }, { on := 6, ground := Ground.phase }, { on := 7, ground := Ground.phase }, { on := 8, ground := Ground.phase }, { on := 9, ground := Ground.textOnly Departure.lateStores }, { on := 10, ground := Ground.textOnly Departure.lateStoresUnsure }, { on := 11, ground := Ground.textOnly Departure.lateStoresUnsure }, { on := 12, ground := Ground.phase }, { on := 13, ground := Ground.textOnly Departure.lateStoresUnsure }, { on := 14, ground := Ground.phase }], guard := Option.none }) (v := ?_) rfl (by kernel_rfl) (by kernel_rfl) (by kernel_rfl) (by kernel_rfl) (fun _ _ _ h => h) (Or.inl ⟨by rfl, ?_⟩) (fun _ => (SB.out _ _ _ _ _ T4.out)) ?_
            rotate_left 1
            · intro w hSw
              try dsimp only at hSw
              go_simp
              first | done | with_reducible rfl
            try simp only [Act.put, List.setIfInBounds_toArray, List.set_cons_zero, List.set_cons_succ]
            refine Nt.takeT (i := 16) (oi := { dst := some 60, op := Op.fieldAddr 69 (Operand.tmp 59) 0, type := 0, pos := _, after := #[{ on := 15, ground := Ground.data }, { on := 0, ground := Ground.phase }, { on := 1, ground := Ground.textOnly Departure.lateStores }, { on := 2, ground := Ground.phase }, { on := 3, ground := Ground.phase }, { on := 4, ground := Ground.phase }, { on := 5, ground := Ground.phase }, { on := 6, ground := Ground.phase }, { on := 7, ground := Ground.phase }, { on := 8, ground := Ground.phase }, { on := 9, ground := Ground.textOnly Departure.lateStores }, { on := 10, ground := Ground.textOnly Departure.lateStoresUnsure }, { on := 11, ground := Ground.textOnly Departure.lateStoresUnsure }, { on := 12, ground := Ground.phase }, { on := 13, ground := Ground.textOnly Departure.lateStoresUnsure }, { on := 14, ground := Ground.phase }], guard := Option.none }) (v := ?_) rfl (by kernel_rfl) (by kernel_rfl) (by kernel_rfl) (by kernel_rfl) (fun _ _ _ h => h) (Or.inl ⟨by rfl, ?_⟩) (fun _ => (SB.out _ _ _ _ _ T4.out)) ?_
            rotate_left 1
            · intro w hSw
              try dsimp only at hSw
              go_simp
              first | done | with_reducible rfl
            try simp only [Act.put, List.setIfInBounds_toArray, List.set_cons_zero, List.set_cons_succ]
            obtain ⟨e0, e2, g0, g2⟩ := SC.out _ _ _ _ _ T4.out
            refine Nt.nextN (i := 17) (by kernel_rfl) rfl (fun K hK => ?_)
            go_simp
            refine hK.out _ _ (fun h => by simp at h) ?_
            clear hK K
            try simp only [Act.put, List.setIfInBounds_toArray, List.set_cons_zero, List.set_cons_succ]
            refine Nt.takeT (i := 18) (oi := { dst := some 61, op := Op.nilCheck (Operand.tmp 45), type := 0, pos := _, after := #[{ on := 1, ground := Ground.data }, { on := 0, ground := Ground.phase }, { on := 1, ground := Ground.phase }, { on := 2, ground := Ground.phase }, { on := 3, ground := Ground.phase }, { on := 4, ground := Ground.phase }, { on := 5, ground := Ground.phase }, { on := 6, ground := Ground.phase }, { on := 7, ground := Ground.phase }, { on := 8, ground := Ground.phase }, { on := 9, ground := Ground.phase }, { on := 10, ground := Ground.phase }, { on := 11, ground := Ground.phase }, { on := 12, ground := Ground.phase }, { on := 13, ground := Ground.phase }, { on := 14, ground := Ground.phase }, { on := 15, ground := Ground.phase }, { on := 16, ground := Ground.phase }, { on := 17, ground := Ground.phase }], guard := Option.none }) (v := ?_) rfl (by kernel_rfl) (by kernel_rfl) (by kernel_rfl) (by kernel_rfl) (fun _ _ _ h => h) (Or.inl ⟨by rfl, ?_⟩) (fun h => by simp at h) ?_
            rotate_left 1
            · intro w hSw
              try dsimp only at hSw
              go_simp
              first | done | with_reducible rfl
            try simp only [Act.put, List.setIfInBounds_toArray, List.set_cons_zero, List.set_cons_succ]
            refine Nt.takeT (i := 19) (oi := { dst := some 62, op := Op.fieldAddr 69 (Operand.tmp 61) 2, type := 0, pos := _, after := #[{ on := 18, ground := Ground.data }, { on := 0, ground := Ground.phase }, { on := 1, ground := Ground.phase }, { on := 2, ground := Ground.phase }, { on := 3, ground := Ground.phase }, { on := 4, ground := Ground.phase }, { on := 5, ground := Ground.phase }, { on := 6, ground := Ground.phase }, { on := 7, ground := Ground.phase }, { on := 8, ground := Ground.phase }, { on := 9, ground := Ground.phase }, { on := 10, ground := Ground.phase }, { on := 11, ground := Ground.phase }, { on := 12, ground := Ground.phase }, { on := 13, ground := Ground.phase }, { on := 14, ground := Ground.phase }, { on := 15, ground := Ground.phase }, { on := 16, ground := Ground.phase }, { on := 17, ground := Ground.phase }], guard := Option.none }) (v := ?_) rfl (by kernel_rfl) (by kernel_rfl) (by kernel_rfl) (by kernel_rfl) (fun _ _ _ h => h) (Or.inl ⟨by rfl, ?_⟩) (fun h => by simp at h) ?_
            rotate_left 1
            · intro w hSw
              try dsimp only at hSw
              go_simp
              first | done | with_reducible rfl
            try simp only [Act.put, List.setIfInBounds_toArray, List.set_cons_zero, List.set_cons_succ]
            refine Nt.nextN (i := 20) (by kernel_rfl) rfl (fun K hK => ?_)
            go_simp
            refine hK.out _ _ (fun h => by simp at h) ?_
            clear hK K
            try simp only [Act.put, List.setIfInBounds_toArray, List.set_cons_zero, List.set_cons_succ]
            refine Nt.doneN (by kernel_rfl) ?_ _
            refine NoPanic.normal ?_
            go_wp2_with fail
            go_ret
            exact FIN.out _ _ _ T4.out
          · go_simp
            have T2 := Lib.hid (T1.out.alloc (.cells #[.pointer Option.none] 85))
            have B2 := Lib.hid (heap_alloc_new (W3.alloc (.cells #[.string s] 9)) (.cells #[.pointer Option.none] 85))
            have A2 := Lib.hid ((Below.heap_alloc (W3.alloc (.cells #[.string s] 9)) (.cells #[.pointer Option.none] 85) _ (lt_some A1.out)).trans A1.out)
            refine hK.out _ _ (fun _ => SB.out _ _ _ _ _ T2.out) ?_
            clear hK K
            try simp only [Act.put, List.setIfInBounds_toArray, List.set_cons_zero, List.set_cons_succ]
            refine Nt.nextN (i := 8) (by kernel_rfl) rfl (fun K hK => ?_)
            obtain ⟨nb, nc, V3, hrun, hT3, hkeep⟩ := two_appN T2.out A2.out LEN1.out 27
            have T3 := Lib.hid hT3
            have B3 := Lib.hid (hkeep _ _ B2.out)
            refine step_run rfl (.tmp 49) (.tmp 51) rfl (by simp [Act.eval]) (by simp [Act.eval]) hrun ?_
            clear hrun hT3 hkeep
            refine hK.out _ _ (fun _ => SB.out _ _ _ _ _ T3.out) ?_
            clear hK K
            try simp only [Act.put, List.setIfInBounds_toArray, List.set_cons_zero, List.set_cons_succ]
            refine Nt.nextN (i := 14) (by kernel_rfl) rfl (fun K hK => ?_)
            obtain ⟨fb, fc, V4, hrun, hT4, hkeep⟩ := two_appF T3.out B3.out LEN3.out 67
            have T4 := Lib.hid hT4
            refine step_run rfl (.tmp 56) (.tmp 57) rfl (by simp [Act.eval]) (by simp [Act.eval]) hrun ?_
            clear hrun hT4 hkeep
            refine hK.out _ _ (fun _ => SB.out _ _ _ _ _ T4.out) ?_
            clear hK K
            try simp only [Act.put, List.setIfInBounds_toArray, List.set_cons_zero, List.set_cons_succ]
            refine Nt.takeT (i := 15) (oi := { dst := some 59, op := Op.nilCheck (Operand.tmp 44), type := 0, pos := _, after := #[{ on := 0, ground := Ground.data }, { on := 0, ground := Ground.phase }, { on := 1, ground := Ground.textOnly Departure.lateStores }, { on := 2, ground := Ground.phase }, { on := 3, ground := Ground.phase }, { on := 4, ground := Ground.phase }, { on := 5, ground := Ground.phase }, { on := 6, ground := Ground.phase }, { on := 7, ground := Ground.phase }, { on := 8, ground := Ground.phase }, { on := 9, ground := Ground.textOnly Departure.lateStores }, { on := 10, ground := Ground.textOnly Departure.lateStoresUnsure }, { on := 11, ground := Ground.textOnly Departure.lateStoresUnsure }, { on := 12, ground := Ground.phase }, { on := 13, ground := Ground.textOnly Departure.lateStoresUnsure }, { on := 14, ground := Ground.phase }], guard := Option.none }) (v := ?_) rfl (by kernel_rfl) (by kernel_rfl) (by kernel_rfl) (by kernel_rfl) (fun _ _ _ h => h) (Or.inl ⟨by rfl, ?_⟩) (fun _ => (SB.out _ _ _ _ _ T4.out)) ?_
            rotate_left 1
            · intro w hSw
              try dsimp only at hSw
              go_simp
              first | done | with_reducible rfl
            try simp only [Act.put, List.setIfInBounds_toArray, List.set_cons_zero, List.set_cons_succ]
            refine Nt.takeT (i := 16) (oi := { dst := some 60, op := Op.fieldAddr 69 (Operand.tmp 59) 0, type := 0, pos := _, after := #[{ on := 15, ground := Ground.data }, { on := 0, ground := Ground.phase }, { on := 1, ground := Ground.textOnly Departure.lateStores }, { on := 2, ground := Ground.phase }, { on := 3, ground := Ground.phase }, { on := 4, ground := Ground.phase }, { on := 5, ground := Ground.phase }, { on := 6, ground := Ground.phase }, { on := 7, ground := Ground.phase }, { on := 8, ground := Ground.phase }, { on := 9, ground := Ground.textOnly Departure.lateStores }, { on := 10, ground := Ground.textOnly Departure.lateStoresUnsure }, { on := 11, ground := Ground.textOnly Departure.lateStoresUnsure }, { on := 12, ground := Ground.phase }, { on := 13, ground := Ground.textOnly Departure.lateStoresUnsure }, { on := 14, ground := Ground.phase }], guard := Option.none }) (v := ?_) rfl (by kernel_rfl) (by kernel_rfl) (by kernel_rfl) (by kernel_rfl) (fun _ _ _ h => h) (Or.inl ⟨by rfl, ?_⟩) (fun _ => (SB.out _ _ _ _ _ T4.out)) ?_
            rotate_left 1
            · intro w hSw
              try dsimp only at hSw
              go_simp
              first | done | with_reducible rfl
            try simp only [Act.put, List.setIfInBounds_toArray, List.set_cons_zero, List.set_cons_succ]
            obtain ⟨e0, e2, g0, g2⟩ := SC.out _ _ _ _ _ T4.out
            refine Nt.nextN (i := 17) (by kernel_rfl) rfl (fun K hK => ?_)
            go_simp
            refine hK.out _ _ (fun h => by simp at h) ?_
            clear hK K
            try simp only [Act.put, List.setIfInBounds_toArray, List.set_cons_zero, List.set_cons_succ]
            refine Nt.takeT (i := 18) (oi := { dst := some 61, op := Op.nilCheck (Operand.tmp 45), type := 0, pos := _, after := #[{ on := 1, ground := Ground.data }, { on := 0, ground := Ground.phase }, { on := 1, ground := Ground.phase }, { on := 2, ground := Ground.phase }, { on := 3, ground := Ground.phase }, { on := 4, ground := Ground.phase }, { on := 5, ground := Ground.phase }, { on := 6, ground := Ground.phase }, { on := 7, ground := Ground.phase }, { on := 8, ground := Ground.phase }, { on := 9, ground := Ground.phase }, { on := 10, ground := Ground.phase }, { on := 11, ground := Ground.phase }, { on := 12, ground := Ground.phase }, { on := 13, ground := Ground.phase }, { on := 14, ground := Ground.phase }, { on := 15, ground := Ground.phase }, { on := 16, ground := Ground.phase }, { on := 17, ground := Ground.phase }], guard := Option.none }) (v := ?_) rfl (by kernel_rfl) (by kernel_rfl) (by kernel_rfl) (by kernel_rfl) (fun _ _ _ h => h) (Or.inl ⟨by rfl, ?_⟩) (fun h => by simp at h) ?_
            rotate_left 1
            · intro w hSw
              try dsimp only at hSw
              go_simp
              first | done | with_reducible rfl
            try simp only [Act.put, List.setIfInBounds_toArray, List.set_cons_zero, List.set_cons_succ]
            refine Nt.takeT (i := 19) (oi := { dst := some 62, op := Op.fieldAddr 69 (Operand.tmp 61) 2, type := 0, pos := _, after := #[{ on := 18, ground := Ground.data }, { on := 0, ground := Ground.phase }, { on := 1, ground := Ground.phase }, { on := 2, ground := Ground.phase }, { on := 3, ground := Ground.phase }, { on := 4, ground := Ground.phase }, { on := 5, ground := Ground.phase }, { on := 6, ground := Ground.phase }, { on := 7, ground := Ground.phase }, { on := 8, ground := Ground.phase }, { on := 9, ground := Ground.phase }, { on := 10, ground := Ground.phase }, { on := 11, ground := Ground.phase }, { on := 12, ground := Ground.phase }, { on := 13, ground := Ground.phase }, { on := 14, ground := Ground.phase }, { on := 15, ground := Ground.phase }, { on := 16, ground := Ground.phase }, { on := 17, ground := Ground.phase }], guard := Option.none }) (v := ?_) rfl (by kernel_rfl) (by kernel_rfl) (by kernel_rfl) (by kernel_rfl) (fun _ _ _ h => h) (Or.inl ⟨by rfl, ?_⟩) (fun h => by simp at h) ?_
            rotate_left 1
            · intro w hSw
              try dsimp only at hSw
              go_simp
              first | done | with_reducible rfl
            try simp only [Act.put, List.setIfInBounds_toArray, List.set_cons_zero, List.set_cons_succ]
            refine Nt.nextN (i := 20) (by kernel_rfl) rfl (fun K hK => ?_)
            go_simp
            refine hK.out _ _ (fun h => by simp at h) ?_
            clear hK K
            try simp only [Act.put, List.setIfInBounds_toArray, List.set_cons_zero, List.set_cons_succ]
            refine Nt.doneN (by kernel_rfl) ?_ _
            refine NoPanic.normal ?_
            go_wp2_with fail
            go_ret
            exact FIN.out _ _ _ T4.out
        · go_simp
          have T1 := Lib.hid (T0.out.alloc (.cells #[.pointer Option.none] 85))
          have B1 := Lib.hid (heap_alloc_new W3 (.cells #[.pointer Option.none] 85))
          refine hK.out _ _ (fun _ => SB.out _ _ _ _ _ T1.out) ?_
          clear hK K
          try simp only [Act.put, List.setIfInBounds_toArray, List.set_cons_zero, List.set_cons_succ]
          refine Nt.nextN (i := 7) (by kernel_rfl) rfl (fun K hK => ?_)
          go_simp
          have T2 := Lib.hid (T1.out.alloc (.cells #[.string s] 9))
          have A2 := Lib.hid (heap_alloc_new (W3.alloc (.cells #[.pointer Option.none] 85)) (.cells #[.string s] 9))
          have B2 := Lib.hid ((Below.heap_alloc (W3.alloc (.cells #[.pointer Option.none] 85)) (.cells #[.string s] 9) _ (lt_some B1.out)).trans B1.out)
          refine hK.out _ _ (fun _ => SB.out _ _ _ _ _ T2.out) ?_
          clear hK K
          try simp only [Act.put, List.setIfInBounds_toArray, List.set_cons_zero, List.set_cons_succ]
          refine Nt.nextN (i := 8) (by kernel_rfl) rfl (fun K hK => ?_)
          obtain ⟨nb, nc, V3, hrun, hT3, hkeep⟩ := two_appN T2.out A2.out LEN1.out 27
          have T3 := Lib.hid hT3
          have B3 := Lib.hid (hkeep _ _ B2.out)
          refine step_run rfl (.tmp 49) (.tmp 51) rfl (by simp [Act.eval]) (by simp [Act.eval]) hrun ?_
          clear hrun hT3 hkeep
          refine hK.out _ _ (fun _ => SB.out _ _ _ _ _ T3.out) ?_
          clear hK K
          try simp only [Act.put, List.setIfInBounds_toArray, List.set_cons_zero, List.set_cons_succ]
          refine Nt.nextN (i := 14) (by kernel_rfl) rfl (fun K hK => ?_)
          obtain ⟨fb, fc, V4, hrun, hT4, hkeep⟩ := two_appF T3.out B3.out LEN3.out 67
          have T4 := Lib.hid hT4
          refine step_run rfl (.tmp 56) (.tmp 57) rfl (by simp [Act.eval]) (by simp [Act.eval]) hrun ?_
          clear hrun hT4 hkeep
          refine hK.out _ _ (fun _ => SB.out _ _ _ _ _ T4.out) ?_
          clear hK K
          try simp only [Act.put, List.setIfInBounds_toArray, List.set_cons_zero, List.set_cons_succ]
          refine Nt.takeT (i := 15) (oi := { dst := some 59, op := Op.nilCheck (Operand.tmp 44), type := 0, pos := _, after := #[{ on := 0, ground := Ground.data }, { on := 0, ground := Ground.phase }, { on := 1, ground := Ground.textOnly Departure.lateStores }, { on := 2, ground := Ground.phase }, { on := 3, ground := Ground.phase }, { on := 4, ground := Ground.phase }, { on := 5, ground := Ground.phase }, { on := 6, ground := Ground.phase }, { on := 7, ground := Ground.phase }, { on := 8, ground := Ground.phase }, { on := 9, ground := Ground.textOnly Departure.lateStores }, { on := 10, ground := Ground.textOnly Departure.lateStoresUnsure }, { on := 11, ground := Ground.textOnly Departure.lateStoresUnsure }, { on := 12, ground := Ground.phase }, { on := 13, ground := Ground.textOnly Departure.lateStoresUnsure }, { on := 14, ground := Ground.phase }], guard := Option.none }) (v := ?_) rfl (by kernel_rfl) (by kernel_rfl) (by kernel_rfl) (by kernel_rfl) (fun _ _ _ h => h) (Or.inl ⟨by rfl, ?_⟩) (fun _ => (SB.out _ _ _ _ _ T4.out)) ?_
          rotate_left 1
          · intro w hSw
            try dsimp only at hSw
            go_simp
            first | done | with_reducible rfl
          try simp only [Act.put, List.setIfInBounds_toArray, List.set_cons_zero, List.set_cons_succ]
          refine Nt.takeT (i := 16) (oi := { dst := some 60, op := Op.fieldAddr 69 (Operand.tmp 59) 0, type := 0, pos := _, after := #[{ on := 15, ground := Ground.data }, { on := 0, ground := Ground.phase }, { on := 1, ground := Ground.textOnly Departure.lateStores }, { on := 2, ground := Ground.phase }, { on := 3, ground := Ground.phase }, { on := 4, ground := Ground.phase }, { on := 5, ground := Ground.phase }, { on := 6, ground := Ground.phase }, { on := 7, ground := Ground.phase }, { on := 8, ground := Ground.phase }, { on := 9, ground := Ground.textOnly Departure.lateStores }, { on := 10, ground := Ground.textOnly Departure.lateStoresUnsure }, { on := 11, ground := Ground.textOnly Departure.lateStoresUnsure }, { on := 12, ground := Ground.phase }, { on := 13, ground := Ground.textOnly Departure.lateStoresUnsure }, { on := 14, ground := Ground.phase }], guard := Option.none }) (v := ?_) rfl (by kernel_rfl) (by kernel_rfl) (by kernel_rfl) (by kernel_rfl) (fun _ _ _ h => h) (Or.inl ⟨by rfl, ?_⟩) (fun _ => (SB.out _ _ _ _ _ T4.out)) ?_
          rotate_left 1
          · intro w hSw
            try dsimp only at hSw
            go_simp
            first | done | with_reducible rfl
          try simp only [Act.put, List.setIfInBounds_toArray, List.set_cons_zero, List.set_cons_succ]
          obtain ⟨e0, e2, g0, g2⟩ := SC.out _ _ _ _ _ T4.out
          refine Nt.nextN (i := 17) (by kernel_rfl) rfl (fun K hK => ?_)
          go_simp
          refine hK.out _ _ (fun h => by simp at h) ?_
          clear hK K
          try simp only [Act.put, List.setIfInBounds_toArray, List.set_cons_zero, List.set_cons_succ]
          refine Nt.takeT (i := 18) (oi := { dst := some 61, op := Op.nilCheck (Operand.tmp 45), type := 0, pos := _, after := #[{ on := 1, ground := Ground.data }, { on := 0, ground := Ground.phase }, { on := 1, ground := Ground.phase }, { on := 2, ground := Ground.phase }, { on := 3, ground := Ground.phase }, { on := 4, ground := Ground.phase }, { on := 5, ground := Ground.phase }, { on := 6, ground := Ground.phase }, { on := 7, ground := Ground.phase }, { on := 8, ground := Ground.phase }, { on := 9, ground := Ground.phase }, { on := 10, ground := Ground.phase }, { on := 11, ground := Ground.phase }, { on := 12, ground := Ground.phase }, { on := 13, ground := Ground.phase }, { on := 14, ground := Ground.phase }, { on := 15, ground := Ground.phase }, { on := 16, ground := Ground.phase }, { on := 17, ground := Ground.phase }], guard := Option.none }) (v := ?_) rfl (by kernel_rfl) (by kernel_rfl) (by kernel_rfl) (by kernel_rfl) (fun _ _ _ h => h) (Or.inl ⟨by rfl, ?_⟩) (fun h => by simp at h) ?_
          rotate_left 1
          · intro w hSw
            try dsimp only at hSw
            go_simp
            first | done | with_reducible rfl
          try simp only [Act.put, List.setIfInBounds_toArray, List.set_cons_zero, List.set_cons_succ]
          refine Nt.takeT (i := 19) (oi := { dst := some 62, op := Op.fieldAddr 69 (Operand.tmp 61) 2, type := 0, pos := _, after := #[{ on := 18, ground := Ground.data }, { on := 0, ground := Ground.phase }, { on := 1, ground := Ground.phase }, { on := 2, ground := Ground.phase }, { on := 3, ground := Ground.phase }, { on := 4, ground := Ground.phase }, { on := 5, ground := Ground.phase }, { on := 6, ground := Ground.phase }, { on := 7, ground := Ground.phase }, { on := 8, ground := Ground.phase }, { on := 9, ground := Ground.phase }, { on := 10, ground := Ground.phase }, { on := 11, ground := Ground.phase }, { on := 12, ground := Ground.phase }, { on := 13, ground := Ground.phase }, { on := 14, ground := Ground.phase }, { on := 15, ground := Ground.phase }, { on := 16, ground := Ground.phase }, { on := 17, ground := Ground.phase }], guard := Option.none }) (v := ?_) rfl (by kernel_rfl) (by kernel_rfl) (by kernel_rfl) (by kernel_rfl) (fun _ _ _ h => h) (Or.inl ⟨by rfl, ?_⟩) (fun h => by simp at h) ?_
          rotate_left 1
          · intro w hSw
            try dsimp only at hSw
            go_simp
            first | done | with_reducible rfl
          try simp only [Act.put, List.setIfInBounds_toArray, List.set_cons_zero, List.set_cons_succ]
          refine Nt.nextN (i := 20) (by kernel_rfl) rfl (fun K hK => ?_)
          go_simp
          refine hK.out _ _ (fun h => by simp at h) ?_
          clear hK K
          try simp only [Act.put, List.setIfInBounds_toArray, List.set_cons_zero, List.set_cons_succ]
          refine Nt.doneN (by kernel_rfl) ?_ _
          refine NoPanic.normal ?_
          go_wp2_with fail
          go_ret
          exact FIN.out _ _ _ T4.out
    · have hz : (!Pk.txB l false && (Pk.txL l).isEmpty) = false := by
        cases e1 : Pk.txB l false with
        | true => rfl
        | false =>
          cases e2 : Pk.txL l with
          | nil => exact absurd ⟨e1, e2⟩ hok
          | cons x t => rfl
      rw [hz]
      have HR : Hid (takeN B l = Option.none) := Lib.hid (by rw [HT.out, if_neg (fun hh => hok ⟨hh.1, hh.2.1⟩)])
      clear hz hok HT hlook'
      go_wp2_with fail
      go_ret
      rw [HR.out]
      exact ⟨rfl, ⟨_, _, _, _, H1.out.wide fun k hk => .inl hk⟩, HM1.out⟩
end Go.Proofs.Ytofdnbddpageoaa.Nm
