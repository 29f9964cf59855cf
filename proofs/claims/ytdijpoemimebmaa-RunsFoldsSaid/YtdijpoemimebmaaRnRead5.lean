/-
  runs.Read, WALKED: what its loops come to, in the words of the bytes.
-/
import Derived.Test.YtdijpoemimebmaaRnRead4
namespace Go.Proofs.Ytdijpoemimebmaa.Rn
open Go.RowKit
open Go.Proofs.Ytdijpoemimebmaa.Cr

def rdE (b : List Nat) : Nat := if fits b then 0 else 4
def rdO (b : List Nat) : Run := if fits b then rdR b else none

/-- Read's end -/
def RdQ (w : World) (b : List Nat) (e : Ending) (w' : World) : Prop :=
  ∃ vi vf, e = .returned (.tuple #[.agg (runC (rdO b) vi vf), .int .i64 (rdE b)]) ∧ InRow w' vi (rdO b).ins ∧ FdRow w' vf (rdO b).found ∧ Below w.heap.size w w'

section
variable {W W0 : World} {p g b4 b5 b6 b9 base : Nat} {o c : ByteArray} {t m : Int} {l : List Nat}

theorem E5 (l : List Nat) : (s1 l).text.text.time.time = s5 l := by unfold s5 s4 s3 s2; rfl
theorem E6 (l : List Nat) : (s5 l).count = s6 l := by unfold s6; rfl
theorem E7 (l : List Nat) : insK (s5 l).ct (s6 l) = (rdIns l, s7 l) := by unfold rdIns s7; exact pairE _
theorem E8 (l : List Nat) : (s7 l).count = s8 l := by unfold s8; rfl
theorem E9 (l : List Nat) : fdsK (s7 l).ct (s8 l) = (rdFds l, s9 l) := by unfold rdFds s9; exact pairE _

theorem E7' (l : List Nat) : insK (s5 l).ct (s5 l).count = (rdIns l, s7 l) := by rw [E6]; exact E7 l
theorem E9' (l : List Nat) : fdsK (s7 l).ct (s7 l).count = (rdFds l, s9 l) := by rw [E8]; exact E9 l

theorem insL_c {S5 S7 : St} {I : List (ByteArray × Nat)} (E : insK S5.ct S5.count = (I, S7)) (h : RdS W p g b4 b5 b6 S5) (hbox : BoxS W b9 base o c t m (.slice Option.none 0 0) (.slice Option.none 0 0) [] []) (hbase : base ≤ W.heap.size) (hb9 : base ≤ b9) (hp : p < base) (hg : g < base) (h4 : b4 < base) (h5 : b5 < base) (h6 : b6 < base) :
    Calls Try.prog 42 #[.func (.func 46) #[] #[.pointer (some ⟨b9, 0, Option.none⟩), .pointer (some ⟨b4, 0, Option.none⟩), .pointer (some ⟨b6, 0, Option.none⟩)], .pointer (some ⟨b4, 0, Option.none⟩)] W fun e W' => (∃ z, e = .returned z) ∧ RdS W' p g b4 b5 b6 S7 ∧ (∃ vi, BoxS W' b9 base o c t m vi (.slice Option.none 0 0) I []) ∧ Off (fun k => k = p ∨ k = b5 ∨ base ≤ k) W W' := by
  have := ins_c h hbox hbase hb9 hp hg h4 h5 h6
  unfold InsI at this
  rw [E] at this
  exact this

theorem fdsL_c {S7 S9 : St} {I : List (ByteArray × Nat)} {F : List Nat} (E : fdsK S7.ct S7.count = (F, S9)) {vi : Value} (h : RdS W p g b4 b5 b6 S7) (hbox : BoxS W b9 base o c t m vi (.slice Option.none 0 0) I []) (hbase : base ≤ W.heap.size) (hb9 : base ≤ b9) (hp : p < base) (hg : g < base) (h4 : b4 < base) (h5 : b5 < base) (h6 : b6 < base) :
    Calls Try.prog 42 #[.func (.func 47) #[] #[.pointer (some ⟨b9, 0, Option.none⟩), .pointer (some ⟨b6, 0, Option.none⟩)], .pointer (some ⟨b4, 0, Option.none⟩)] W fun e W' => (∃ z, e = .returned z) ∧ RdS W' p g b4 b5 b6 S9 ∧ (∃ vf, BoxS W' b9 base o c t m vi vf I F) ∧ Off (fun k => k = p ∨ k = b5 ∨ base ≤ k) W W' := by
  have := fds_c h hbox hbase hb9 hp hg h4 h5 h6
  unfold FdsI at this
  rw [E] at this
  exact this

theorem inRow_own {v : Value} {L : List (ByteArray × Nat)} (h : W.ownsRow base 59 2 v L.length (insV L)) (ht : ∀ x ∈ L, tmI x.2 = (x.2 : Int)) : InRow W v (L.map In.of) := by
  rcases h.2 with ⟨rfl, h0⟩ | ⟨gg, cap, cur, rfl, hb, hg, hle, _, hsz, htake⟩
  · have : L = [] := List.eq_nil_of_length_eq_zero h0
    subst this
    exact ⟨Option.none, 0, rfl, fun _ => rfl, Nat.le_refl _, .inl rfl⟩
  · refine ⟨some ⟨gg, 0, Option.none⟩, cap, by rw [List.length_map], (fun e => nomatch e), by rw [List.length_map]; exact hle, .inr ⟨gg, 0, rfl, lt_some hg, fun i x hx => ?_⟩⟩
    rw [List.getElem?_map] at hx
    obtain ⟨y, hy, rfl⟩ := Option.map_eq_some_iff.1 hx
    have hi : i < L.length := (List.getElem?_eq_some_iff.1 hy).1
    have key : ∀ M : List (ByteArray × Nat), ∀ j, M[j]? = some y → (insV M)[j * 2]? = some (.string y.1) ∧ (insV M)[j * 2 + 1]? = some (.int .i64 (tmI y.2)) := by
      intro M
      induction M with
      | nil => intro j hj; simp at hj
      | cons z M ih =>
        intro j hj
        have e : insV (z :: M) = .string z.1 :: .int .i64 (tmI z.2) :: insV M := rfl
        cases j with
        | zero => simp at hj; subst hj; rw [e]; simp
        | succ j =>
          have := ih j (by simpa using hj)
          rw [e, show (j + 1) * 2 = j * 2 + 2 from by omega]
          simpa using this
    obtain ⟨k0, k1⟩ := key L i hy
    have hcur : ∀ j v, (insV L)[j]? = some v → cur[j]? = some v := fun j v hj => by
      rw [← htake] at hj
      rw [List.getElem?_take] at hj
      split at hj
      · simpa using hj
      · cases hj
    have hc : ∀ j v, (insV L)[j]? = some v → W.cell? ⟨gg, j, Option.none⟩ = some v := fun j v hj => by
      have := hcur j v hj
      simp [World.cell?, hg, this]
    refine ⟨by rw [Nat.zero_add]; exact hc _ _ k0, ?_⟩
    rw [Nat.zero_add, hc _ _ k1, ht y (List.mem_of_getElem? hy)]
    rfl

theorem fdRow_own {v : Value} {L : List Nat} (h : W.ownsRow base 3 1 v L.length (fdsV L)) (ht : ∀ x ∈ L, tmI x = (x : Int)) : FdRow W v (L.map fun (n : Nat) => (n : Int)) := by
  rcases h.2 with ⟨rfl, h0⟩ | ⟨gg, cap, cur, rfl, hb, hg, hle, _, hsz, htake⟩
  · have : L = [] := List.eq_nil_of_length_eq_zero h0
    subst this
    exact ⟨Option.none, 0, rfl, fun _ => rfl, Nat.le_refl _, .inl rfl⟩
  · refine ⟨some ⟨gg, 0, Option.none⟩, cap, by rw [List.length_map], (fun e => nomatch e), by rw [List.length_map]; exact hle, .inr ⟨gg, 0, rfl, lt_some hg, fun i x hx => ?_⟩⟩
    rw [List.getElem?_map] at hx
    obtain ⟨y, hy, rfl⟩ := Option.map_eq_some_iff.1 hx
    have k0 : (fdsV L)[i]? = some (.int .i64 (tmI y)) := by simp [fdsV, hy]
    have hcur : cur[i]? = some (.int .i64 (tmI y)) := by
      rw [← htake, List.getElem?_take] at k0
      split at k0
      · simpa using k0
      · cases k0
    rw [Nat.zero_add, ← ht y (List.mem_of_getElem? hy)]
    simp [World.cell?, hg, hcur]

theorem tmI_late {n : Nat} (h : lateB n = false) : tmI n = (n : Int) := by
  have := late_int h
  exact IntWalk.wrap64_in _ (by omega)

/-- the times of what fits are as they are -/
theorem rdR_time (l : List Nat) : (rdR l).time = ((s3 l).tm : Int) := by simp only [rdR]
theorem rdR_mark (l : List Nat) : (rdR l).mark = ((s4 l).tm : Int) := by simp only [rdR]
theorem rdR_ins (l : List Nat) : (rdR l).ins = (rdIns l).map fun x => ⟨x.1, x.2⟩ := by simp only [rdR]
theorem rdR_found (l : List Nat) : (rdR l).found = (rdFds l).map fun (n : Nat) => (n : Int) := by simp only [rdR]
theorem rdR_out (l : List Nat) : (rdR l).out = (s1 l).tx := by simp only [rdR]
theorem rdR_cmd (l : List Nat) : (rdR l).cmd = (s2 l).tx := by simp only [rdR]

theorem fits_tm {l : List Nat} (hl : ∀ n ∈ l, n < 256) (h : fits l = true) : tmI (s3 l).tm = ((s3 l).tm : Int) ∧ tmI (s4 l).tm = ((s4 l).tm : Int) ∧ (∀ x ∈ rdIns l, tmI x.2 = (x.2 : Int)) ∧ (∀ x ∈ rdFds l, tmI x = (x : Int)) := by
  have hs := (read_bwd hl h).2.2
  have key : ∀ n : Nat, (n : Int) < 4611686018427387904 → tmI n = (n : Int) := fun n hn => IntWalk.wrap64_in _ (by omega)
  have e1 := rdR_time l
  have e2 := rdR_mark l
  have e3 := rdR_ins l
  have e4 := rdR_found l
  have h1 := hs.time.2
  have h2 := hs.mark.2
  have h3 := hs.ins
  have h4 := hs.fds
  rw [e1] at h1
  rw [e2] at h2
  rw [e3] at h3
  rw [e4] at h4
  refine ⟨key _ h1, key _ h2, ?_, ?_⟩
  · generalize rdIns l = I at h3 ⊢
    exact fun x hx => key _ (h3 _ (List.mem_map.2 ⟨x, hx, rfl⟩)).2
  · generalize rdFds l = F at h4 ⊢
    exact fun x hx => key _ (h4 _ (List.mem_map.2 ⟨x, hx, rfl⟩)).2
end


theorem six_cells {W : World} {k : Nat} {v0 v1 v2 v3 v4 v5 : Value} {t : TypeId} (h : W.heap[k]? = some (.cells #[v0, v1, v2, v3, v4, v5] t (0, 0))) :
    (W.cell? ⟨k, 0, Option.none⟩ = some v0 ∧ W.cell? ⟨k, 1, Option.none⟩ = some v1 ∧ W.cell? ⟨k, 2, Option.none⟩ = some v2 ∧ W.cell? ⟨k, 3, Option.none⟩ = some v3 ∧ W.cell? ⟨k, 4, Option.none⟩ = some v4 ∧ W.cell? ⟨k, 5, Option.none⟩ = some v5) ∧
    (W.frozen? ⟨k, 0, Option.none⟩ = false ∧ W.frozen? ⟨k, 1, Option.none⟩ = false ∧ W.frozen? ⟨k, 2, Option.none⟩ = false ∧ W.frozen? ⟨k, 3, Option.none⟩ = false ∧ W.frozen? ⟨k, 4, Option.none⟩ = false ∧ W.frozen? ⟨k, 5, Option.none⟩ = false) := by
  simp [World.cell?, World.frozen?, h]

/-- the end, where it is none -/
theorem read_no {w w' : World} {l : List Nat} {k : Nat} {v0 v1 v2 v3 v4 v5 : Value} (hf : fits l = false) (hb : Below w.heap.size w w') (hk : w.heap.size ≤ k) :
    RdQ w l (.returned (.tuple #[.agg #[.string ⟨#[]⟩, .string ⟨#[]⟩, .int .i64 0, .int .i64 0, .slice Option.none 0 0, .slice Option.none 0 0], .int .i64 4])) (six w' k v0 v1 v2 v3 v4 v5) := by
  have e1 : rdE l = 4 := by unfold rdE; rw [hf]; rfl
  have e2 : rdO l = none := by unfold rdO; rw [hf]; rfl
  refine ⟨.slice Option.none 0 0, .slice Option.none 0 0, ?_, ?_, ?_, ?_⟩
  · rw [e1, e2]; rfl
  · rw [e2]; exact ⟨Option.none, 0, rfl, fun _ => rfl, Nat.le_refl _, .inl rfl⟩
  · rw [e2]; exact ⟨Option.none, 0, rfl, fun _ => rfl, Nat.le_refl _, .inl rfl⟩
  · exact hb.trans ((six_off (C := fun j => j = k) rfl).below (by rintro j rfl; exact hk) hb.size)

/-- the end, where it is a run -/
theorem read_yes {w w' : World} {l : List Nat} {k base : Nat} {vi vf : Value} {v0 v1 v2 v3 v4 v5 u0 u1 u2 u3 u4 u5 : Value} (hl : ∀ n ∈ l, n < 256) (hf : fits l = true) (hb : Below w.heap.size w w') (hk : w.heap.size ≤ k)
    (hz : w'.heap[k]? = some (.cells #[u0, u1, u2, u3, u4, u5] 33 (0, 0))) (hi : w'.ownsRow base 59 2 vi (rdIns l).length (insV (rdIns l))) (hfd : w'.ownsRow base 3 1 vf (rdFds l).length (fdsV (rdFds l))) :
    RdQ w l (.returned (.tuple #[.agg #[.string (s1 l).tx, .string (s2 l).tx, .int .i64 (tmI (s3 l).tm), .int .i64 (tmI (s4 l).tm), vi, vf], .int .i64 0])) (six w' k v0 v1 v2 v3 v4 v5) := by
  have e1 : rdE l = 0 := by unfold rdE; rw [hf]; rfl
  have e2 : rdO l = rdR l := by unfold rdO; rw [hf]; rfl
  obtain ⟨t1, t2, t3, t4⟩ := fits_tm hl hf
  have hi' : (six w' k v0 v1 v2 v3 v4 v5).ownsRow base 59 2 vi (rdIns l).length (insV (rdIns l)) := owns_kept hi fun g hg => by
    obtain ⟨_, cur, hc⟩ := owns_block hi hg
    exact six_other (ne_type hc hz (by decide))
  have hfd' : (six w' k v0 v1 v2 v3 v4 v5).ownsRow base 3 1 vf (rdFds l).length (fdsV (rdFds l)) := owns_kept hfd fun g hg => by
    obtain ⟨_, cur, hc⟩ := owns_block hfd hg
    exact six_other (ne_type hc hz (by decide))
  refine ⟨vi, vf, ?_, ?_, ?_, ?_⟩
  · rw [e1, e2, t1, t2]
    unfold runC
    rw [rdR_out, rdR_cmd, rdR_time, rdR_mark]
    rfl
  · rw [e2, rdR_ins]
    exact inRow_own hi' t3
  · rw [e2, rdR_found]
    exact fdRow_own hfd' t4
  · exact hb.trans ((six_off (C := fun j => j = k) rfl).below (by rintro j rfl; exact hk) hb.size)

theorem fits_of {l : List Nat} {S : St} (hl : ∀ n ∈ l, n < 256) (hS : s9 l = S) : fits l = (!S.bad && S.l.isEmpty && !S.late && (Pk.rdN 8 l == Crc.hash (Pk.sb (s2 l).tx))) := by
  have L1 : (s1 l).Lt := Pk.rdL_lt 8 hl
  have L2 : (s2 l).Lt := L1.text
  have e := hash_cmd L2 (n := Crc.hash (Pk.txS (s2 l).l)) rfl
  unfold fits
  rw [hS, e]

theorem tx_size (s : St) : s.tx.size ≤ s.l.length := by
  unfold St.tx
  rw [Pk.str_size]
  unfold Pk.txS Pk.nx
  have h2 := Pk.rdL_le 2 s.l
  split
  · rw [List.length_take]; omega
  · exact Nat.zero_le _

theorem cc_size {l : List Nat} (h : l.length ≤ 1000000) : (s2 l).tx.size ≤ 140737488351232 := by
  have h1 : (s1 l).l.length ≤ 1000000 := Nat.le_trans (Pk.rdL_le 8 l) h
  have h2 : (s2 l).l.length ≤ 1000000 := text_len h1
  have h3 := tx_size (s2 l)
  generalize (s2 l).tx.size = x at *
  generalize (s2 l).l.length = y at *
  omega

theorem own_slice {W : World} {base e k n : Nat} {v : Value} {xs : List Value} (h : W.ownsRow base e k v n xs) : ∃ a c, v = .slice a n c := by
  rcases h.2 with ⟨rfl, rfl⟩ | ⟨g, cap, cur, rfl, _⟩
  · exact ⟨_, _, rfl⟩
  · exact ⟨_, _, rfl⟩
end Go.Proofs.Ytdijpoemimebmaa.Rn
