/-
  A FILE IS WRITTEN ANEW; THE CHANGES ARE SETTLED.
-/
import Derived.Test.YtfmelhcpccghdaaGreatChange
namespace Go.Proofs.YtfmelhcpccghdaaGreat
open Go.RowKit Go.Maps

variable {X : Nat → Prop} {K : Nat} {w : World} {p : Nat} {q : Pl} {d : Ds}

theorem DkAt.refLt (h : DkAt X K w p q d) {i : Nat} (hi : Ref d i) : i < w.heap.size := lt_of_some (h.file i hi).cells

/-- a place that is not a file's is given a file -/
theorem DkAt.fresh (h : DkAt X K w p q d) {i : Nat} (hi : ¬ Ref d i) (v : Value) (f : Fl) : DkAt X K w p { q with bv := upd q.bv i v } (setF d i f) := by
  have hR : ∀ j, Ref (setF d i f) j → Ref d j := fun j hj => hj
  have e1 : ∀ j, Ref d j → upd q.bv i v j = q.bv j := fun j hj => upd_other _ _ (fun e => hi (e ▸ hj))
  have e2 : ∀ j, Ref d j → upd d.files i f j = d.files j := fun j hj => upd_other _ _ (fun e => hi (e ▸ hj))
  refine ⟨h.inX, h.offp, h.off1, h.off2, h.offc, h.ne, h.root, h.now, h.sure, h.chg, h.short, fun j hj => ?_, fun a b k ha hb ka kb => ?_, h.clock, h.deeds, h.quota⟩
  · show FileAt X w j (upd q.bv i v j) (upd d.files i f j)
    rw [e1 j (hR j hj), e2 j (hR j hj)]
    exact h.file j (hR j hj)
  · have ka' : (upd q.bv i v a).ownBlock = some k := ka
    have kb' : (upd q.bv i v b).ownBlock = some k := kb
    rw [e1 a (hR a ha)] at ka'
    rw [e1 b (hR b hb)] at kb'
    exact h.apart a b k (hR a ha) (hR b hb) ka' kb'

/-- what write tells, and what it leaves -/
def WriteQ (K M : Nat) (d : Ds) (name bs : List UInt8) (n : Int) (d' : Ds) : Prop :=
  ((n = 0 ∧ bs.length ≤ 65536 ∧ ∃ i, ¬ Ref d i ∧ d' = written d name bs i) ∨ ((n = 3 ∨ n = 7) ∧ d' = d)) ∧ (bs.length ≤ 65536 → K + 1 ≤ 200 → K * M + bs.length ≤ d.quota → n = 0)

def Told (X : Nat → Prop) (K : Nat) (w : World) (p : Nat) (Q : Int → Ds → Prop) (e : Ending) (w' : World) : Prop :=
  ∃ (n : Int) (d' : Ds), e = .returned (.int .i64 n) ∧ Same X w w' ∧ Dk X K w' p d' ∧ Q n d'

set_option maxHeartbeats 4000000 in
theorem write_at (h : DkAt X K w p q d) (hK : K + 2 ≤ 1000) {M : Nat} (hM : M ≤ 65536) (hall : ∀ l i, d.now l = some i → (d.files i).bytes.length ≤ M) {l : List UInt8} (hl : l.length ≤ 1000000) {v : Value} {bs : List UInt8} (hv : BRow w v bs) (hbs : bs.length ≤ 1000000000) :
    Calls Tryz.prog 44 #[.pointer (some ⟨p, 0, none⟩), .string (mk l), v] w (Told X (K + 2) w p (WriteQ K M d l bs)) := by
  obtain ⟨va, vc, rfl⟩ : ∃ a c, v = .slice a bs.length c := by
    rcases hv with ⟨rfl, rfl⟩ | ⟨a, c, rfl, _⟩
    · exact ⟨_, _, rfl⟩
    · exact ⟨_, _, rfl⟩
  have hroom := room_at h (by omega) hM hall (by unfold maxLen; omega : l.length ≤ maxLen) hbs
  have HD := Lib.hid h
  have HV := Lib.hid hv
  have HM := Lib.hid hM
  generalize hN : bs.length = N at *
  have HN := Lib.hid hN
  clear h hv hall hM hN
  go_enter Tryz.func44, Tryz.ntmps44
  go_wp2_with fail
  refine hroom.mono ?_
  rintro e w1 ⟨⟨n, rfl, hok⟩, hb1⟩
  have hd1 := HD.out.keep hb1
  have hv1 := HV.out.below hb1
  have HOK := Lib.hid hok
  have hn := hok.1
  clear hok hroom
  by_cases hn0 : n = 0
  · subst hn0
    have hcl := bclone_c hv1 (by rw [HN.out]; exact hbs)
    rw [HN.out] at hcl
    have HD1 := Lib.hid hd1
    clear hd1 hn hv1
    go_wp2_with fail
    refine hcl.mono ?_
    rintro e w2 ⟨u, rfl, hrow, hb2⟩
    obtain ⟨ua, uc, rfl⟩ := row_len hrow
    have hd2 := HD1.out.keep hb2
    have htk := tick_at hd2 (by omega)
    have HD2 := Lib.hid hd2
    have HROW := Lib.hid hrow
    clear hd2 hcl hrow
    go_wp2_with fail
    refine htk.mono ?_
    rintro e w3 ⟨rfl, hs3, hz3, hb3, hd3⟩
    have hi : ¬ Ref (ticked d) w3.heap.size := fun hr => by have := hd3.refLt hr; omega
    have hrow3 : w3.ownsRow w1.heap.size 5 1 (.slice ua N uc) N (bytesV bs) := row_kept HROW.out fun k hk => hb3 k (by
      rintro rfl
      obtain ⟨cur, hcur⟩ := row_elem HROW.out hk
      exact kind_ne hcur HD2.out.root (by decide) rfl)
    have hd4 := (hd3.alloc (.cells #[.slice ua N uc, .int .i64 0, .int .i64 d.clock] 80)).fresh hi (.slice ua N uc) ⟨bs, 0, d.clock⟩
    have hfa : FileAt X (w3.alloc (.cells #[.slice ua N uc, .int .i64 0, .int .i64 d.clock] 80)) w3.heap.size (.slice ua N uc) ⟨bs, 0, d.clock⟩ := by
      refine ⟨fun hx => by have := hd3.inX _ hx; omega, heap_alloc_new w3 _, ?_, fun k hk hx => ?_, Nat.zero_le _, ?_⟩
      · rw [HN.out]; exact ownsRow_base_a (hrow3.alloc _) (Nat.zero_le _)
      · have h1 := (HROW.out.lt k hk).1
        have h2 := HD.out.inX k hx
        have h3 := hb1.size
        omega
      · rw [HN.out]; exact HOK.out.2.1 rfl
    have hap : ∀ j k, Ref d j → (Value.slice ua N uc).ownBlock = some k → (q.bv j).ownBlock = some k → False := by
      intro j k hj h1 h2
      have h3 := row_lt (HD1.out.file j hj).row h2
      have h4 := (HROW.out.lt k h1).1
      omega
    have hch : Calls Tryz.prog 60 #[.pointer (some ⟨p, 0, none⟩), .agg #[.string ⟨#[]⟩, .string (mk l), .pointer (some ⟨w3.heap.size, 0, none⟩)]] (w3.alloc (.cells #[.slice ua N uc, .int .i64 0, .int .i64 d.clock] 80)) fun e w' => (∃ x, e = .returned x) ∧
        Same X (w3.alloc (.cells #[.slice ua N uc, .int .i64 0, .int .i64 d.clock] 80)) w' ∧ Dk X (K + 2) w' p (written d l bs w3.heap.size) := by
      refine (change_at hd4 (by omega) (c := ⟨[], l, some w3.heap.size⟩) (by simp) hl ?_).mono ?_
      · intro i' hi'
        cases hi'
        refine ⟨?_, fun j k hj h1 h2 => ?_⟩
        · show FileAt X _ _ (upd q.bv w3.heap.size (.slice ua N uc) w3.heap.size) (upd d.files w3.heap.size ⟨bs, 0, d.clock⟩ w3.heap.size)
          rw [upd_same, upd_same]
          exact hfa
        · by_cases hj' : j = w3.heap.size
          · exact hj'.symm
          · have h1' : (upd q.bv w3.heap.size (.slice ua N uc) w3.heap.size).ownBlock = some k := h1
            have h2' : (upd q.bv w3.heap.size (.slice ua N uc) j).ownBlock = some k := h2
            rw [upd_same] at h1'
            rw [upd_other _ _ hj'] at h2'
            exact (hap j k hj h1' h2').elim
      · rintro e w' ⟨hx, hs, cv, hd⟩
        exact ⟨hx, hs, ⟨_, hd⟩⟩
    have HI := Lib.hid hi
    have HZ := Lib.hid hz3
    have HS := Lib.hid hs3
    clear hs3 hd3 hd4 htk hi hrow3 hfa hap hz3 hb3
    go_wp2_with fail
    refine hch.mono ?_
    rintro e w5 ⟨⟨x, rfl⟩, hs5, hd5⟩
    go_wp2
    go_ret
    have hsame : Same X w w5 := (((Same.of_below hb1).trans (Same.of_below hb2)).trans (HS.out.alloc _)).trans hs5
    exact ⟨0, _, rfl, hsame, hd5, .inl ⟨rfl, by rw [HN.out]; exact HOK.out.2.1 rfl, _, HI.out, rfl⟩, fun _ _ _ => rfl⟩
  · have hnn : (n != 0) = true := by simpa using hn0
    have HD1 := Lib.hid hd1
    clear hd1 hv1
    go_wp2
    go_ret
    refine ⟨n, d, rfl, Same.of_below hb1, ⟨q, HD1.out.mono (by omega)⟩, .inr ⟨by omega, rfl⟩, ?_⟩
    intro h1 h2 h3
    exact HOK.out.2.2 (by rw [← HN.out]; exact h1) h2 (by rw [← HN.out]; exact h3)
end Go.Proofs.YtfmelhcpccghdaaGreat
