/-
  A DISK OF TWO YtfmelhcpccghdaaGreatS IS SMALL, however many deeds were done.
-/
import Derived.Test.YtfmelhcpccghdaaGreatLogD
import Derived.Maps.Ext
namespace Go.Proofs.YtfmelhcpccghdaaGreat.Rl
open Go.RowKit Go.Maps
open Go.WideElems (Fit rg rd_key rg_of)

variable {X : Nat → Prop} {K K' : Nat} {w : World} {p : Nat} {d : Ds} {nm sp : List UInt8}

theorem two_at_most {A : Type} {a b : Lit} : ∀ {l : List (Lit × A)}, l.Pairwise (fun p q => p.1 ≠ q.1) → (∀ p ∈ l, p.1 = a ∨ p.1 = b) → l.length ≤ 2
  | [], _, _ => by simp
  | [_], _, _ => by simp
  | [_, _], _, _ => by simp
  | x :: y :: z :: r, hp, hk => by
    have h1 := List.pairwise_cons.1 hp
    have h2 := List.pairwise_cons.1 h1.2
    have xy := h1.1 y (by simp)
    have xz := h1.1 z (by simp)
    have yz := h2.1 z (by simp)
    have kx := hk x (by simp)
    have ky := hk y (by simp)
    have kz := hk z (by simp)
    rcases kx with kx | kx <;> rcases ky with ky | ky <;> rcases kz with kz | kz <;> simp_all

theorem dir_two {n m : Nat} {f : List UInt8 → Option Nat} (h : Dir w n m f) (h2 : Two nm sp f) : Dir w 2 m f := by
  obtain ⟨D, hown, hhas, hat⟩ := h
  have hc := World.ownsMap.canon hown law9
  obtain ⟨es, clock, hm, F, hn, rfl⟩ := hown
  obtain ⟨es', e', hp, _⟩ := hc
  have hlen : ((es.toList.map (rg Tryz.prog 9 fileE)).foldr DataW.insert []).length = es.size := by rw [length_sorted]; simp
  have e2 : (es.toList.map (rg Tryz.prog 9 fileE)).foldr DataW.insert [] = es' := by injection e'
  have hk : ∀ p ∈ es', p.1 = Lit.string nm ∨ p.1 = Lit.string sp := by
    intro p hpm
    rw [← e2] at hpm
    obtain ⟨x, hx, rfl⟩ := List.mem_map.1 (mem_sorted.1 hpm)
    obtain ⟨y, hy⟩ := F.reads x hx
    rw [rg_of hy] at hpm ⊢
    obtain ⟨l, _, hl, _⟩ := keyS_inv (rd_key hy)
    have hz := hhas l
    rw [has_eq] at hz
    have : (List.foldr DataW.insert [] (List.map (rg Tryz.prog 9 fileE) es.toList)).any (fun p => p.1.sameKey (Lit.string l)) = true := List.any_eq_true.2 ⟨y, hpm, by rw [hl]; simp [Lit.sameKey]⟩
    rw [this] at hz
    rw [hl]
    rcases h2 l (fun e => by rw [e] at hz; cases hz) with e | e
    · exact .inl (by rw [e])
    · exact .inr (by rw [e])
  have hl2 := two_at_most (apart_of_rising hp) hk
  rw [← e2, hlen] at hl2
  exact ⟨_, ⟨es, clock, hm, F, hl2, rfl⟩, hhas, hat⟩

theorem shrink (h : Dk X K w p d) (h1 : Two nm sp d.now) (h2 : Two nm sp d.sure) (hch : d.changes.length ≤ 4) (hK : 6 ≤ K') (hc : d.clock ≤ 1000 * K' + 1) (hd : d.deeds ≤ 1000 * K') : Dk X K' w p d := by
  obtain ⟨q, h⟩ := h
  obtain ⟨n1, _, e1⟩ := h.now
  obtain ⟨n2, _, e2⟩ := h.sure
  exact ⟨q, { h with now := ⟨2, by omega, dir_two e1 h1⟩, sure := ⟨2, by omega, dir_two e2 h2⟩, clock := hc, deeds := hd }⟩
end Go.Proofs.YtfmelhcpccghdaaGreat.Rl
