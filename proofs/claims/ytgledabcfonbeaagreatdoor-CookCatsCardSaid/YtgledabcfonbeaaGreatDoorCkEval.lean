/-
  What the chapter's two commands make.
-/
import Derived.Test.YtgledabcfonbeaaGreatDoorCkCookB
namespace Go.Proofs.YtgledabcfonbeaaGreatDoor.Df
open Go.RowKit Go.Maps Go.Proofs.YtgledabcfonbeaaGreatDoor
def sCat : Bs := [99, 97, 116, 32, 97, 32, 98, 32, 62, 32, 111]
def sInc : Bs := [105, 110, 99, 32, 97, 32, 62, 32, 111, 32, 58, 32, 100]
theorem eval_cat (H : Bs → Bs) : cookL H (words [] sCat) [[97], [98]] [([97], [120]), ([98], [121])] = some (⟨false, wCat, [[97], [98]], [[111]], []⟩, ([120, 121], [])) := by kernel_rfl
theorem eval_inc (H : Bs → Bs) : cookL H (words [] sInc) [[97]] [([97], [35, 105, 110, 99, 108, 117, 100, 101, 32, 98]), ([98], [121])] = some (⟨false, wInc, [[97]], [[111]], [100]⟩, ([121], [[98]])) := by kernel_rfl
theorem read_cat : readL (words [] sCat) = some ⟨false, wCat, [[97], [98]], [[111]], []⟩ := by kernel_rfl
theorem read_inc : readL (words [] sInc) = some ⟨false, wInc, [[97]], [[111]], [100]⟩ := by kernel_rfl
theorem eval_deps : depsT ⟨false, wInc, [[97]], [[111]], [100]⟩ [[98]] = [111, 58, 32, 98, 10] := by kernel_rfl
end Go.Proofs.YtgledabcfonbeaaGreatDoor.Df
