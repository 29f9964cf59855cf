/-
  THE LIBRARY'S FUNCTIONS THAT THE PROGRAM CALLS, by the kit's contracts, laid over this dump by the kit's own tool.
-/
import Derived.Shelf.Bytes.SlSplitNil
import Derived.Test.YtgledabcfonbeaaGreatDoorRows
namespace Go.Proofs.YtgledabcfonbeaaGreatDoor
open Go.Shelf
def shlaysSlP9ren : Go.Shelf.Ren := ⟨fun | 9 => 82 | 11 => 98 | 14 => 109 | 15 => 110 | 16 => 111 | 17 => 118 | 19 => 119 | 20 => 120 | 21 => 121 | 22 => 112 | 23 => 122 | 24 => 123 | 25 => 124 | 26 => 127 | 29 => 128 | 30 => 129 | 31 => 130 | n => n, fun | 22 => 24 | 23 => 119 | 3 => 3 | 4 => 4 | 0 => 0 | 34 => 171 | 21 => 21 | 5 => 5 | 45 => 133 | 9 => 9 | 58 => 150 | 38 => 149 | 28 => 180 | 62 => 183 | 61 => 182 | n => n, fun | 2 => 1 | 3 => 4 | 4 => 5 | n => n⟩
theorem shlaysSlP9 : Go.Proofs.SlLaysP.n9 Tryz.prog shlaysSlP9ren := {
  mixed := by kernel_rfl
  f9 := Tryz.func82.trans (congrArg some (by kernel_rfl))
  f11 := Tryz.func98.trans (congrArg some (by kernel_rfl))
  f15 := Tryz.func110.trans (congrArg some (by kernel_rfl))
  f16 := Tryz.func111.trans (congrArg some (by kernel_rfl))
  f20 := Tryz.func120.trans (congrArg some (by kernel_rfl))
  f21 := Tryz.func121.trans (congrArg some (by kernel_rfl))
  f22 := Tryz.func112.trans (congrArg some (by kernel_rfl))
  f23 := Tryz.func122.trans (congrArg some (by kernel_rfl))
  f24 := Tryz.func123.trans (congrArg some (by kernel_rfl))
  f25 := Tryz.func124.trans (congrArg some (by kernel_rfl))
  f30 := Tryz.func129.trans (congrArg some (by kernel_rfl))
  f31 := Tryz.func130.trans (congrArg some (by kernel_rfl))
  t0 := Tryz.underlying0
  a0 := Tryz.isAgg0
  z0 := Tryz.sizeOf0
  v0 := Tryz.zeroValue0
  t3 := Tryz.underlying3
  a3 := Tryz.isAgg3
  z3 := Tryz.sizeOf3
  v3 := Tryz.zeroValue3
  t4 := Tryz.underlying4
  a4 := Tryz.isAgg4
  z4 := Tryz.sizeOf4
  v4 := Tryz.zeroValue4
  t5 := Tryz.underlying5
  a5 := Tryz.isAgg5
  z5 := Tryz.sizeOf5
  v5 := Tryz.zeroValue5
  t9 := Tryz.underlying9
  a9 := Tryz.isAgg9
  z9 := Tryz.sizeOf9
  v9 := Tryz.zeroValue9
  t22 := Tryz.underlying24
  a22 := Tryz.isAgg24
  z22 := Tryz.sizeOf24
  v22 := Tryz.zeroValue24
  t23 := Tryz.underlying119
  a23 := Tryz.isAgg119
  z23 := Tryz.sizeOf119
  v23 := Tryz.zeroValue119
  t38 := Tryz.underlying149
  a38 := Tryz.isAgg149
  z38 := Tryz.sizeOf149
  v38 := Tryz.zeroValue149
  t45 := Tryz.underlying133
  a45 := Tryz.isAgg133
  z45 := Tryz.sizeOf133
  v45 := Tryz.zeroValue133
  t58 := Tryz.underlying150
  a58 := Tryz.isAgg150
  z58 := Tryz.sizeOf150
  v58 := Tryz.zeroValue150
  g2 := by kernel_rfl
  i22 := by kernel_rfl }
open Go.RowKit Go.Lib in
theorem shbytesSplitAfternil (p2 : Option Addr) (k c2 : Nat) (w : World) (h1 : 1 ≤ k) (hk : k ≤ 9223372036854775807) (h1c : k = 1 → ∃ b2 o2 cv, p2 = some ⟨b2, o2, none⟩ ∧ w.cell? ⟨b2, o2, none⟩ = some (.int .u8 cv)) :
    Calls Tryz.prog 82 #[.slice none 0 0, .slice p2 k c2] w fun e w' => e = .returned (.slice (some ⟨w.heap.size, 0, none⟩) 1 1) ∧ w' = w.alloc (.cells #[.slice none 0 0] 24) := Any.bytes_SplitAfter_nil shlaysSlP9 p2 k c2 w h1 hk h1c
end Go.Proofs.YtgledabcfonbeaaGreatDoor
