/-
  No cell of these rows narrows 'for every input' (looked for: loops, veiled, ifaces, maps, wideKeys, modest, calm, conditions, laid).
  DERIVED. THE GIVEN ROWS OF THIS SEAT. 3 by the template 'for every input the law returns true; each argument reads behind the call as it read before'; 0 by the template 'total and deterministic' (their statements: YtfmelhcpccghdaaGreatTotals.lean).
  GIVEN WITH THE SEED: the statements are not yours to turn. If you find one false, say at which input.
  Laid BY PROGRAM, IN A SANDBOX (cutbox-rows.mjs): the forced cells as the released guide's own fill.sh prints them over the translation f507d995d3e73d40… (all of the seat's roots in one cut). By AI agents, Wed Nov 11 2026. No macro, syntax, notation, axiom, sorry.
-/
import Derived.Test.YtfmelhcpccghdaaGreatChecked
import GoSem.Claim
import GoSem.ClaimJoined
import GoSem.ClaimMapViews
import Derived.JoinedTies
import Derived.KernelRfl
namespace Go.Proofs.YtfmelhcpccghdaaGreat
/- THE CELL 'sum', in the pinned program and in every row, IS THE sha256 OF THE DUMP (.gsa) THAT YtfmelhcpccghdaaGreatProg.lean LOADS. Nothing in Lean hashes anything: it is a label: what it is worth is what the hold of that sum in a sandbox is worth. -/
noncomputable def Tryz.pinned : Pinned := { name := "ytfmelhcpccghdaagreat", sum := "f507d995d3e73d4009c5c43230408109abe0a4eeeb2dce98bd2433e64b4a01c0", checked := Tryz.checked }
namespace Rows
def none {H : Type} : Left H := { results := [], args := [] }

/-- 'bellowslaw05.ReclogSure': WHATEVER THE INPUT: true; the input reads as it did. -/
def reclogSureSpec : ChangeSpec := { name := "reclogSure", fn := fun _ => fun
  | [d] => { results := [.lit (.bool true)], args := [d] }
  | _ => none }
def reclogSureRow : OpenClaim := { program := "ytfmelhcpccghdaagreat", sum := "f507d995d3e73d4009c5c43230408109abe0a4eeeb2dce98bd2433e64b4a01c0", func := "bellows/bellowslaw05.ReclogSure", spec := "reclogSure", inPlace := ["internal/bytealg.IndexByteString", "internal/bytealg.IndexString", "internal/abi.NoEscape", "internal/bytealg.MakeNoZero", "maps.clone"], unfollowed := true, recurses := true, named := ["internal/bytealg.MaxLen"], apart := false }
def ReclogSureSaid : Prop := reclogSureRow.holds Tryz.pinned (OpenSpec.ofChange reclogSureSpec)

/-- ITS FALSE NEIGHBOUR: 'it returns false'. Refute it at one input. -/
def reclogSureWrong : ChangeSpec := { name := "reclogSure", fn := fun _ => fun
  | [d] => { results := [.lit (.bool false)], args := [d] }
  | _ => none }
def ReclogSureWrongFalsely : Prop := reclogSureRow.holds Tryz.pinned (OpenSpec.ofChange reclogSureWrong)

/-- 'bellowslaw05.ReclogRewrites': WHATEVER THE INPUT: true; the input reads as it did. -/
def reclogRewritesSpec : ChangeSpec := { name := "reclogRewrites", fn := fun _ => fun
  | [d1, d2, d3] => { results := [.lit (.bool true)], args := [d1, d2, d3] }
  | _ => none }
def reclogRewritesRow : OpenClaim := { program := "ytfmelhcpccghdaagreat", sum := "f507d995d3e73d4009c5c43230408109abe0a4eeeb2dce98bd2433e64b4a01c0", func := "bellows/bellowslaw05.ReclogRewrites", spec := "reclogRewrites", inPlace := ["internal/bytealg.IndexByteString", "internal/bytealg.IndexString", "internal/abi.NoEscape", "internal/bytealg.MakeNoZero", "maps.clone"], unfollowed := true, recurses := true, named := ["internal/bytealg.MaxLen"], apart := false }
def ReclogRewritesSaid : Prop := reclogRewritesRow.holds Tryz.pinned (OpenSpec.ofChange reclogRewritesSpec)

/-- ITS FALSE NEIGHBOUR: 'it returns false'. Refute it at one input. -/
def reclogRewritesWrong : ChangeSpec := { name := "reclogRewrites", fn := fun _ => fun
  | [d1, d2, d3] => { results := [.lit (.bool false)], args := [d1, d2, d3] }
  | _ => none }
def ReclogRewritesWrongFalsely : Prop := reclogRewritesRow.holds Tryz.pinned (OpenSpec.ofChange reclogRewritesWrong)

/-- 'bellowslaw05.ReclogSpare': WHATEVER THE INPUT: true; the input reads as it did. -/
def reclogSpareSpec : ChangeSpec := { name := "reclogSpare", fn := fun _ => fun
  | [d1, d2, d3] => { results := [.lit (.bool true)], args := [d1, d2, d3] }
  | _ => none }
def reclogSpareRow : OpenClaim := { program := "ytfmelhcpccghdaagreat", sum := "f507d995d3e73d4009c5c43230408109abe0a4eeeb2dce98bd2433e64b4a01c0", func := "bellows/bellowslaw05.ReclogSpare", spec := "reclogSpare", inPlace := ["internal/bytealg.IndexByteString", "internal/bytealg.IndexString", "internal/abi.NoEscape", "internal/bytealg.MakeNoZero", "maps.clone"], unfollowed := true, recurses := true, named := ["internal/bytealg.MaxLen"], apart := false }
def ReclogSpareSaid : Prop := reclogSpareRow.holds Tryz.pinned (OpenSpec.ofChange reclogSpareSpec)

/-- ITS FALSE NEIGHBOUR: 'it returns false'. Refute it at one input. -/
def reclogSpareWrong : ChangeSpec := { name := "reclogSpare", fn := fun _ => fun
  | [d1, d2, d3] => { results := [.lit (.bool false)], args := [d1, d2, d3] }
  | _ => none }
def ReclogSpareWrongFalsely : Prop := reclogSpareRow.holds Tryz.pinned (OpenSpec.ofChange reclogSpareWrong)

/- THE SECOND FORM. 'bulk': how many values and letters a reading holds, each counted each time it is reached (what is shared counts as often as it is met; a slice's spare places count too). A statement '..UptoSaid' is the law's where the arguments, and the package variables that the reading takes, are together of bulk at most 1048576: NARROWER than '..Said'. Prove '..Said' where nothing that the law and all that it calls make is longer than what came in: it says more and counts as full. Else prove '..UptoSaid'. A law counts once. -/
mutual
def uptoBulk {H : Type} : DataW H → Nat
  | .lit (.string bytes) => bytes.length + 1
  | .lit _ => 1
  | .nil => 1
  | .ptr d => uptoBulk d + 1
  | .slice elems spare => uptoBulkAll elems + uptoBulkAll spare + 1
  | .agg parts => uptoBulkAll parts + 1
  | .iface _ d => uptoBulk d + 1
  | .map entries => uptoBulkEntries entries + 1
  | .held _ => 1
def uptoBulkAll {H : Type} : List (DataW H) → Nat
  | [] => 0
  | d :: r => uptoBulk d + uptoBulkAll r
def uptoBulkEntries {H : Type} : List (Lit × DataW H) → Nat
  | [] => 0
  | x :: r => uptoBulkEntry x + uptoBulkEntries r
def uptoBulkEntry {H : Type} : Lit × DataW H → Nat
  | (.string bytes, d) => bytes.length + uptoBulk d + 1
  | (_, d) => uptoBulk d + 1
 end
def uptoSmall : (H : Type) → List (DataW H) → Bool := fun _ ds => decide (uptoBulkAll ds ≤ 1048576)
def OpenSpec.upto (s : _root_.Go.ChangeSpec) : _root_.Go.OpenSpec := { _root_.Go.OpenSpec.ofChange s with cond := some uptoSmall }

/-- 'bellowslaw05.ReclogSure', WHERE WHAT IT READS IS OF BULK AT MOST 1048576: true; the input reads as it did. -/
def reclogSureUptoRow : OpenClaim := { program := "ytfmelhcpccghdaagreat", sum := "f507d995d3e73d4009c5c43230408109abe0a4eeeb2dce98bd2433e64b4a01c0", func := "bellows/bellowslaw05.ReclogSure", spec := "reclogSure", inPlace := ["internal/bytealg.IndexByteString", "internal/bytealg.IndexString", "internal/abi.NoEscape", "internal/bytealg.MakeNoZero", "maps.clone"], unfollowed := true, recurses := true, named := ["internal/bytealg.MaxLen"], apart := false, narrowed := true }
def ReclogSureUptoSaid : Prop := reclogSureUptoRow.holds Tryz.pinned (OpenSpec.upto reclogSureSpec)

/-- 'bellowslaw05.ReclogRewrites', WHERE WHAT IT READS IS OF BULK AT MOST 1048576: true; the input reads as it did. -/
def reclogRewritesUptoRow : OpenClaim := { program := "ytfmelhcpccghdaagreat", sum := "f507d995d3e73d4009c5c43230408109abe0a4eeeb2dce98bd2433e64b4a01c0", func := "bellows/bellowslaw05.ReclogRewrites", spec := "reclogRewrites", inPlace := ["internal/bytealg.IndexByteString", "internal/bytealg.IndexString", "internal/abi.NoEscape", "internal/bytealg.MakeNoZero", "maps.clone"], unfollowed := true, recurses := true, named := ["internal/bytealg.MaxLen"], apart := false, narrowed := true }
def ReclogRewritesUptoSaid : Prop := reclogRewritesUptoRow.holds Tryz.pinned (OpenSpec.upto reclogRewritesSpec)

/-- 'bellowslaw05.ReclogSpare', WHERE WHAT IT READS IS OF BULK AT MOST 1048576: true; the input reads as it did. -/
def reclogSpareUptoRow : OpenClaim := { program := "ytfmelhcpccghdaagreat", sum := "f507d995d3e73d4009c5c43230408109abe0a4eeeb2dce98bd2433e64b4a01c0", func := "bellows/bellowslaw05.ReclogSpare", spec := "reclogSpare", inPlace := ["internal/bytealg.IndexByteString", "internal/bytealg.IndexString", "internal/abi.NoEscape", "internal/bytealg.MakeNoZero", "maps.clone"], unfollowed := true, recurses := true, named := ["internal/bytealg.MaxLen"], apart := false, narrowed := true }
def ReclogSpareUptoSaid : Prop := reclogSpareUptoRow.holds Tryz.pinned (OpenSpec.upto reclogSpareSpec)

end Rows
end Go.Proofs.YtfmelhcpccghdaaGreat
