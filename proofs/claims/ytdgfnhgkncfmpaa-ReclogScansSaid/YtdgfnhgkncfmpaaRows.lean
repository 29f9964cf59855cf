/-
  No cell of these rows narrows 'for every input' (looked for: loops, veiled, ifaces, maps, wideKeys, modest, calm, conditions, laid).
  DERIVED. THE GIVEN ROWS OF THIS SEAT. 7 by the template 'for every input the law returns true; each argument reads behind the call as it read before'; 0 by the template 'total and deterministic' (their statements: YtdgfnhgkncfmpaaTotals.lean).
  GIVEN WITH THE SEED: the statements are not yours to turn. If you find one false, say at which input.
  Laid BY PROGRAM, IN A SANDBOX (cutbox-rows.mjs): the forced cells as the released guide's own fill.sh prints them over the translation e29c7eba9de9458a… (all of the seat's roots in one cut). By AI agents, Wed Nov 11 2026. No macro, syntax, notation, axiom, sorry.
-/
import Derived.Test.YtdgfnhgkncfmpaaChecked
import GoSem.Claim
import GoSem.ClaimJoined
import GoSem.ClaimMapViews
import Derived.JoinedTies
import Derived.KernelRfl
namespace Go.Proofs.Ytdgfnhgkncfmpaa
/- THE CELL 'sum', in the pinned program and in every row, IS THE sha256 OF THE DUMP (.gsa) THAT YtdgfnhgkncfmpaaProg.lean LOADS. Nothing in Lean hashes anything: it is a label: what it is worth is what the hold of that sum in a sandbox is worth. -/
noncomputable def Try.pinned : Pinned := { name := "ytdgfnhgkncfmpaa", sum := "e29c7eba9de9458a9bec00416378f7283ca8824543149615cd987d4c8bb42ed5", checked := Try.checked }
namespace Rows
def none {H : Type} : Left H := { results := [], args := [] }

/-- 'bellowslaw04.DiskSure': WHATEVER THE INPUT: true; the input reads as it did. -/
def diskSureSpec : ChangeSpec := { name := "diskSure", fn := fun _ => fun
  | [d1, d2, d3] => { results := [.lit (.bool true)], args := [d1, d2, d3] }
  | _ => none }
def diskSureRow : OpenClaim := { program := "ytdgfnhgkncfmpaa", sum := "e29c7eba9de9458a9bec00416378f7283ca8824543149615cd987d4c8bb42ed5", func := "bellows/bellowslaw04.DiskSure", spec := "diskSure", inPlace := ["internal/bytealg.IndexByteString", "internal/bytealg.IndexString", "internal/abi.NoEscape", "internal/bytealg.MakeNoZero", "maps.clone"], unfollowed := true, recurses := true, named := ["internal/bytealg.MaxLen"], apart := false }
def DiskSureSaid : Prop := diskSureRow.holds Try.pinned (OpenSpec.ofChange diskSureSpec)

/-- ITS FALSE NEIGHBOUR: 'it returns false'. Refute it at one input. -/
def diskSureWrong : ChangeSpec := { name := "diskSure", fn := fun _ => fun
  | [d1, d2, d3] => { results := [.lit (.bool false)], args := [d1, d2, d3] }
  | _ => none }
def DiskSureWrongFalsely : Prop := diskSureRow.holds Try.pinned (OpenSpec.ofChange diskSureWrong)

/-- 'bellowslaw04.DiskTimes': WHATEVER THE INPUT: true; the input reads as it did. -/
def diskTimesSpec : ChangeSpec := { name := "diskTimes", fn := fun _ => fun
  | [d] => { results := [.lit (.bool true)], args := [d] }
  | _ => none }
def diskTimesRow : OpenClaim := { program := "ytdgfnhgkncfmpaa", sum := "e29c7eba9de9458a9bec00416378f7283ca8824543149615cd987d4c8bb42ed5", func := "bellows/bellowslaw04.DiskTimes", spec := "diskTimes", inPlace := ["maps.clone", "internal/bytealg.IndexByteString", "internal/bytealg.IndexString", "internal/abi.NoEscape", "internal/bytealg.MakeNoZero"], unfollowed := true, recurses := true, named := ["internal/bytealg.MaxLen"], apart := false }
def DiskTimesSaid : Prop := diskTimesRow.holds Try.pinned (OpenSpec.ofChange diskTimesSpec)

/-- ITS FALSE NEIGHBOUR: 'it returns false'. Refute it at one input. -/
def diskTimesWrong : ChangeSpec := { name := "diskTimes", fn := fun _ => fun
  | [d] => { results := [.lit (.bool false)], args := [d] }
  | _ => none }
def DiskTimesWrongFalsely : Prop := diskTimesRow.holds Try.pinned (OpenSpec.ofChange diskTimesWrong)

/-- 'bellowslaw05.ReclogScans': WHATEVER THE INPUT: true; the input reads as it did. -/
def reclogScansSpec : ChangeSpec := { name := "reclogScans", fn := fun _ => fun
  | [d1, d2, d3] => { results := [.lit (.bool true)], args := [d1, d2, d3] }
  | _ => none }
def reclogScansRow : OpenClaim := { program := "ytdgfnhgkncfmpaa", sum := "e29c7eba9de9458a9bec00416378f7283ca8824543149615cd987d4c8bb42ed5", func := "bellows/bellowslaw05.ReclogScans", spec := "reclogScans", unfollowed := true, recurses := true, apart := false }
def ReclogScansSaid : Prop := reclogScansRow.holds Try.pinned (OpenSpec.ofChange reclogScansSpec)

/-- ITS FALSE NEIGHBOUR: 'it returns false'. Refute it at one input. -/
def reclogScansWrong : ChangeSpec := { name := "reclogScans", fn := fun _ => fun
  | [d1, d2, d3] => { results := [.lit (.bool false)], args := [d1, d2, d3] }
  | _ => none }
def ReclogScansWrongFalsely : Prop := reclogScansRow.holds Try.pinned (OpenSpec.ofChange reclogScansWrong)

/-- 'bellowslaw05.ReclogOpens': WHATEVER THE INPUT: true; the input reads as it did. -/
def reclogOpensSpec : ChangeSpec := { name := "reclogOpens", fn := fun _ => fun
  | [d] => { results := [.lit (.bool true)], args := [d] }
  | _ => none }
def reclogOpensRow : OpenClaim := { program := "ytdgfnhgkncfmpaa", sum := "e29c7eba9de9458a9bec00416378f7283ca8824543149615cd987d4c8bb42ed5", func := "bellows/bellowslaw05.ReclogOpens", spec := "reclogOpens", inPlace := ["internal/bytealg.IndexByteString", "internal/bytealg.IndexString", "internal/abi.NoEscape", "internal/bytealg.MakeNoZero"], unfollowed := true, recurses := true, named := ["internal/bytealg.MaxLen"], apart := false }
def ReclogOpensSaid : Prop := reclogOpensRow.holds Try.pinned (OpenSpec.ofChange reclogOpensSpec)

/-- ITS FALSE NEIGHBOUR: 'it returns false'. Refute it at one input. -/
def reclogOpensWrong : ChangeSpec := { name := "reclogOpens", fn := fun _ => fun
  | [d] => { results := [.lit (.bool false)], args := [d] }
  | _ => none }
def ReclogOpensWrongFalsely : Prop := reclogOpensRow.holds Try.pinned (OpenSpec.ofChange reclogOpensWrong)

/-- 'bellowslaw05.ReclogCuts': WHATEVER THE INPUT: true; the input reads as it did. -/
def reclogCutsSpec : ChangeSpec := { name := "reclogCuts", fn := fun _ => fun
  | [d1, d2, d3] => { results := [.lit (.bool true)], args := [d1, d2, d3] }
  | _ => none }
def reclogCutsRow : OpenClaim := { program := "ytdgfnhgkncfmpaa", sum := "e29c7eba9de9458a9bec00416378f7283ca8824543149615cd987d4c8bb42ed5", func := "bellows/bellowslaw05.ReclogCuts", spec := "reclogCuts", unfollowed := true, recurses := true, apart := false }
def ReclogCutsSaid : Prop := reclogCutsRow.holds Try.pinned (OpenSpec.ofChange reclogCutsSpec)

/-- ITS FALSE NEIGHBOUR: 'it returns false'. Refute it at one input. -/
def reclogCutsWrong : ChangeSpec := { name := "reclogCuts", fn := fun _ => fun
  | [d1, d2, d3] => { results := [.lit (.bool false)], args := [d1, d2, d3] }
  | _ => none }
def ReclogCutsWrongFalsely : Prop := reclogCutsRow.holds Try.pinned (OpenSpec.ofChange reclogCutsWrong)

/-- 'bellowslaw05.ReclogTurned': WHATEVER THE INPUT: true; the input reads as it did. -/
def reclogTurnedSpec : ChangeSpec := { name := "reclogTurned", fn := fun _ => fun
  | [d] => { results := [.lit (.bool true)], args := [d] }
  | _ => none }
def reclogTurnedRow : OpenClaim := { program := "ytdgfnhgkncfmpaa", sum := "e29c7eba9de9458a9bec00416378f7283ca8824543149615cd987d4c8bb42ed5", func := "bellows/bellowslaw05.ReclogTurned", spec := "reclogTurned", unfollowed := true, recurses := true, apart := false }
def ReclogTurnedSaid : Prop := reclogTurnedRow.holds Try.pinned (OpenSpec.ofChange reclogTurnedSpec)

/-- ITS FALSE NEIGHBOUR: 'it returns false'. Refute it at one input. -/
def reclogTurnedWrong : ChangeSpec := { name := "reclogTurned", fn := fun _ => fun
  | [d] => { results := [.lit (.bool false)], args := [d] }
  | _ => none }
def ReclogTurnedWrongFalsely : Prop := reclogTurnedRow.holds Try.pinned (OpenSpec.ofChange reclogTurnedWrong)

/-- 'bellowslaw05.ReclogNone': WHATEVER THE INPUT: true; the input reads as it did. -/
def reclogNoneSpec : ChangeSpec := { name := "reclogNone", fn := fun _ => fun
  | [d] => { results := [.lit (.bool true)], args := [d] }
  | _ => none }
def reclogNoneRow : OpenClaim := { program := "ytdgfnhgkncfmpaa", sum := "e29c7eba9de9458a9bec00416378f7283ca8824543149615cd987d4c8bb42ed5", func := "bellows/bellowslaw05.ReclogNone", spec := "reclogNone", inPlace := ["internal/bytealg.IndexByteString", "internal/bytealg.IndexString", "internal/abi.NoEscape", "internal/bytealg.MakeNoZero"], unfollowed := true, recurses := true, named := ["internal/bytealg.MaxLen"], apart := false }
def ReclogNoneSaid : Prop := reclogNoneRow.holds Try.pinned (OpenSpec.ofChange reclogNoneSpec)

/-- ITS FALSE NEIGHBOUR: 'it returns false'. Refute it at one input. -/
def reclogNoneWrong : ChangeSpec := { name := "reclogNone", fn := fun _ => fun
  | [d] => { results := [.lit (.bool false)], args := [d] }
  | _ => none }
def ReclogNoneWrongFalsely : Prop := reclogNoneRow.holds Try.pinned (OpenSpec.ofChange reclogNoneWrong)

/- THE SECOND FORM. 'bulk': how many values and letters a reading holds, each counted each time it is reached (what is shared counts as often as it is met; a slice's spare places count too). A statement '..UptoSaid' is the law's where the arguments, and the package variables that the reading takes, are together of bulk at most 1048576: NARROWER than '..Said'. Prove '..Said' where nothing that the law and all that it calls make is longer than what came in: it says more and counts as full. Else prove '..UptoSaid'. A law counts once. -/
mutual
def uptoBulk {H : Type} : DataW H → Nat
  | .lit (.string bytes) => bytes.length + 1
  | .lit _ => 1
  | .nil => 1
  | .ptr d => uptoBulk d + 1
  | .slice elems spare => uptoBulkAll elems + uptoBulkAll spare + 1
  | .agg parts => uptoBulkAll parts + 1
  | .iface _ d => uptoBulk d + 1
  | .map entries => uptoBulkEntries entries + 1
  | .held _ => 1
def uptoBulkAll {H : Type} : List (DataW H) → Nat
  | [] => 0
  | d :: r => uptoBulk d + uptoBulkAll r
def uptoBulkEntries {H : Type} : List (Lit × DataW H) → Nat
  | [] => 0
  | x :: r => uptoBulkEntry x + uptoBulkEntries r
def uptoBulkEntry {H : Type} : Lit × DataW H → Nat
  | (.string bytes, d) => bytes.length + uptoBulk d + 1
  | (_, d) => uptoBulk d + 1
 end
def uptoSmall : (H : Type) → List (DataW H) → Bool := fun _ ds => decide (uptoBulkAll ds ≤ 1048576)
def OpenSpec.upto (s : _root_.Go.ChangeSpec) : _root_.Go.OpenSpec := { _root_.Go.OpenSpec.ofChange s with cond := some uptoSmall }

/-- 'bellowslaw04.DiskSure', WHERE WHAT IT READS IS OF BULK AT MOST 1048576: true; the input reads as it did. -/
def diskSureUptoRow : OpenClaim := { program := "ytdgfnhgkncfmpaa", sum := "e29c7eba9de9458a9bec00416378f7283ca8824543149615cd987d4c8bb42ed5", func := "bellows/bellowslaw04.DiskSure", spec := "diskSure", inPlace := ["internal/bytealg.IndexByteString", "internal/bytealg.IndexString", "internal/abi.NoEscape", "internal/bytealg.MakeNoZero", "maps.clone"], unfollowed := true, recurses := true, named := ["internal/bytealg.MaxLen"], apart := false, narrowed := true }
def DiskSureUptoSaid : Prop := diskSureUptoRow.holds Try.pinned (OpenSpec.upto diskSureSpec)

/-- 'bellowslaw04.DiskTimes', WHERE WHAT IT READS IS OF BULK AT MOST 1048576: true; the input reads as it did. -/
def diskTimesUptoRow : OpenClaim := { program := "ytdgfnhgkncfmpaa", sum := "e29c7eba9de9458a9bec00416378f7283ca8824543149615cd987d4c8bb42ed5", func := "bellows/bellowslaw04.DiskTimes", spec := "diskTimes", inPlace := ["maps.clone", "internal/bytealg.IndexByteString", "internal/bytealg.IndexString", "internal/abi.NoEscape", "internal/bytealg.MakeNoZero"], unfollowed := true, recurses := true, named := ["internal/bytealg.MaxLen"], apart := false, narrowed := true }
def DiskTimesUptoSaid : Prop := diskTimesUptoRow.holds Try.pinned (OpenSpec.upto diskTimesSpec)

/-- 'bellowslaw05.ReclogScans', WHERE WHAT IT READS IS OF BULK AT MOST 1048576: true; the input reads as it did. -/
def reclogScansUptoRow : OpenClaim := { program := "ytdgfnhgkncfmpaa", sum := "e29c7eba9de9458a9bec00416378f7283ca8824543149615cd987d4c8bb42ed5", func := "bellows/bellowslaw05.ReclogScans", spec := "reclogScans", unfollowed := true, recurses := true, apart := false, narrowed := true }
def ReclogScansUptoSaid : Prop := reclogScansUptoRow.holds Try.pinned (OpenSpec.upto reclogScansSpec)

/-- 'bellowslaw05.ReclogOpens', WHERE WHAT IT READS IS OF BULK AT MOST 1048576: true; the input reads as it did. -/
def reclogOpensUptoRow : OpenClaim := { program := "ytdgfnhgkncfmpaa", sum := "e29c7eba9de9458a9bec00416378f7283ca8824543149615cd987d4c8bb42ed5", func := "bellows/bellowslaw05.ReclogOpens", spec := "reclogOpens", inPlace := ["internal/bytealg.IndexByteString", "internal/bytealg.IndexString", "internal/abi.NoEscape", "internal/bytealg.MakeNoZero"], unfollowed := true, recurses := true, named := ["internal/bytealg.MaxLen"], apart := false, narrowed := true }
def ReclogOpensUptoSaid : Prop := reclogOpensUptoRow.holds Try.pinned (OpenSpec.upto reclogOpensSpec)

/-- 'bellowslaw05.ReclogCuts', WHERE WHAT IT READS IS OF BULK AT MOST 1048576: true; the input reads as it did. -/
def reclogCutsUptoRow : OpenClaim := { program := "ytdgfnhgkncfmpaa", sum := "e29c7eba9de9458a9bec00416378f7283ca8824543149615cd987d4c8bb42ed5", func := "bellows/bellowslaw05.ReclogCuts", spec := "reclogCuts", unfollowed := true, recurses := true, apart := false, narrowed := true }
def ReclogCutsUptoSaid : Prop := reclogCutsUptoRow.holds Try.pinned (OpenSpec.upto reclogCutsSpec)

/-- 'bellowslaw05.ReclogTurned', WHERE WHAT IT READS IS OF BULK AT MOST 1048576: true; the input reads as it did. -/
def reclogTurnedUptoRow : OpenClaim := { program := "ytdgfnhgkncfmpaa", sum := "e29c7eba9de9458a9bec00416378f7283ca8824543149615cd987d4c8bb42ed5", func := "bellows/bellowslaw05.ReclogTurned", spec := "reclogTurned", unfollowed := true, recurses := true, apart := false, narrowed := true }
def ReclogTurnedUptoSaid : Prop := reclogTurnedUptoRow.holds Try.pinned (OpenSpec.upto reclogTurnedSpec)

/-- 'bellowslaw05.ReclogNone', WHERE WHAT IT READS IS OF BULK AT MOST 1048576: true; the input reads as it did. -/
def reclogNoneUptoRow : OpenClaim := { program := "ytdgfnhgkncfmpaa", sum := "e29c7eba9de9458a9bec00416378f7283ca8824543149615cd987d4c8bb42ed5", func := "bellows/bellowslaw05.ReclogNone", spec := "reclogNone", inPlace := ["internal/bytealg.IndexByteString", "internal/bytealg.IndexString", "internal/abi.NoEscape", "internal/bytealg.MakeNoZero"], unfollowed := true, recurses := true, named := ["internal/bytealg.MaxLen"], apart := false, narrowed := true }
def ReclogNoneUptoSaid : Prop := reclogNoneUptoRow.holds Try.pinned (OpenSpec.upto reclogNoneSpec)

end Rows
end Go.Proofs.Ytdgfnhgkncfmpaa
