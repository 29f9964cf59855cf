/-
  DERIVED. GIVEN WITH THE SEED: THE CARDS: each row of YthgahbjelcmelaaDoorRows.lean that lists a variable, with what it lists TIED to the program's text (the seventh form; the later family's looks); each row that meets fmt, with fmt's text TOLD by the authors' own Lean function (tested against real Go, not proved from fmt's source: count such statements apart). THE CARD IS WHAT COUNTS. Prove the row's statement (the work); the ties are given (YthgahbjelcmelaaDoorTie.lean); close each card by the builder's one call (the guide's Derived/Test/ToyasCard.lean, 'card_holds'). Laid BY PROGRAM, IN A SANDBOX (cutbox-door.mjs). By AI agents, Wed Nov 11 2026. No macro, syntax, notation, axiom, sorry.
-/
import Derived.Test.YthgahbjelcmelaaDoorRows
import GoSem.ClaimSeven
namespace Go.Proofs.YthgahbjelcmelaaDoor
namespace Rows

/-- THE TIED CARD OF 'bellowslaw14.DepfileParses'. -/
def depfileParsesCard : Claim7 := { stood := { row := depfileParsesRow, standIns := [], harness := (true, "1478073793f43d781656634b504e1b671342e6d5a884d685184d53069e12bdc0"), looks := false }, kinds := [], alts := [], laidByText := true, laidKinds := [.data, .pinned], laidTests := true, laidLooks := .later }
def DepfileParsesCardSaid : Prop := Claim7.holds Tryd.pinned (.plain (OpenSpec.ofChange depfileParsesSpec)) depfileParsesCard

/-- THE TIED CARD OF 'bellowslaw14.DepfilePrints'. -/
def depfilePrintsCard : Claim7 := { stood := { row := depfilePrintsRow, standIns := [], harness := (true, "1478073793f43d781656634b504e1b671342e6d5a884d685184d53069e12bdc0"), looks := false }, kinds := [], alts := [], laidByText := true, laidKinds := [.data, .pinned], laidTests := true, laidLooks := .later }
def DepfilePrintsCardSaid : Prop := Claim7.holds Tryd.pinned (.plain (OpenSpec.ofChange depfilePrintsSpec)) depfilePrintsCard

/-- THE TIED CARD OF 'bellowslaw14.DepfileTwo'. -/
def depfileTwoCard : Claim7 := { stood := { row := depfileTwoRow, standIns := [], harness := (true, "1478073793f43d781656634b504e1b671342e6d5a884d685184d53069e12bdc0"), looks := false }, kinds := [], alts := [], laidByText := true, laidKinds := [.data, .pinned], laidTests := true, laidLooks := .later }
def DepfileTwoCardSaid : Prop := Claim7.holds Tryd.pinned (.plain (OpenSpec.ofChange depfileTwoSpec)) depfileTwoCard

/-- THE SECOND FORM's CARD OF 'bellowslaw14.DepfileParses'. -/
def depfileParsesUptoCard : Claim7 := { stood := { row := depfileParsesUptoRow, standIns := [], harness := (true, "1478073793f43d781656634b504e1b671342e6d5a884d685184d53069e12bdc0"), looks := false }, kinds := [], alts := [], laidByText := true, laidKinds := [.data, .pinned], laidTests := true, laidLooks := .later }
def DepfileParsesUptoCardSaid : Prop := Claim7.holds Tryd.pinned (.plain (OpenSpec.upto depfileParsesSpec)) depfileParsesUptoCard

/-- THE SECOND FORM's CARD OF 'bellowslaw14.DepfilePrints'. -/
def depfilePrintsUptoCard : Claim7 := { stood := { row := depfilePrintsUptoRow, standIns := [], harness := (true, "1478073793f43d781656634b504e1b671342e6d5a884d685184d53069e12bdc0"), looks := false }, kinds := [], alts := [], laidByText := true, laidKinds := [.data, .pinned], laidTests := true, laidLooks := .later }
def DepfilePrintsUptoCardSaid : Prop := Claim7.holds Tryd.pinned (.plain (OpenSpec.upto depfilePrintsSpec)) depfilePrintsUptoCard

/-- THE SECOND FORM's CARD OF 'bellowslaw14.DepfileTwo'. -/
def depfileTwoUptoCard : Claim7 := { stood := { row := depfileTwoUptoRow, standIns := [], harness := (true, "1478073793f43d781656634b504e1b671342e6d5a884d685184d53069e12bdc0"), looks := false }, kinds := [], alts := [], laidByText := true, laidKinds := [.data, .pinned], laidTests := true, laidLooks := .later }
def DepfileTwoUptoCardSaid : Prop := Claim7.holds Tryd.pinned (.plain (OpenSpec.upto depfileTwoSpec)) depfileTwoUptoCard
end Rows
end Go.Proofs.YthgahbjelcmelaaDoor
