/-
  DERIVED. GIVEN WITH THE SEED: THE CARDS: each row of YtlfpaemfhanpiaaGreatDoorRows.lean that lists a variable, with what it lists TIED to the program's text (the seventh form; the later family's looks); each row that meets fmt, with fmt's text TOLD by the authors' own Lean function (tested against real Go, not proved from fmt's source: count such statements apart). THE CARD IS WHAT COUNTS. Prove the row's statement (the work); the ties are given (YtlfpaemfhanpiaaGreatDoorTie.lean); close each card by the builder's one call (the guide's Derived/Test/ToyasCard.lean, 'card_holds'). Laid BY PROGRAM, IN A SANDBOX (cutbox-door.mjs). By AI agents, Wed Nov 11 2026. No macro, syntax, notation, axiom, sorry.
-/
import Derived.Test.YtlfpaemfhanpiaaGreatDoorRows
import GoSem.ClaimSeven
namespace Go.Proofs.YtlfpaemfhanpiaaGreatDoor
namespace Rows

/-- THE TIED CARD OF 'simprooflaw06.ParserPrints'. -/
def parserPrintsCard : Claim7 := { stood := { row := parserPrintsRow, standIns := [], harness := (true, "fd9eb7fad378b262926bc26d9e9dd09f51ab44a87eea3f24d860f1ba452d3abe"), looks := true }, kinds := [], alts := [], laidByText := true, laidKinds := [.data, .data, .data, .sentinel, .sentinel], laidTests := true, laidLooks := .later }
def ParserPrintsCardSaid : Prop := Claim7.holds Tryz.pinned (.plain (OpenSpec.ofChange parserPrintsSpec)) parserPrintsCard

/-- THE TIED CARD OF 'simprooflaw06.ParserEqual'. -/
def parserEqualCard : Claim7 := { stood := { row := parserEqualRow, standIns := [], harness := (true, "fd9eb7fad378b262926bc26d9e9dd09f51ab44a87eea3f24d860f1ba452d3abe"), looks := true }, kinds := [], alts := [], laidByText := true, laidKinds := [.data, .data, .data, .sentinel, .sentinel], laidTests := true, laidLooks := .later }
def ParserEqualCardSaid : Prop := Claim7.holds Tryz.pinned (.plain (OpenSpec.ofChange parserEqualSpec)) parserEqualCard

/-- THE TIED CARD OF 'simprooflaw06.ParserRound'. -/
def parserRoundCard : Claim7 := { stood := { row := parserRoundRow, standIns := [], harness := (true, "fd9eb7fad378b262926bc26d9e9dd09f51ab44a87eea3f24d860f1ba452d3abe"), looks := true }, kinds := [], alts := [], laidByText := true, laidKinds := [.data, .data, .data, .sentinel, .sentinel], laidTests := true, laidLooks := .later }
def ParserRoundCardSaid : Prop := Claim7.holds Tryz.pinned (.plain (OpenSpec.ofChange parserRoundSpec)) parserRoundCard

/-- THE SECOND FORM's CARD OF 'simprooflaw06.ParserPrints'. -/
def parserPrintsUptoCard : Claim7 := { stood := { row := parserPrintsUptoRow, standIns := [], harness := (true, "fd9eb7fad378b262926bc26d9e9dd09f51ab44a87eea3f24d860f1ba452d3abe"), looks := true }, kinds := [], alts := [], laidByText := true, laidKinds := [.data, .data, .data, .sentinel, .sentinel], laidTests := true, laidLooks := .later }
def ParserPrintsUptoCardSaid : Prop := Claim7.holds Tryz.pinned (.plain (OpenSpec.upto parserPrintsSpec)) parserPrintsUptoCard

/-- THE SECOND FORM's CARD OF 'simprooflaw06.ParserEqual'. -/
def parserEqualUptoCard : Claim7 := { stood := { row := parserEqualUptoRow, standIns := [], harness := (true, "fd9eb7fad378b262926bc26d9e9dd09f51ab44a87eea3f24d860f1ba452d3abe"), looks := true }, kinds := [], alts := [], laidByText := true, laidKinds := [.data, .data, .data, .sentinel, .sentinel], laidTests := true, laidLooks := .later }
def ParserEqualUptoCardSaid : Prop := Claim7.holds Tryz.pinned (.plain (OpenSpec.upto parserEqualSpec)) parserEqualUptoCard

/-- THE SECOND FORM's CARD OF 'simprooflaw06.ParserRound'. -/
def parserRoundUptoCard : Claim7 := { stood := { row := parserRoundUptoRow, standIns := [], harness := (true, "fd9eb7fad378b262926bc26d9e9dd09f51ab44a87eea3f24d860f1ba452d3abe"), looks := true }, kinds := [], alts := [], laidByText := true, laidKinds := [.data, .data, .data, .sentinel, .sentinel], laidTests := true, laidLooks := .later }
def ParserRoundUptoCardSaid : Prop := Claim7.holds Tryz.pinned (.plain (OpenSpec.upto parserRoundSpec)) parserRoundUptoCard
end Rows
end Go.Proofs.YtlfpaemfhanpiaaGreatDoor
