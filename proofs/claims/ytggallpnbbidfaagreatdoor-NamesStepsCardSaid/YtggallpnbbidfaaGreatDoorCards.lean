/-
  DERIVED. GIVEN WITH THE SEED: THE CARDS: each row of YtggallpnbbidfaaGreatDoorRows.lean that lists a variable, with what it lists TIED to the program's text (the seventh form; the later family's looks); each row that meets fmt, with fmt's text TOLD by the authors' own Lean function (tested against real Go, not proved from fmt's source: count such statements apart). THE CARD IS WHAT COUNTS. Prove the row's statement (the work); the ties are given (YtggallpnbbidfaaGreatDoorTie.lean); close each card by the builder's one call (the guide's Derived/Test/ToyasCard.lean, 'card_holds'). Laid BY PROGRAM, IN A SANDBOX (cutbox-door.mjs). By AI agents, Wed Nov 11 2026. No macro, syntax, notation, axiom, sorry.
-/
import Derived.Test.YtggallpnbbidfaaGreatDoorRows
import GoSem.ClaimSeven
namespace Go.Proofs.YtggallpnbbidfaaGreatDoor
namespace Rows

/-- THE TIED CARD OF 'simprooflaw10.NamesSteps'. -/
def namesStepsCard : Claim7 := { stood := { row := namesStepsRow, standIns := [], harness := (true, "dc91f27995dad82500b1df7f7e90d786ce534a1d752e89e0fa9d58e631e7cbc7"), looks := true }, kinds := [], alts := [], laidByText := true, laidKinds := [.data, .data, .data, .data, .sentinel, .sentinel, .pinned], laidTests := true, laidLooks := .later }
def NamesStepsCardSaid : Prop := Claim7.holds Tryz.pinned (.plain (OpenSpec.ofChange namesStepsSpec)) namesStepsCard

/-- THE TIED CARD OF 'simprooflaw10.NamesIllFormed'. -/
def namesIllFormedCard : Claim7 := { stood := { row := namesIllFormedRow, standIns := [], harness := (true, "dc91f27995dad82500b1df7f7e90d786ce534a1d752e89e0fa9d58e631e7cbc7"), looks := true }, kinds := [], alts := [], laidByText := true, laidKinds := [.data, .data, .data, .data, .sentinel, .sentinel, .pinned], laidTests := true, laidLooks := .later }
def NamesIllFormedCardSaid : Prop := Claim7.holds Tryz.pinned (.plain (OpenSpec.ofChange namesIllFormedSpec)) namesIllFormedCard

/-- THE TIED CARD OF 'simprooflaw10.NamesParse'. -/
def namesParseCard : Claim7 := { stood := { row := namesParseRow, standIns := [], harness := (true, "dc91f27995dad82500b1df7f7e90d786ce534a1d752e89e0fa9d58e631e7cbc7"), looks := true }, kinds := [], alts := [], laidByText := true, laidKinds := [.data, .data, .data, .data, .sentinel, .sentinel, .pinned], laidTests := true, laidLooks := .later }
def NamesParseCardSaid : Prop := Claim7.holds Tryz.pinned (.plain (OpenSpec.ofChange namesParseSpec)) namesParseCard

/-- THE SECOND FORM's CARD OF 'simprooflaw10.NamesSteps'. -/
def namesStepsUptoCard : Claim7 := { stood := { row := namesStepsUptoRow, standIns := [], harness := (true, "dc91f27995dad82500b1df7f7e90d786ce534a1d752e89e0fa9d58e631e7cbc7"), looks := true }, kinds := [], alts := [], laidByText := true, laidKinds := [.data, .data, .data, .data, .sentinel, .sentinel, .pinned], laidTests := true, laidLooks := .later }
def NamesStepsUptoCardSaid : Prop := Claim7.holds Tryz.pinned (.plain (OpenSpec.upto namesStepsSpec)) namesStepsUptoCard

/-- THE SECOND FORM's CARD OF 'simprooflaw10.NamesIllFormed'. -/
def namesIllFormedUptoCard : Claim7 := { stood := { row := namesIllFormedUptoRow, standIns := [], harness := (true, "dc91f27995dad82500b1df7f7e90d786ce534a1d752e89e0fa9d58e631e7cbc7"), looks := true }, kinds := [], alts := [], laidByText := true, laidKinds := [.data, .data, .data, .data, .sentinel, .sentinel, .pinned], laidTests := true, laidLooks := .later }
def NamesIllFormedUptoCardSaid : Prop := Claim7.holds Tryz.pinned (.plain (OpenSpec.upto namesIllFormedSpec)) namesIllFormedUptoCard

/-- THE SECOND FORM's CARD OF 'simprooflaw10.NamesParse'. -/
def namesParseUptoCard : Claim7 := { stood := { row := namesParseUptoRow, standIns := [], harness := (true, "dc91f27995dad82500b1df7f7e90d786ce534a1d752e89e0fa9d58e631e7cbc7"), looks := true }, kinds := [], alts := [], laidByText := true, laidKinds := [.data, .data, .data, .data, .sentinel, .sentinel, .pinned], laidTests := true, laidLooks := .later }
def NamesParseUptoCardSaid : Prop := Claim7.holds Tryz.pinned (.plain (OpenSpec.upto namesParseSpec)) namesParseUptoCard
end Rows
end Go.Proofs.YtggallpnbbidfaaGreatDoor
