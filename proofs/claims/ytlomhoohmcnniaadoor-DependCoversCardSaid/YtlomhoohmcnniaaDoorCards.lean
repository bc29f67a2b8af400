/-
  DERIVED. GIVEN WITH THE SEED: THE CARDS: each row of YtlomhoohmcnniaaDoorRows.lean that lists a variable, with what it lists TIED to the program's text (the seventh form; the later family's looks); each row that meets fmt, with fmt's text TOLD by the authors' own Lean function (tested against real Go, not proved from fmt's source: count such statements apart). THE CARD IS WHAT COUNTS. Prove the row's statement (the work); the ties are given (YtlomhoohmcnniaaDoorTie.lean); close each card by the builder's one call (the guide's Derived/Test/ToyasCard.lean, 'card_holds'). Laid BY PROGRAM, IN A SANDBOX (cutbox-door.mjs). By AI agents, Wed Nov 11 2026. No macro, syntax, notation, axiom, sorry.
-/
import Derived.Test.YtlomhoohmcnniaaDoorRows
import GoSem.ClaimSeven
namespace Go.Proofs.YtlomhoohmcnniaaDoor
namespace Rows

/-- THE TIED CARD OF 'simprooflaw16.DependOrder'. -/
def dependOrderCard : Claim7 := { stood := { row := dependOrderRow, standIns := [], harness := (true, "90cb75cc7c10c14a10cefb939cee6070c87076b8098582c817745454562e8749"), looks := false }, kinds := [], alts := [], laidByText := true, laidKinds := [.data], laidTests := true, laidLooks := .later }
def DependOrderCardSaid : Prop := Claim7.holds Tryd.pinned (.plain (OpenSpec.ofChange dependOrderSpec)) dependOrderCard

/-- THE TIED CARD OF 'simprooflaw16.DependSwap'. -/
def dependSwapCard : Claim7 := { stood := { row := dependSwapRow, standIns := [], harness := (true, "90cb75cc7c10c14a10cefb939cee6070c87076b8098582c817745454562e8749"), looks := false }, kinds := [], alts := [], laidByText := true, laidKinds := [.data], laidTests := true, laidLooks := .later }
def DependSwapCardSaid : Prop := Claim7.holds Tryd.pinned (.plain (OpenSpec.ofChange dependSwapSpec)) dependSwapCard

/-- THE TIED CARD OF 'simprooflaw16.DependRace'. -/
def dependRaceCard : Claim7 := { stood := { row := dependRaceRow, standIns := [], harness := (true, "90cb75cc7c10c14a10cefb939cee6070c87076b8098582c817745454562e8749"), looks := false }, kinds := [], alts := [], laidByText := true, laidKinds := [.data], laidTests := true, laidLooks := .later }
def DependRaceCardSaid : Prop := Claim7.holds Tryd.pinned (.plain (OpenSpec.ofChange dependRaceSpec)) dependRaceCard

/-- THE TIED CARD OF 'simprooflaw16.DependSymmetric'. -/
def dependSymmetricCard : Claim7 := { stood := { row := dependSymmetricRow, standIns := [], harness := (true, "90cb75cc7c10c14a10cefb939cee6070c87076b8098582c817745454562e8749"), looks := false }, kinds := [], alts := [], laidByText := true, laidKinds := [.data], laidTests := true, laidLooks := .later }
def DependSymmetricCardSaid : Prop := Claim7.holds Tryd.pinned (.plain (OpenSpec.ofChange dependSymmetricSpec)) dependSymmetricCard

/-- THE TIED CARD OF 'simprooflaw16.DependLinear'. -/
def dependLinearCard : Claim7 := { stood := { row := dependLinearRow, standIns := [], harness := (true, "90cb75cc7c10c14a10cefb939cee6070c87076b8098582c817745454562e8749"), looks := false }, kinds := [], alts := [], laidByText := true, laidKinds := [.data], laidTests := true, laidLooks := .later }
def DependLinearCardSaid : Prop := Claim7.holds Tryd.pinned (.plain (OpenSpec.ofChange dependLinearSpec)) dependLinearCard

/-- THE TIED CARD OF 'simprooflaw16.DependCovers'. -/
def dependCoversCard : Claim7 := { stood := { row := dependCoversRow, standIns := [], harness := (true, "90cb75cc7c10c14a10cefb939cee6070c87076b8098582c817745454562e8749"), looks := false }, kinds := [], alts := [], laidByText := true, laidKinds := [.data], laidTests := true, laidLooks := .later }
def DependCoversCardSaid : Prop := Claim7.holds Tryd.pinned (.plain (OpenSpec.ofChange dependCoversSpec)) dependCoversCard

/-- THE TIED CARD OF 'simprooflaw16.DependChains'. -/
def dependChainsCard : Claim7 := { stood := { row := dependChainsRow, standIns := [], harness := (true, "90cb75cc7c10c14a10cefb939cee6070c87076b8098582c817745454562e8749"), looks := false }, kinds := [], alts := [], laidByText := true, laidKinds := [.data], laidTests := true, laidLooks := .later }
def DependChainsCardSaid : Prop := Claim7.holds Tryd.pinned (.plain (OpenSpec.ofChange dependChainsSpec)) dependChainsCard

/-- THE SECOND FORM's CARD OF 'simprooflaw16.DependOrder'. -/
def dependOrderUptoCard : Claim7 := { stood := { row := dependOrderUptoRow, standIns := [], harness := (true, "90cb75cc7c10c14a10cefb939cee6070c87076b8098582c817745454562e8749"), looks := false }, kinds := [], alts := [], laidByText := true, laidKinds := [.data], laidTests := true, laidLooks := .later }
def DependOrderUptoCardSaid : Prop := Claim7.holds Tryd.pinned (.plain (OpenSpec.upto dependOrderSpec)) dependOrderUptoCard

/-- THE SECOND FORM's CARD OF 'simprooflaw16.DependSwap'. -/
def dependSwapUptoCard : Claim7 := { stood := { row := dependSwapUptoRow, standIns := [], harness := (true, "90cb75cc7c10c14a10cefb939cee6070c87076b8098582c817745454562e8749"), looks := false }, kinds := [], alts := [], laidByText := true, laidKinds := [.data], laidTests := true, laidLooks := .later }
def DependSwapUptoCardSaid : Prop := Claim7.holds Tryd.pinned (.plain (OpenSpec.upto dependSwapSpec)) dependSwapUptoCard

/-- THE SECOND FORM's CARD OF 'simprooflaw16.DependRace'. -/
def dependRaceUptoCard : Claim7 := { stood := { row := dependRaceUptoRow, standIns := [], harness := (true, "90cb75cc7c10c14a10cefb939cee6070c87076b8098582c817745454562e8749"), looks := false }, kinds := [], alts := [], laidByText := true, laidKinds := [.data], laidTests := true, laidLooks := .later }
def DependRaceUptoCardSaid : Prop := Claim7.holds Tryd.pinned (.plain (OpenSpec.upto dependRaceSpec)) dependRaceUptoCard

/-- THE SECOND FORM's CARD OF 'simprooflaw16.DependSymmetric'. -/
def dependSymmetricUptoCard : Claim7 := { stood := { row := dependSymmetricUptoRow, standIns := [], harness := (true, "90cb75cc7c10c14a10cefb939cee6070c87076b8098582c817745454562e8749"), looks := false }, kinds := [], alts := [], laidByText := true, laidKinds := [.data], laidTests := true, laidLooks := .later }
def DependSymmetricUptoCardSaid : Prop := Claim7.holds Tryd.pinned (.plain (OpenSpec.upto dependSymmetricSpec)) dependSymmetricUptoCard

/-- THE SECOND FORM's CARD OF 'simprooflaw16.DependLinear'. -/
def dependLinearUptoCard : Claim7 := { stood := { row := dependLinearUptoRow, standIns := [], harness := (true, "90cb75cc7c10c14a10cefb939cee6070c87076b8098582c817745454562e8749"), looks := false }, kinds := [], alts := [], laidByText := true, laidKinds := [.data], laidTests := true, laidLooks := .later }
def DependLinearUptoCardSaid : Prop := Claim7.holds Tryd.pinned (.plain (OpenSpec.upto dependLinearSpec)) dependLinearUptoCard

/-- THE SECOND FORM's CARD OF 'simprooflaw16.DependCovers'. -/
def dependCoversUptoCard : Claim7 := { stood := { row := dependCoversUptoRow, standIns := [], harness := (true, "90cb75cc7c10c14a10cefb939cee6070c87076b8098582c817745454562e8749"), looks := false }, kinds := [], alts := [], laidByText := true, laidKinds := [.data], laidTests := true, laidLooks := .later }
def DependCoversUptoCardSaid : Prop := Claim7.holds Tryd.pinned (.plain (OpenSpec.upto dependCoversSpec)) dependCoversUptoCard

/-- THE SECOND FORM's CARD OF 'simprooflaw16.DependChains'. -/
def dependChainsUptoCard : Claim7 := { stood := { row := dependChainsUptoRow, standIns := [], harness := (true, "90cb75cc7c10c14a10cefb939cee6070c87076b8098582c817745454562e8749"), looks := false }, kinds := [], alts := [], laidByText := true, laidKinds := [.data], laidTests := true, laidLooks := .later }
def DependChainsUptoCardSaid : Prop := Claim7.holds Tryd.pinned (.plain (OpenSpec.upto dependChainsSpec)) dependChainsUptoCard
end Rows
end Go.Proofs.YtlomhoohmcnniaaDoor
