/-
  DERIVED. GIVEN WITH THE SEED: THE CARDS: each row of YtggallpnbbidfaaDoorRows.lean that lists a variable, with what it lists TIED to the program's text (the seventh form; the later family's looks); each row that meets fmt, with fmt's text TOLD by the authors' own Lean function (tested against real Go, not proved from fmt's source: count such statements apart). THE CARD IS WHAT COUNTS. Prove the row's statement (the work); the ties are given (YtggallpnbbidfaaDoorTie.lean); close each card by the builder's one call (the guide's Derived/Test/ToyasCard.lean, 'card_holds'). Laid BY PROGRAM, IN A SANDBOX (cutbox-door.mjs). By AI agents, Wed Nov 11 2026. No macro, syntax, notation, axiom, sorry.
-/
import Derived.Test.YtggallpnbbidfaaDoorRows
import GoSem.ClaimSeven
namespace Go.Proofs.YtggallpnbbidfaaDoor
namespace Rows

/-- THE TIED CARD OF 'simprooflaw10.NamesEvents'. -/
def namesEventsCard : Claim7 := { stood := { row := namesEventsRow, standIns := [], harness := (true, "07b176a159a0ff2d014bd9e52965c9560136b0fd968bbea3215b2fa64b021c0a"), looks := true }, kinds := [], alts := [], laidByText := true, laidKinds := [.data, .data, .data, .data, .sentinel, .sentinel, .pinned], laidTests := true, laidLooks := .later }
def NamesEventsCardSaid : Prop := Claim7.holds Tryd.pinned (.plain (OpenSpec.ofChange namesEventsSpec)) namesEventsCard

/-- THE TIED CARD OF 'simprooflaw10.NamesOrder'. -/
def namesOrderCard : Claim7 := { stood := { row := namesOrderRow, standIns := [], harness := (true, "07b176a159a0ff2d014bd9e52965c9560136b0fd968bbea3215b2fa64b021c0a"), looks := true }, kinds := [], alts := [], laidByText := true, laidKinds := [.data, .data, .data, .data, .sentinel, .sentinel, .pinned], laidTests := true, laidLooks := .later }
def NamesOrderCardSaid : Prop := Claim7.holds Tryd.pinned (.plain (OpenSpec.ofChange namesOrderSpec)) namesOrderCard

/-- THE SECOND FORM's CARD OF 'simprooflaw10.NamesEvents'. -/
def namesEventsUptoCard : Claim7 := { stood := { row := namesEventsUptoRow, standIns := [], harness := (true, "07b176a159a0ff2d014bd9e52965c9560136b0fd968bbea3215b2fa64b021c0a"), looks := true }, kinds := [], alts := [], laidByText := true, laidKinds := [.data, .data, .data, .data, .sentinel, .sentinel, .pinned], laidTests := true, laidLooks := .later }
def NamesEventsUptoCardSaid : Prop := Claim7.holds Tryd.pinned (.plain (OpenSpec.upto namesEventsSpec)) namesEventsUptoCard

/-- THE SECOND FORM's CARD OF 'simprooflaw10.NamesOrder'. -/
def namesOrderUptoCard : Claim7 := { stood := { row := namesOrderUptoRow, standIns := [], harness := (true, "07b176a159a0ff2d014bd9e52965c9560136b0fd968bbea3215b2fa64b021c0a"), looks := true }, kinds := [], alts := [], laidByText := true, laidKinds := [.data, .data, .data, .data, .sentinel, .sentinel, .pinned], laidTests := true, laidLooks := .later }
def NamesOrderUptoCardSaid : Prop := Claim7.holds Tryd.pinned (.plain (OpenSpec.upto namesOrderSpec)) namesOrderUptoCard
end Rows
end Go.Proofs.YtggallpnbbidfaaDoor
