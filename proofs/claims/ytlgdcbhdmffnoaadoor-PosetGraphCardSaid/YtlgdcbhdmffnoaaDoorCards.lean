/-
  DERIVED. GIVEN WITH THE SEED: THE CARDS: each row of YtlgdcbhdmffnoaaDoorRows.lean that lists a variable, with what it lists TIED to the program's text (the seventh form; the later family's looks); each row that meets fmt, with fmt's text TOLD by the authors' own Lean function (tested against real Go, not proved from fmt's source: count such statements apart). THE CARD IS WHAT COUNTS. Prove the row's statement (the work); the ties are given (YtlgdcbhdmffnoaaDoorTie.lean); close each card by the builder's one call (the guide's Derived/Test/ToyasCard.lean, 'card_holds'). Laid BY PROGRAM, IN A SANDBOX (cutbox-door.mjs). By AI agents, Wed Nov 11 2026. No macro, syntax, notation, axiom, sorry.
-/
import Derived.Test.YtlgdcbhdmffnoaaDoorRows
import GoSem.ClaimSeven
namespace Go.Proofs.YtlgdcbhdmffnoaaDoor
namespace Rows

/-- THE TIED CARD OF 'simprooflaw04.PosetNew'. -/
def posetNewCard : Claim7 := { stood := { row := posetNewRow, standIns := [], harness := (true, "69b8748036c1ab40a488c13c974df10cd19b3b935a840f5165b1f86c23c10982"), looks := true }, kinds := [], alts := [], laidByText := true, laidKinds := [.data], laidTests := true, laidLooks := .later }
def PosetNewCardSaid : Prop := Claim7.holds Tryd.pinned (.plain (OpenSpec.ofChange posetNewSpec)) posetNewCard

/-- THE TIED CARD OF 'simprooflaw04.PosetLimits'. -/
def posetLimitsCard : Claim7 := { stood := { row := posetLimitsRow, standIns := [], harness := (true, "69b8748036c1ab40a488c13c974df10cd19b3b935a840f5165b1f86c23c10982"), looks := true }, kinds := [], alts := [], laidByText := true, laidKinds := [.data], laidTests := true, laidLooks := .later }
def PosetLimitsCardSaid : Prop := Claim7.holds Tryd.pinned (.plain (OpenSpec.ofChange posetLimitsSpec)) posetLimitsCard

/-- THE TIED CARD OF 'simprooflaw04.PosetOrder'. -/
def posetOrderCard : Claim7 := { stood := { row := posetOrderRow, standIns := [], harness := (true, "69b8748036c1ab40a488c13c974df10cd19b3b935a840f5165b1f86c23c10982"), looks := true }, kinds := [], alts := [], laidByText := true, laidKinds := [.data], laidTests := true, laidLooks := .later }
def PosetOrderCardSaid : Prop := Claim7.holds Tryd.pinned (.plain (OpenSpec.ofChange posetOrderSpec)) posetOrderCard

/-- THE TIED CARD OF 'simprooflaw04.PosetCovers'. -/
def posetCoversCard : Claim7 := { stood := { row := posetCoversRow, standIns := [], harness := (true, "69b8748036c1ab40a488c13c974df10cd19b3b935a840f5165b1f86c23c10982"), looks := true }, kinds := [], alts := [], laidByText := true, laidKinds := [.data], laidTests := true, laidLooks := .later }
def PosetCoversCardSaid : Prop := Claim7.holds Tryd.pinned (.plain (OpenSpec.ofChange posetCoversSpec)) posetCoversCard

/-- THE TIED CARD OF 'simprooflaw04.PosetLinear'. -/
def posetLinearCard : Claim7 := { stood := { row := posetLinearRow, standIns := [], harness := (true, "69b8748036c1ab40a488c13c974df10cd19b3b935a840f5165b1f86c23c10982"), looks := true }, kinds := [], alts := [], laidByText := true, laidKinds := [.data], laidTests := true, laidLooks := .later }
def PosetLinearCardSaid : Prop := Claim7.holds Tryd.pinned (.plain (OpenSpec.ofChange posetLinearSpec)) posetLinearCard

/-- THE TIED CARD OF 'simprooflaw04.PosetExtensions'. -/
def posetExtensionsCard : Claim7 := { stood := { row := posetExtensionsRow, standIns := [], harness := (true, "69b8748036c1ab40a488c13c974df10cd19b3b935a840f5165b1f86c23c10982"), looks := true }, kinds := [], alts := [], laidByText := true, laidKinds := [.data], laidTests := true, laidLooks := .later }
def PosetExtensionsCardSaid : Prop := Claim7.holds Tryd.pinned (.plain (OpenSpec.ofChange posetExtensionsSpec)) posetExtensionsCard

/-- THE TIED CARD OF 'simprooflaw04.PosetDown'. -/
def posetDownCard : Claim7 := { stood := { row := posetDownRow, standIns := [], harness := (true, "69b8748036c1ab40a488c13c974df10cd19b3b935a840f5165b1f86c23c10982"), looks := true }, kinds := [], alts := [], laidByText := true, laidKinds := [.data], laidTests := true, laidLooks := .later }
def PosetDownCardSaid : Prop := Claim7.holds Tryd.pinned (.plain (OpenSpec.ofChange posetDownSpec)) posetDownCard

/-- THE TIED CARD OF 'simprooflaw04.PosetSwaps'. -/
def posetSwapsCard : Claim7 := { stood := { row := posetSwapsRow, standIns := [], harness := (true, "69b8748036c1ab40a488c13c974df10cd19b3b935a840f5165b1f86c23c10982"), looks := true }, kinds := [], alts := [], laidByText := true, laidKinds := [.data], laidTests := true, laidLooks := .later }
def PosetSwapsCardSaid : Prop := Claim7.holds Tryd.pinned (.plain (OpenSpec.ofChange posetSwapsSpec)) posetSwapsCard

/-- THE TIED CARD OF 'simprooflaw04.PosetGraph'. -/
def posetGraphCard : Claim7 := { stood := { row := posetGraphRow, standIns := [], harness := (true, "69b8748036c1ab40a488c13c974df10cd19b3b935a840f5165b1f86c23c10982"), looks := true }, kinds := [], alts := [], laidByText := true, laidKinds := [.data], laidTests := true, laidLooks := .later }
def PosetGraphCardSaid : Prop := Claim7.holds Tryd.pinned (.plain (OpenSpec.ofChange posetGraphSpec)) posetGraphCard

/-- THE TIED CARD OF 'simprooflaw04.PosetOwns'. -/
def posetOwnsCard : Claim7 := { stood := { row := posetOwnsRow, standIns := [], harness := (true, "69b8748036c1ab40a488c13c974df10cd19b3b935a840f5165b1f86c23c10982"), looks := true }, kinds := [], alts := [], laidByText := true, laidKinds := [.data], laidTests := true, laidLooks := .later }
def PosetOwnsCardSaid : Prop := Claim7.holds Tryd.pinned (.plain (OpenSpec.ofChange posetOwnsSpec)) posetOwnsCard

/-- THE SECOND FORM's CARD OF 'simprooflaw04.PosetNew'. -/
def posetNewUptoCard : Claim7 := { stood := { row := posetNewUptoRow, standIns := [], harness := (true, "69b8748036c1ab40a488c13c974df10cd19b3b935a840f5165b1f86c23c10982"), looks := true }, kinds := [], alts := [], laidByText := true, laidKinds := [.data], laidTests := true, laidLooks := .later }
def PosetNewUptoCardSaid : Prop := Claim7.holds Tryd.pinned (.plain (OpenSpec.upto posetNewSpec)) posetNewUptoCard

/-- THE SECOND FORM's CARD OF 'simprooflaw04.PosetLimits'. -/
def posetLimitsUptoCard : Claim7 := { stood := { row := posetLimitsUptoRow, standIns := [], harness := (true, "69b8748036c1ab40a488c13c974df10cd19b3b935a840f5165b1f86c23c10982"), looks := true }, kinds := [], alts := [], laidByText := true, laidKinds := [.data], laidTests := true, laidLooks := .later }
def PosetLimitsUptoCardSaid : Prop := Claim7.holds Tryd.pinned (.plain (OpenSpec.upto posetLimitsSpec)) posetLimitsUptoCard

/-- THE SECOND FORM's CARD OF 'simprooflaw04.PosetOrder'. -/
def posetOrderUptoCard : Claim7 := { stood := { row := posetOrderUptoRow, standIns := [], harness := (true, "69b8748036c1ab40a488c13c974df10cd19b3b935a840f5165b1f86c23c10982"), looks := true }, kinds := [], alts := [], laidByText := true, laidKinds := [.data], laidTests := true, laidLooks := .later }
def PosetOrderUptoCardSaid : Prop := Claim7.holds Tryd.pinned (.plain (OpenSpec.upto posetOrderSpec)) posetOrderUptoCard

/-- THE SECOND FORM's CARD OF 'simprooflaw04.PosetCovers'. -/
def posetCoversUptoCard : Claim7 := { stood := { row := posetCoversUptoRow, standIns := [], harness := (true, "69b8748036c1ab40a488c13c974df10cd19b3b935a840f5165b1f86c23c10982"), looks := true }, kinds := [], alts := [], laidByText := true, laidKinds := [.data], laidTests := true, laidLooks := .later }
def PosetCoversUptoCardSaid : Prop := Claim7.holds Tryd.pinned (.plain (OpenSpec.upto posetCoversSpec)) posetCoversUptoCard

/-- THE SECOND FORM's CARD OF 'simprooflaw04.PosetLinear'. -/
def posetLinearUptoCard : Claim7 := { stood := { row := posetLinearUptoRow, standIns := [], harness := (true, "69b8748036c1ab40a488c13c974df10cd19b3b935a840f5165b1f86c23c10982"), looks := true }, kinds := [], alts := [], laidByText := true, laidKinds := [.data], laidTests := true, laidLooks := .later }
def PosetLinearUptoCardSaid : Prop := Claim7.holds Tryd.pinned (.plain (OpenSpec.upto posetLinearSpec)) posetLinearUptoCard

/-- THE SECOND FORM's CARD OF 'simprooflaw04.PosetExtensions'. -/
def posetExtensionsUptoCard : Claim7 := { stood := { row := posetExtensionsUptoRow, standIns := [], harness := (true, "69b8748036c1ab40a488c13c974df10cd19b3b935a840f5165b1f86c23c10982"), looks := true }, kinds := [], alts := [], laidByText := true, laidKinds := [.data], laidTests := true, laidLooks := .later }
def PosetExtensionsUptoCardSaid : Prop := Claim7.holds Tryd.pinned (.plain (OpenSpec.upto posetExtensionsSpec)) posetExtensionsUptoCard

/-- THE SECOND FORM's CARD OF 'simprooflaw04.PosetDown'. -/
def posetDownUptoCard : Claim7 := { stood := { row := posetDownUptoRow, standIns := [], harness := (true, "69b8748036c1ab40a488c13c974df10cd19b3b935a840f5165b1f86c23c10982"), looks := true }, kinds := [], alts := [], laidByText := true, laidKinds := [.data], laidTests := true, laidLooks := .later }
def PosetDownUptoCardSaid : Prop := Claim7.holds Tryd.pinned (.plain (OpenSpec.upto posetDownSpec)) posetDownUptoCard

/-- THE SECOND FORM's CARD OF 'simprooflaw04.PosetSwaps'. -/
def posetSwapsUptoCard : Claim7 := { stood := { row := posetSwapsUptoRow, standIns := [], harness := (true, "69b8748036c1ab40a488c13c974df10cd19b3b935a840f5165b1f86c23c10982"), looks := true }, kinds := [], alts := [], laidByText := true, laidKinds := [.data], laidTests := true, laidLooks := .later }
def PosetSwapsUptoCardSaid : Prop := Claim7.holds Tryd.pinned (.plain (OpenSpec.upto posetSwapsSpec)) posetSwapsUptoCard

/-- THE SECOND FORM's CARD OF 'simprooflaw04.PosetGraph'. -/
def posetGraphUptoCard : Claim7 := { stood := { row := posetGraphUptoRow, standIns := [], harness := (true, "69b8748036c1ab40a488c13c974df10cd19b3b935a840f5165b1f86c23c10982"), looks := true }, kinds := [], alts := [], laidByText := true, laidKinds := [.data], laidTests := true, laidLooks := .later }
def PosetGraphUptoCardSaid : Prop := Claim7.holds Tryd.pinned (.plain (OpenSpec.upto posetGraphSpec)) posetGraphUptoCard

/-- THE SECOND FORM's CARD OF 'simprooflaw04.PosetOwns'. -/
def posetOwnsUptoCard : Claim7 := { stood := { row := posetOwnsUptoRow, standIns := [], harness := (true, "69b8748036c1ab40a488c13c974df10cd19b3b935a840f5165b1f86c23c10982"), looks := true }, kinds := [], alts := [], laidByText := true, laidKinds := [.data], laidTests := true, laidLooks := .later }
def PosetOwnsUptoCardSaid : Prop := Claim7.holds Tryd.pinned (.plain (OpenSpec.upto posetOwnsSpec)) posetOwnsUptoCard
end Rows
end Go.Proofs.YtlgdcbhdmffnoaaDoor
