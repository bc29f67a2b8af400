/-
  DERIVED. GIVEN WITH THE SEED: THE CARDS: each row of YtigdohfkdglceaaDoorRows.lean that lists a variable, with what it lists TIED to the program's text (the seventh form; the later family's looks); each row that meets fmt, with fmt's text TOLD by the authors' own Lean function (tested against real Go, not proved from fmt's source: count such statements apart). THE CARD IS WHAT COUNTS. Prove the row's statement (the work); the ties are given (YtigdohfkdglceaaDoorTie.lean); close each card by the builder's one call (the guide's Derived/Test/ToyasCard.lean, 'card_holds'). Laid BY PROGRAM, IN A SANDBOX (cutbox-door.mjs). By AI agents, Wed Nov 11 2026. No macro, syntax, notation, axiom, sorry.
-/
import Derived.Test.YtigdohfkdglceaaDoorRows
import GoSem.ClaimSeven
namespace Go.Proofs.YtigdohfkdglceaaDoor
namespace Rows

/-- THE TIED CARD OF 'simprooflaw10.NamesMsg'. -/
def namesMsgCard : Claim7 := { stood := { row := namesMsgRow, standIns := [], harness := (true, "af18a74a81bc4c5704e3b794cbf19ac3e3518707224426496f088ee549db8410"), looks := true }, kinds := [], alts := [], laidByText := true, laidKinds := [.data, .data, .data, .data, .sentinel, .sentinel, .pinned], laidTests := true, laidLooks := .later }
def NamesMsgCardSaid : Prop := Claim7.holds Tryd.pinned (.plain (OpenSpec.ofChange namesMsgSpec)) namesMsgCard

/-- THE TIED CARD OF 'simprooflaw10.NamesEvents'. -/
def namesEventsCard : Claim7 := { stood := { row := namesEventsRow, standIns := [], harness := (true, "af18a74a81bc4c5704e3b794cbf19ac3e3518707224426496f088ee549db8410"), looks := true }, kinds := [], alts := [], laidByText := true, laidKinds := [.data, .data, .data, .data, .sentinel, .sentinel, .pinned], laidTests := true, laidLooks := .later }
def NamesEventsCardSaid : Prop := Claim7.holds Tryd.pinned (.plain (OpenSpec.ofChange namesEventsSpec)) namesEventsCard

/-- THE TIED CARD OF 'simprooflaw10.NamesOrder'. -/
def namesOrderCard : Claim7 := { stood := { row := namesOrderRow, standIns := [], harness := (true, "af18a74a81bc4c5704e3b794cbf19ac3e3518707224426496f088ee549db8410"), looks := true }, kinds := [], alts := [], laidByText := true, laidKinds := [.data, .data, .data, .data, .sentinel, .sentinel, .pinned], laidTests := true, laidLooks := .later }
def NamesOrderCardSaid : Prop := Claim7.holds Tryd.pinned (.plain (OpenSpec.ofChange namesOrderSpec)) namesOrderCard

/-- THE TIED CARD OF 'simprooflaw10.NamesEventText'. -/
def namesEventTextCard : Claim7 := { stood := { row := namesEventTextRow, standIns := [], harness := (true, "af18a74a81bc4c5704e3b794cbf19ac3e3518707224426496f088ee549db8410"), looks := true }, kinds := [], alts := [], laidByText := true, laidKinds := [.data, .data, .data, .data, .sentinel, .sentinel, .pinned], laidTests := true, laidLooks := .later }
def NamesEventTextCardSaid : Prop := Claim7.holds Tryd.pinned (.plain (OpenSpec.ofChange namesEventTextSpec)) namesEventTextCard

/-- THE TIED CARD OF 'simprooflaw10.NamesQuestionText'. -/
def namesQuestionTextCard : Claim7 := { stood := { row := namesQuestionTextRow, standIns := [], harness := (true, "af18a74a81bc4c5704e3b794cbf19ac3e3518707224426496f088ee549db8410"), looks := true }, kinds := [], alts := [], laidByText := true, laidKinds := [.data, .data, .data, .data, .sentinel, .sentinel, .pinned], laidTests := true, laidLooks := .later }
def NamesQuestionTextCardSaid : Prop := Claim7.holds Tryd.pinned (.plain (OpenSpec.ofChange namesQuestionTextSpec)) namesQuestionTextCard

/-- THE TIED CARD OF 'simprooflaw10.NamesDistinct'. -/
def namesDistinctCard : Claim7 := { stood := { row := namesDistinctRow, standIns := [], harness := (true, "af18a74a81bc4c5704e3b794cbf19ac3e3518707224426496f088ee549db8410"), looks := true }, kinds := [], alts := [], laidByText := true, laidKinds := [.data, .data, .data, .data, .sentinel, .sentinel, .pinned], laidTests := true, laidLooks := .later }
def NamesDistinctCardSaid : Prop := Claim7.holds Tryd.pinned (.plain (OpenSpec.ofChange namesDistinctSpec)) namesDistinctCard

/-- THE SECOND FORM's CARD OF 'simprooflaw10.NamesMsg'. -/
def namesMsgUptoCard : Claim7 := { stood := { row := namesMsgUptoRow, standIns := [], harness := (true, "af18a74a81bc4c5704e3b794cbf19ac3e3518707224426496f088ee549db8410"), looks := true }, kinds := [], alts := [], laidByText := true, laidKinds := [.data, .data, .data, .data, .sentinel, .sentinel, .pinned], laidTests := true, laidLooks := .later }
def NamesMsgUptoCardSaid : Prop := Claim7.holds Tryd.pinned (.plain (OpenSpec.upto namesMsgSpec)) namesMsgUptoCard

/-- THE SECOND FORM's CARD OF 'simprooflaw10.NamesEvents'. -/
def namesEventsUptoCard : Claim7 := { stood := { row := namesEventsUptoRow, standIns := [], harness := (true, "af18a74a81bc4c5704e3b794cbf19ac3e3518707224426496f088ee549db8410"), looks := true }, kinds := [], alts := [], laidByText := true, laidKinds := [.data, .data, .data, .data, .sentinel, .sentinel, .pinned], laidTests := true, laidLooks := .later }
def NamesEventsUptoCardSaid : Prop := Claim7.holds Tryd.pinned (.plain (OpenSpec.upto namesEventsSpec)) namesEventsUptoCard

/-- THE SECOND FORM's CARD OF 'simprooflaw10.NamesOrder'. -/
def namesOrderUptoCard : Claim7 := { stood := { row := namesOrderUptoRow, standIns := [], harness := (true, "af18a74a81bc4c5704e3b794cbf19ac3e3518707224426496f088ee549db8410"), looks := true }, kinds := [], alts := [], laidByText := true, laidKinds := [.data, .data, .data, .data, .sentinel, .sentinel, .pinned], laidTests := true, laidLooks := .later }
def NamesOrderUptoCardSaid : Prop := Claim7.holds Tryd.pinned (.plain (OpenSpec.upto namesOrderSpec)) namesOrderUptoCard

/-- THE SECOND FORM's CARD OF 'simprooflaw10.NamesEventText'. -/
def namesEventTextUptoCard : Claim7 := { stood := { row := namesEventTextUptoRow, standIns := [], harness := (true, "af18a74a81bc4c5704e3b794cbf19ac3e3518707224426496f088ee549db8410"), looks := true }, kinds := [], alts := [], laidByText := true, laidKinds := [.data, .data, .data, .data, .sentinel, .sentinel, .pinned], laidTests := true, laidLooks := .later }
def NamesEventTextUptoCardSaid : Prop := Claim7.holds Tryd.pinned (.plain (OpenSpec.upto namesEventTextSpec)) namesEventTextUptoCard

/-- THE SECOND FORM's CARD OF 'simprooflaw10.NamesQuestionText'. -/
def namesQuestionTextUptoCard : Claim7 := { stood := { row := namesQuestionTextUptoRow, standIns := [], harness := (true, "af18a74a81bc4c5704e3b794cbf19ac3e3518707224426496f088ee549db8410"), looks := true }, kinds := [], alts := [], laidByText := true, laidKinds := [.data, .data, .data, .data, .sentinel, .sentinel, .pinned], laidTests := true, laidLooks := .later }
def NamesQuestionTextUptoCardSaid : Prop := Claim7.holds Tryd.pinned (.plain (OpenSpec.upto namesQuestionTextSpec)) namesQuestionTextUptoCard

/-- THE SECOND FORM's CARD OF 'simprooflaw10.NamesDistinct'. -/
def namesDistinctUptoCard : Claim7 := { stood := { row := namesDistinctUptoRow, standIns := [], harness := (true, "af18a74a81bc4c5704e3b794cbf19ac3e3518707224426496f088ee549db8410"), looks := true }, kinds := [], alts := [], laidByText := true, laidKinds := [.data, .data, .data, .data, .sentinel, .sentinel, .pinned], laidTests := true, laidLooks := .later }
def NamesDistinctUptoCardSaid : Prop := Claim7.holds Tryd.pinned (.plain (OpenSpec.upto namesDistinctSpec)) namesDistinctUptoCard
end Rows
end Go.Proofs.YtigdohfkdglceaaDoor
