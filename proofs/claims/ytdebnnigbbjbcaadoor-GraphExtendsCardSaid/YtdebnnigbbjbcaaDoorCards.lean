/-
  DERIVED. GIVEN WITH THE SEED: THE CARDS: each row of YtdebnnigbbjbcaaDoorRows.lean that lists a variable, with what it lists TIED to the program's text (the seventh form; the later family's looks); each row that meets fmt, with fmt's text TOLD by the authors' own Lean function (tested against real Go, not proved from fmt's source: count such statements apart). THE CARD IS WHAT COUNTS. Prove the row's statement (the work); the ties are given (YtdebnnigbbjbcaaDoorTie.lean); close each card by the builder's one call (the guide's Derived/Test/ToyasCard.lean, 'card_holds'). Laid BY PROGRAM, IN A SANDBOX (cutbox-door.mjs). By AI agents, Wed Nov 11 2026. No macro, syntax, notation, axiom, sorry.
-/
import Derived.Test.YtdebnnigbbjbcaaDoorRows
import GoSem.ClaimSeven
namespace Go.Proofs.YtdebnnigbbjbcaaDoor
namespace Rows

/-- THE TIED CARD OF 'simprooflaw03.GraphTopo'. -/
def graphTopoCard : Claim7 := { stood := { row := graphTopoRow, standIns := [], harness := (true, "fb1c7afc0f795047f9d06904fdd55d6c9f5b6031f2a9367aa7dd34fb37da98a6"), looks := true }, kinds := [], alts := [], laidByText := true, laidKinds := [.data], laidTests := true, laidLooks := .later }
def GraphTopoCardSaid : Prop := Claim7.holds Tryd.pinned (.plain (OpenSpec.ofChange graphTopoSpec)) graphTopoCard

/-- THE TIED CARD OF 'simprooflaw03.GraphReach'. -/
def graphReachCard : Claim7 := { stood := { row := graphReachRow, standIns := [], harness := (true, "fb1c7afc0f795047f9d06904fdd55d6c9f5b6031f2a9367aa7dd34fb37da98a6"), looks := true }, kinds := [], alts := [], laidByText := true, laidKinds := [.data], laidTests := true, laidLooks := .later }
def GraphReachCardSaid : Prop := Claim7.holds Tryd.pinned (.plain (OpenSpec.ofChange graphReachSpec)) graphReachCard

/-- THE TIED CARD OF 'simprooflaw03.GraphCycle'. -/
def graphCycleCard : Claim7 := { stood := { row := graphCycleRow, standIns := [], harness := (true, "fb1c7afc0f795047f9d06904fdd55d6c9f5b6031f2a9367aa7dd34fb37da98a6"), looks := true }, kinds := [], alts := [], laidByText := true, laidKinds := [.data], laidTests := true, laidLooks := .later }
def GraphCycleCardSaid : Prop := Claim7.holds Tryd.pinned (.plain (OpenSpec.ofChange graphCycleSpec)) graphCycleCard

/-- THE TIED CARD OF 'simprooflaw03.GraphComponents'. -/
def graphComponentsCard : Claim7 := { stood := { row := graphComponentsRow, standIns := [], harness := (true, "fb1c7afc0f795047f9d06904fdd55d6c9f5b6031f2a9367aa7dd34fb37da98a6"), looks := true }, kinds := [], alts := [], laidByText := true, laidKinds := [.data], laidTests := true, laidLooks := .later }
def GraphComponentsCardSaid : Prop := Claim7.holds Tryd.pinned (.plain (OpenSpec.ofChange graphComponentsSpec)) graphComponentsCard

/-- THE TIED CARD OF 'simprooflaw03.GraphAcyclic'. -/
def graphAcyclicCard : Claim7 := { stood := { row := graphAcyclicRow, standIns := [], harness := (true, "fb1c7afc0f795047f9d06904fdd55d6c9f5b6031f2a9367aa7dd34fb37da98a6"), looks := true }, kinds := [], alts := [], laidByText := true, laidKinds := [.data], laidTests := true, laidLooks := .later }
def GraphAcyclicCardSaid : Prop := Claim7.holds Tryd.pinned (.plain (OpenSpec.ofChange graphAcyclicSpec)) graphAcyclicCard

/-- THE TIED CARD OF 'simprooflaw03.GraphClosure'. -/
def graphClosureCard : Claim7 := { stood := { row := graphClosureRow, standIns := [], harness := (true, "fb1c7afc0f795047f9d06904fdd55d6c9f5b6031f2a9367aa7dd34fb37da98a6"), looks := true }, kinds := [], alts := [], laidByText := true, laidKinds := [.data], laidTests := true, laidLooks := .later }
def GraphClosureCardSaid : Prop := Claim7.holds Tryd.pinned (.plain (OpenSpec.ofChange graphClosureSpec)) graphClosureCard

/-- THE TIED CARD OF 'simprooflaw03.GraphExtends'. -/
def graphExtendsCard : Claim7 := { stood := { row := graphExtendsRow, standIns := [], harness := (true, "fb1c7afc0f795047f9d06904fdd55d6c9f5b6031f2a9367aa7dd34fb37da98a6"), looks := true }, kinds := [], alts := [], laidByText := true, laidKinds := [.data], laidTests := true, laidLooks := .later }
def GraphExtendsCardSaid : Prop := Claim7.holds Tryd.pinned (.plain (OpenSpec.ofChange graphExtendsSpec)) graphExtendsCard

/-- THE TIED CARD OF 'simprooflaw03.GraphEdges'. -/
def graphEdgesCard : Claim7 := { stood := { row := graphEdgesRow, standIns := [], harness := (true, "fb1c7afc0f795047f9d06904fdd55d6c9f5b6031f2a9367aa7dd34fb37da98a6"), looks := true }, kinds := [], alts := [], laidByText := true, laidKinds := [.data], laidTests := true, laidLooks := .later }
def GraphEdgesCardSaid : Prop := Claim7.holds Tryd.pinned (.plain (OpenSpec.ofChange graphEdgesSpec)) graphEdgesCard

/-- THE SECOND FORM's CARD OF 'simprooflaw03.GraphTopo'. -/
def graphTopoUptoCard : Claim7 := { stood := { row := graphTopoUptoRow, standIns := [], harness := (true, "fb1c7afc0f795047f9d06904fdd55d6c9f5b6031f2a9367aa7dd34fb37da98a6"), looks := true }, kinds := [], alts := [], laidByText := true, laidKinds := [.data], laidTests := true, laidLooks := .later }
def GraphTopoUptoCardSaid : Prop := Claim7.holds Tryd.pinned (.plain (OpenSpec.upto graphTopoSpec)) graphTopoUptoCard

/-- THE SECOND FORM's CARD OF 'simprooflaw03.GraphReach'. -/
def graphReachUptoCard : Claim7 := { stood := { row := graphReachUptoRow, standIns := [], harness := (true, "fb1c7afc0f795047f9d06904fdd55d6c9f5b6031f2a9367aa7dd34fb37da98a6"), looks := true }, kinds := [], alts := [], laidByText := true, laidKinds := [.data], laidTests := true, laidLooks := .later }
def GraphReachUptoCardSaid : Prop := Claim7.holds Tryd.pinned (.plain (OpenSpec.upto graphReachSpec)) graphReachUptoCard

/-- THE SECOND FORM's CARD OF 'simprooflaw03.GraphCycle'. -/
def graphCycleUptoCard : Claim7 := { stood := { row := graphCycleUptoRow, standIns := [], harness := (true, "fb1c7afc0f795047f9d06904fdd55d6c9f5b6031f2a9367aa7dd34fb37da98a6"), looks := true }, kinds := [], alts := [], laidByText := true, laidKinds := [.data], laidTests := true, laidLooks := .later }
def GraphCycleUptoCardSaid : Prop := Claim7.holds Tryd.pinned (.plain (OpenSpec.upto graphCycleSpec)) graphCycleUptoCard

/-- THE SECOND FORM's CARD OF 'simprooflaw03.GraphComponents'. -/
def graphComponentsUptoCard : Claim7 := { stood := { row := graphComponentsUptoRow, standIns := [], harness := (true, "fb1c7afc0f795047f9d06904fdd55d6c9f5b6031f2a9367aa7dd34fb37da98a6"), looks := true }, kinds := [], alts := [], laidByText := true, laidKinds := [.data], laidTests := true, laidLooks := .later }
def GraphComponentsUptoCardSaid : Prop := Claim7.holds Tryd.pinned (.plain (OpenSpec.upto graphComponentsSpec)) graphComponentsUptoCard

/-- THE SECOND FORM's CARD OF 'simprooflaw03.GraphAcyclic'. -/
def graphAcyclicUptoCard : Claim7 := { stood := { row := graphAcyclicUptoRow, standIns := [], harness := (true, "fb1c7afc0f795047f9d06904fdd55d6c9f5b6031f2a9367aa7dd34fb37da98a6"), looks := true }, kinds := [], alts := [], laidByText := true, laidKinds := [.data], laidTests := true, laidLooks := .later }
def GraphAcyclicUptoCardSaid : Prop := Claim7.holds Tryd.pinned (.plain (OpenSpec.upto graphAcyclicSpec)) graphAcyclicUptoCard

/-- THE SECOND FORM's CARD OF 'simprooflaw03.GraphClosure'. -/
def graphClosureUptoCard : Claim7 := { stood := { row := graphClosureUptoRow, standIns := [], harness := (true, "fb1c7afc0f795047f9d06904fdd55d6c9f5b6031f2a9367aa7dd34fb37da98a6"), looks := true }, kinds := [], alts := [], laidByText := true, laidKinds := [.data], laidTests := true, laidLooks := .later }
def GraphClosureUptoCardSaid : Prop := Claim7.holds Tryd.pinned (.plain (OpenSpec.upto graphClosureSpec)) graphClosureUptoCard

/-- THE SECOND FORM's CARD OF 'simprooflaw03.GraphExtends'. -/
def graphExtendsUptoCard : Claim7 := { stood := { row := graphExtendsUptoRow, standIns := [], harness := (true, "fb1c7afc0f795047f9d06904fdd55d6c9f5b6031f2a9367aa7dd34fb37da98a6"), looks := true }, kinds := [], alts := [], laidByText := true, laidKinds := [.data], laidTests := true, laidLooks := .later }
def GraphExtendsUptoCardSaid : Prop := Claim7.holds Tryd.pinned (.plain (OpenSpec.upto graphExtendsSpec)) graphExtendsUptoCard

/-- THE SECOND FORM's CARD OF 'simprooflaw03.GraphEdges'. -/
def graphEdgesUptoCard : Claim7 := { stood := { row := graphEdgesUptoRow, standIns := [], harness := (true, "fb1c7afc0f795047f9d06904fdd55d6c9f5b6031f2a9367aa7dd34fb37da98a6"), looks := true }, kinds := [], alts := [], laidByText := true, laidKinds := [.data], laidTests := true, laidLooks := .later }
def GraphEdgesUptoCardSaid : Prop := Claim7.holds Tryd.pinned (.plain (OpenSpec.upto graphEdgesSpec)) graphEdgesUptoCard
end Rows
end Go.Proofs.YtdebnnigbbjbcaaDoor
