/-
  NARROWER THAN 'FOR EVERY INPUT', by the rows' own cells (each row's printed sentence says how): GraphTopo: laid · GraphReach: laid · GraphCycle: laid · GraphComponents: laid · GraphAcyclic: laid · GraphClosure: laid · GraphExtends: laid · GraphEdges: laid.
  DERIVED. THE GIVEN ROWS OF THIS SEAT. 8 by the template 'for every input the law returns true; each argument reads behind the call as it read before'; 0 by the template 'total and deterministic' (their statements: YtdebnnigbbjbcaaDoorTotals.lean).
  GIVEN WITH THE SEED: the statements are not yours to turn. If you find one false, say at which input.
  Laid BY PROGRAM, IN A SANDBOX (cutbox-rows.mjs): the forced cells as the released guide's own fill.sh prints them over the translation dc1cc65bd40f1b0a… (all of the seat's roots in one cut). By AI agents, Wed Nov 11 2026. No macro, syntax, notation, axiom, sorry.
-/
import Derived.Test.YtdebnnigbbjbcaaDoorChecked
import GoSem.Claim
import GoSem.ClaimJoined
import GoSem.ClaimMapViews
import Derived.JoinedTies
import Derived.KernelRfl
namespace Go.Proofs.YtdebnnigbbjbcaaDoor
/- THE CELL 'sum', in the pinned program and in every row, IS THE sha256 OF THE DUMP (.gsa) THAT YtdebnnigbbjbcaaDoorProg.lean LOADS. Nothing in Lean hashes anything: it is a label: what it is worth is what the hold of that sum in a sandbox is worth. -/
noncomputable def Tryd.pinned : Pinned := { name := "ytdebnnigbbjbcaadoor", sum := "dc1cc65bd40f1b0aabd04182b1b320363c24ee9e10e65f3509d1fd4ea55dc53c", checked := Tryd.checked }
namespace Rows
def none {H : Type} : Left H := { results := [], args := [] }

/- WHAT THE LISTED PACKAGE-LEVEL VARIABLES READ AS WHEN THE CALL BEGINS. Each datum BY PROGRAM (the guide's laid-datum.mjs) off the statement by which the dump's own 'gosem.cut.vars' lays the variable. In a bare row this is a premise. The card (YtdebnnigbbjbcaaDoorCards.lean) ties it to the program's text. -/
def laid_math_bits_deBruijn64tab {H : Type} : DataW H := .agg [.lit (.int .u8 0), .lit (.int .u8 1), .lit (.int .u8 56), .lit (.int .u8 2), .lit (.int .u8 57), .lit (.int .u8 49), .lit (.int .u8 28), .lit (.int .u8 3), .lit (.int .u8 61), .lit (.int .u8 58), .lit (.int .u8 42), .lit (.int .u8 50), .lit (.int .u8 38), .lit (.int .u8 29), .lit (.int .u8 17), .lit (.int .u8 4), .lit (.int .u8 62), .lit (.int .u8 47), .lit (.int .u8 59), .lit (.int .u8 36), .lit (.int .u8 45), .lit (.int .u8 43), .lit (.int .u8 51), .lit (.int .u8 22), .lit (.int .u8 53), .lit (.int .u8 39), .lit (.int .u8 33), .lit (.int .u8 30), .lit (.int .u8 24), .lit (.int .u8 18), .lit (.int .u8 12), .lit (.int .u8 5), .lit (.int .u8 63), .lit (.int .u8 55), .lit (.int .u8 48), .lit (.int .u8 27), .lit (.int .u8 60), .lit (.int .u8 41), .lit (.int .u8 37), .lit (.int .u8 16), .lit (.int .u8 46), .lit (.int .u8 35), .lit (.int .u8 44), .lit (.int .u8 21), .lit (.int .u8 52), .lit (.int .u8 32), .lit (.int .u8 23), .lit (.int .u8 11), .lit (.int .u8 54), .lit (.int .u8 26), .lit (.int .u8 40), .lit (.int .u8 15), .lit (.int .u8 34), .lit (.int .u8 20), .lit (.int .u8 31), .lit (.int .u8 10), .lit (.int .u8 25), .lit (.int .u8 14), .lit (.int .u8 19), .lit (.int .u8 9), .lit (.int .u8 13), .lit (.int .u8 8), .lit (.int .u8 7), .lit (.int .u8 6)]

/-- 'simprooflaw03.GraphTopo': WHATEVER THE INPUT: true; the input reads as it did. -/
def graphTopoSpec : ChangeSpec := { name := "graphTopo", fn := fun _ => fun
  | [d1, d2] => { results := [.lit (.bool true)], args := [d1, d2] }
  | _ => none }
def graphTopoRow : OpenClaim := { program := "ytdebnnigbbjbcaadoor", sum := "dc1cc65bd40f1b0aabd04182b1b320363c24ee9e10e65f3509d1fd4ea55dc53c", func := "simproof/simprooflaw03.GraphTopo", spec := "graphTopo", unfollowed := true, recurses := true, named := ["math/bits.deBruijn64tab"], apart := false, laid := [("math/bits.deBruijn64tab", laid_math_bits_deBruijn64tab)] }
def GraphTopoSaid : Prop := graphTopoRow.holds Tryd.pinned (OpenSpec.ofChange graphTopoSpec)

/-- ITS FALSE NEIGHBOUR: 'it returns false'. Refute it at one input. -/
def graphTopoWrong : ChangeSpec := { name := "graphTopo", fn := fun _ => fun
  | [d1, d2] => { results := [.lit (.bool false)], args := [d1, d2] }
  | _ => none }
def GraphTopoWrongFalsely : Prop := graphTopoRow.holds Tryd.pinned (OpenSpec.ofChange graphTopoWrong)

/-- 'simprooflaw03.GraphReach': WHATEVER THE INPUT: true; the input reads as it did. -/
def graphReachSpec : ChangeSpec := { name := "graphReach", fn := fun _ => fun
  | [d1, d2, d3, d4] => { results := [.lit (.bool true)], args := [d1, d2, d3, d4] }
  | _ => none }
def graphReachRow : OpenClaim := { program := "ytdebnnigbbjbcaadoor", sum := "dc1cc65bd40f1b0aabd04182b1b320363c24ee9e10e65f3509d1fd4ea55dc53c", func := "simproof/simprooflaw03.GraphReach", spec := "graphReach", unfollowed := true, recurses := true, named := ["math/bits.deBruijn64tab"], apart := false, laid := [("math/bits.deBruijn64tab", laid_math_bits_deBruijn64tab)] }
def GraphReachSaid : Prop := graphReachRow.holds Tryd.pinned (OpenSpec.ofChange graphReachSpec)

/-- ITS FALSE NEIGHBOUR: 'it returns false'. Refute it at one input. -/
def graphReachWrong : ChangeSpec := { name := "graphReach", fn := fun _ => fun
  | [d1, d2, d3, d4] => { results := [.lit (.bool false)], args := [d1, d2, d3, d4] }
  | _ => none }
def GraphReachWrongFalsely : Prop := graphReachRow.holds Tryd.pinned (OpenSpec.ofChange graphReachWrong)

/-- 'simprooflaw03.GraphCycle': WHATEVER THE INPUT: true; the input reads as it did. -/
def graphCycleSpec : ChangeSpec := { name := "graphCycle", fn := fun _ => fun
  | [d1, d2] => { results := [.lit (.bool true)], args := [d1, d2] }
  | _ => none }
def graphCycleRow : OpenClaim := { program := "ytdebnnigbbjbcaadoor", sum := "dc1cc65bd40f1b0aabd04182b1b320363c24ee9e10e65f3509d1fd4ea55dc53c", func := "simproof/simprooflaw03.GraphCycle", spec := "graphCycle", unfollowed := true, recurses := true, named := ["math/bits.deBruijn64tab"], apart := false, laid := [("math/bits.deBruijn64tab", laid_math_bits_deBruijn64tab)] }
def GraphCycleSaid : Prop := graphCycleRow.holds Tryd.pinned (OpenSpec.ofChange graphCycleSpec)

/-- ITS FALSE NEIGHBOUR: 'it returns false'. Refute it at one input. -/
def graphCycleWrong : ChangeSpec := { name := "graphCycle", fn := fun _ => fun
  | [d1, d2] => { results := [.lit (.bool false)], args := [d1, d2] }
  | _ => none }
def GraphCycleWrongFalsely : Prop := graphCycleRow.holds Tryd.pinned (OpenSpec.ofChange graphCycleWrong)

/-- 'simprooflaw03.GraphComponents': WHATEVER THE INPUT: true; the input reads as it did. -/
def graphComponentsSpec : ChangeSpec := { name := "graphComponents", fn := fun _ => fun
  | [d1, d2] => { results := [.lit (.bool true)], args := [d1, d2] }
  | _ => none }
def graphComponentsRow : OpenClaim := { program := "ytdebnnigbbjbcaadoor", sum := "dc1cc65bd40f1b0aabd04182b1b320363c24ee9e10e65f3509d1fd4ea55dc53c", func := "simproof/simprooflaw03.GraphComponents", spec := "graphComponents", unfollowed := true, recurses := true, named := ["math/bits.deBruijn64tab"], apart := false, laid := [("math/bits.deBruijn64tab", laid_math_bits_deBruijn64tab)] }
def GraphComponentsSaid : Prop := graphComponentsRow.holds Tryd.pinned (OpenSpec.ofChange graphComponentsSpec)

/-- ITS FALSE NEIGHBOUR: 'it returns false'. Refute it at one input. -/
def graphComponentsWrong : ChangeSpec := { name := "graphComponents", fn := fun _ => fun
  | [d1, d2] => { results := [.lit (.bool false)], args := [d1, d2] }
  | _ => none }
def GraphComponentsWrongFalsely : Prop := graphComponentsRow.holds Tryd.pinned (OpenSpec.ofChange graphComponentsWrong)

/-- 'simprooflaw03.GraphAcyclic': WHATEVER THE INPUT: true; the input reads as it did. -/
def graphAcyclicSpec : ChangeSpec := { name := "graphAcyclic", fn := fun _ => fun
  | [d1, d2] => { results := [.lit (.bool true)], args := [d1, d2] }
  | _ => none }
def graphAcyclicRow : OpenClaim := { program := "ytdebnnigbbjbcaadoor", sum := "dc1cc65bd40f1b0aabd04182b1b320363c24ee9e10e65f3509d1fd4ea55dc53c", func := "simproof/simprooflaw03.GraphAcyclic", spec := "graphAcyclic", unfollowed := true, recurses := true, named := ["math/bits.deBruijn64tab"], apart := false, laid := [("math/bits.deBruijn64tab", laid_math_bits_deBruijn64tab)] }
def GraphAcyclicSaid : Prop := graphAcyclicRow.holds Tryd.pinned (OpenSpec.ofChange graphAcyclicSpec)

/-- ITS FALSE NEIGHBOUR: 'it returns false'. Refute it at one input. -/
def graphAcyclicWrong : ChangeSpec := { name := "graphAcyclic", fn := fun _ => fun
  | [d1, d2] => { results := [.lit (.bool false)], args := [d1, d2] }
  | _ => none }
def GraphAcyclicWrongFalsely : Prop := graphAcyclicRow.holds Tryd.pinned (OpenSpec.ofChange graphAcyclicWrong)

/-- 'simprooflaw03.GraphClosure': WHATEVER THE INPUT: true; the input reads as it did. -/
def graphClosureSpec : ChangeSpec := { name := "graphClosure", fn := fun _ => fun
  | [d1, d2, d3, d4] => { results := [.lit (.bool true)], args := [d1, d2, d3, d4] }
  | _ => none }
def graphClosureRow : OpenClaim := { program := "ytdebnnigbbjbcaadoor", sum := "dc1cc65bd40f1b0aabd04182b1b320363c24ee9e10e65f3509d1fd4ea55dc53c", func := "simproof/simprooflaw03.GraphClosure", spec := "graphClosure", unfollowed := true, recurses := true, named := ["math/bits.deBruijn64tab"], apart := false, laid := [("math/bits.deBruijn64tab", laid_math_bits_deBruijn64tab)] }
def GraphClosureSaid : Prop := graphClosureRow.holds Tryd.pinned (OpenSpec.ofChange graphClosureSpec)

/-- ITS FALSE NEIGHBOUR: 'it returns false'. Refute it at one input. -/
def graphClosureWrong : ChangeSpec := { name := "graphClosure", fn := fun _ => fun
  | [d1, d2, d3, d4] => { results := [.lit (.bool false)], args := [d1, d2, d3, d4] }
  | _ => none }
def GraphClosureWrongFalsely : Prop := graphClosureRow.holds Tryd.pinned (OpenSpec.ofChange graphClosureWrong)

/-- 'simprooflaw03.GraphExtends': WHATEVER THE INPUT: true; the input reads as it did. -/
def graphExtendsSpec : ChangeSpec := { name := "graphExtends", fn := fun _ => fun
  | [d1, d2, d3, d4] => { results := [.lit (.bool true)], args := [d1, d2, d3, d4] }
  | _ => none }
def graphExtendsRow : OpenClaim := { program := "ytdebnnigbbjbcaadoor", sum := "dc1cc65bd40f1b0aabd04182b1b320363c24ee9e10e65f3509d1fd4ea55dc53c", func := "simproof/simprooflaw03.GraphExtends", spec := "graphExtends", unfollowed := true, recurses := true, named := ["math/bits.deBruijn64tab"], apart := false, laid := [("math/bits.deBruijn64tab", laid_math_bits_deBruijn64tab)] }
def GraphExtendsSaid : Prop := graphExtendsRow.holds Tryd.pinned (OpenSpec.ofChange graphExtendsSpec)

/-- ITS FALSE NEIGHBOUR: 'it returns false'. Refute it at one input. -/
def graphExtendsWrong : ChangeSpec := { name := "graphExtends", fn := fun _ => fun
  | [d1, d2, d3, d4] => { results := [.lit (.bool false)], args := [d1, d2, d3, d4] }
  | _ => none }
def GraphExtendsWrongFalsely : Prop := graphExtendsRow.holds Tryd.pinned (OpenSpec.ofChange graphExtendsWrong)

/-- 'simprooflaw03.GraphEdges': WHATEVER THE INPUT: true; the input reads as it did. -/
def graphEdgesSpec : ChangeSpec := { name := "graphEdges", fn := fun _ => fun
  | [d1, d2, d3] => { results := [.lit (.bool true)], args := [d1, d2, d3] }
  | _ => none }
def graphEdgesRow : OpenClaim := { program := "ytdebnnigbbjbcaadoor", sum := "dc1cc65bd40f1b0aabd04182b1b320363c24ee9e10e65f3509d1fd4ea55dc53c", func := "simproof/simprooflaw03.GraphEdges", spec := "graphEdges", unfollowed := true, recurses := true, named := ["math/bits.deBruijn64tab"], apart := false, laid := [("math/bits.deBruijn64tab", laid_math_bits_deBruijn64tab)] }
def GraphEdgesSaid : Prop := graphEdgesRow.holds Tryd.pinned (OpenSpec.ofChange graphEdgesSpec)

/-- ITS FALSE NEIGHBOUR: 'it returns false'. Refute it at one input. -/
def graphEdgesWrong : ChangeSpec := { name := "graphEdges", fn := fun _ => fun
  | [d1, d2, d3] => { results := [.lit (.bool false)], args := [d1, d2, d3] }
  | _ => none }
def GraphEdgesWrongFalsely : Prop := graphEdgesRow.holds Tryd.pinned (OpenSpec.ofChange graphEdgesWrong)

/- THE SECOND FORM. 'bulk': how many values and letters a reading holds, each counted each time it is reached (what is shared counts as often as it is met; a slice's spare places count too). A statement '..UptoSaid' is the law's where the arguments, and the package variables that the reading takes, are together of bulk at most 1048576: NARROWER than '..Said'. Prove '..Said' where nothing that the law and all that it calls make is longer than what came in: it says more and counts as full. Else prove '..UptoSaid'. A law counts once. -/
mutual
def uptoBulk {H : Type} : DataW H → Nat
  | .lit (.string bytes) => bytes.length + 1
  | .lit _ => 1
  | .nil => 1
  | .ptr d => uptoBulk d + 1
  | .slice elems spare => uptoBulkAll elems + uptoBulkAll spare + 1
  | .agg parts => uptoBulkAll parts + 1
  | .iface _ d => uptoBulk d + 1
  | .map entries => uptoBulkEntries entries + 1
  | .held _ => 1
def uptoBulkAll {H : Type} : List (DataW H) → Nat
  | [] => 0
  | d :: r => uptoBulk d + uptoBulkAll r
def uptoBulkEntries {H : Type} : List (Lit × DataW H) → Nat
  | [] => 0
  | x :: r => uptoBulkEntry x + uptoBulkEntries r
def uptoBulkEntry {H : Type} : Lit × DataW H → Nat
  | (.string bytes, d) => bytes.length + uptoBulk d + 1
  | (_, d) => uptoBulk d + 1
 end
def uptoSmall : (H : Type) → List (DataW H) → Bool := fun _ ds => decide (uptoBulkAll ds ≤ 1048576)
def OpenSpec.upto (s : _root_.Go.ChangeSpec) : _root_.Go.OpenSpec := { _root_.Go.OpenSpec.ofChange s with cond := some uptoSmall }

/-- 'simprooflaw03.GraphTopo', WHERE WHAT IT READS IS OF BULK AT MOST 1048576: true; the input reads as it did. -/
def graphTopoUptoRow : OpenClaim := { program := "ytdebnnigbbjbcaadoor", sum := "dc1cc65bd40f1b0aabd04182b1b320363c24ee9e10e65f3509d1fd4ea55dc53c", func := "simproof/simprooflaw03.GraphTopo", spec := "graphTopo", unfollowed := true, recurses := true, named := ["math/bits.deBruijn64tab"], apart := false, laid := [("math/bits.deBruijn64tab", laid_math_bits_deBruijn64tab)], narrowed := true }
def GraphTopoUptoSaid : Prop := graphTopoUptoRow.holds Tryd.pinned (OpenSpec.upto graphTopoSpec)

/-- 'simprooflaw03.GraphReach', WHERE WHAT IT READS IS OF BULK AT MOST 1048576: true; the input reads as it did. -/
def graphReachUptoRow : OpenClaim := { program := "ytdebnnigbbjbcaadoor", sum := "dc1cc65bd40f1b0aabd04182b1b320363c24ee9e10e65f3509d1fd4ea55dc53c", func := "simproof/simprooflaw03.GraphReach", spec := "graphReach", unfollowed := true, recurses := true, named := ["math/bits.deBruijn64tab"], apart := false, laid := [("math/bits.deBruijn64tab", laid_math_bits_deBruijn64tab)], narrowed := true }
def GraphReachUptoSaid : Prop := graphReachUptoRow.holds Tryd.pinned (OpenSpec.upto graphReachSpec)

/-- 'simprooflaw03.GraphCycle', WHERE WHAT IT READS IS OF BULK AT MOST 1048576: true; the input reads as it did. -/
def graphCycleUptoRow : OpenClaim := { program := "ytdebnnigbbjbcaadoor", sum := "dc1cc65bd40f1b0aabd04182b1b320363c24ee9e10e65f3509d1fd4ea55dc53c", func := "simproof/simprooflaw03.GraphCycle", spec := "graphCycle", unfollowed := true, recurses := true, named := ["math/bits.deBruijn64tab"], apart := false, laid := [("math/bits.deBruijn64tab", laid_math_bits_deBruijn64tab)], narrowed := true }
def GraphCycleUptoSaid : Prop := graphCycleUptoRow.holds Tryd.pinned (OpenSpec.upto graphCycleSpec)

/-- 'simprooflaw03.GraphComponents', WHERE WHAT IT READS IS OF BULK AT MOST 1048576: true; the input reads as it did. -/
def graphComponentsUptoRow : OpenClaim := { program := "ytdebnnigbbjbcaadoor", sum := "dc1cc65bd40f1b0aabd04182b1b320363c24ee9e10e65f3509d1fd4ea55dc53c", func := "simproof/simprooflaw03.GraphComponents", spec := "graphComponents", unfollowed := true, recurses := true, named := ["math/bits.deBruijn64tab"], apart := false, laid := [("math/bits.deBruijn64tab", laid_math_bits_deBruijn64tab)], narrowed := true }
def GraphComponentsUptoSaid : Prop := graphComponentsUptoRow.holds Tryd.pinned (OpenSpec.upto graphComponentsSpec)

/-- 'simprooflaw03.GraphAcyclic', WHERE WHAT IT READS IS OF BULK AT MOST 1048576: true; the input reads as it did. -/
def graphAcyclicUptoRow : OpenClaim := { program := "ytdebnnigbbjbcaadoor", sum := "dc1cc65bd40f1b0aabd04182b1b320363c24ee9e10e65f3509d1fd4ea55dc53c", func := "simproof/simprooflaw03.GraphAcyclic", spec := "graphAcyclic", unfollowed := true, recurses := true, named := ["math/bits.deBruijn64tab"], apart := false, laid := [("math/bits.deBruijn64tab", laid_math_bits_deBruijn64tab)], narrowed := true }
def GraphAcyclicUptoSaid : Prop := graphAcyclicUptoRow.holds Tryd.pinned (OpenSpec.upto graphAcyclicSpec)

/-- 'simprooflaw03.GraphClosure', WHERE WHAT IT READS IS OF BULK AT MOST 1048576: true; the input reads as it did. -/
def graphClosureUptoRow : OpenClaim := { program := "ytdebnnigbbjbcaadoor", sum := "dc1cc65bd40f1b0aabd04182b1b320363c24ee9e10e65f3509d1fd4ea55dc53c", func := "simproof/simprooflaw03.GraphClosure", spec := "graphClosure", unfollowed := true, recurses := true, named := ["math/bits.deBruijn64tab"], apart := false, laid := [("math/bits.deBruijn64tab", laid_math_bits_deBruijn64tab)], narrowed := true }
def GraphClosureUptoSaid : Prop := graphClosureUptoRow.holds Tryd.pinned (OpenSpec.upto graphClosureSpec)

/-- 'simprooflaw03.GraphExtends', WHERE WHAT IT READS IS OF BULK AT MOST 1048576: true; the input reads as it did. -/
def graphExtendsUptoRow : OpenClaim := { program := "ytdebnnigbbjbcaadoor", sum := "dc1cc65bd40f1b0aabd04182b1b320363c24ee9e10e65f3509d1fd4ea55dc53c", func := "simproof/simprooflaw03.GraphExtends", spec := "graphExtends", unfollowed := true, recurses := true, named := ["math/bits.deBruijn64tab"], apart := false, laid := [("math/bits.deBruijn64tab", laid_math_bits_deBruijn64tab)], narrowed := true }
def GraphExtendsUptoSaid : Prop := graphExtendsUptoRow.holds Tryd.pinned (OpenSpec.upto graphExtendsSpec)

/-- 'simprooflaw03.GraphEdges', WHERE WHAT IT READS IS OF BULK AT MOST 1048576: true; the input reads as it did. -/
def graphEdgesUptoRow : OpenClaim := { program := "ytdebnnigbbjbcaadoor", sum := "dc1cc65bd40f1b0aabd04182b1b320363c24ee9e10e65f3509d1fd4ea55dc53c", func := "simproof/simprooflaw03.GraphEdges", spec := "graphEdges", unfollowed := true, recurses := true, named := ["math/bits.deBruijn64tab"], apart := false, laid := [("math/bits.deBruijn64tab", laid_math_bits_deBruijn64tab)], narrowed := true }
def GraphEdgesUptoSaid : Prop := graphEdgesUptoRow.holds Tryd.pinned (OpenSpec.upto graphEdgesSpec)

end Rows
end Go.Proofs.YtdebnnigbbjbcaaDoor
