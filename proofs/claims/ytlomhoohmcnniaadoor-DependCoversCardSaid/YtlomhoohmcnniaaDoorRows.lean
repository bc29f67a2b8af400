/-
  NARROWER THAN 'FOR EVERY INPUT', by the rows' own cells (each row's printed sentence says how): DependOrder: laid · DependSwap: laid · DependRace: laid · DependSymmetric: laid · DependLinear: laid · DependCovers: laid · DependChains: laid.
  DERIVED. THE GIVEN ROWS OF THIS SEAT. 7 by the template 'for every input the law returns true; each argument reads behind the call as it read before'; 0 by the template 'total and deterministic' (their statements: YtlomhoohmcnniaaDoorTotals.lean).
  GIVEN WITH THE SEED: the statements are not yours to turn. If you find one false, say at which input.
  Laid BY PROGRAM, IN A SANDBOX (cutbox-rows.mjs): the forced cells as the released guide's own fill.sh prints them over the translation 1cbf72bca942efca… (all of the seat's roots in one cut). By AI agents, Wed Nov 11 2026. No macro, syntax, notation, axiom, sorry.
-/
import Derived.Test.YtlomhoohmcnniaaDoorChecked
import GoSem.Claim
import GoSem.ClaimJoined
import GoSem.ClaimMapViews
import Derived.JoinedTies
import Derived.KernelRfl
namespace Go.Proofs.YtlomhoohmcnniaaDoor
/- THE CELL 'sum', in the pinned program and in every row, IS THE sha256 OF THE DUMP (.gsa) THAT YtlomhoohmcnniaaDoorProg.lean LOADS. Nothing in Lean hashes anything: it is a label: what it is worth is what the hold of that sum in a sandbox is worth. -/
noncomputable def Tryd.pinned : Pinned := { name := "ytlomhoohmcnniaadoor", sum := "1cbf72bca942efca5465981d45ca0b5d58e688f845c0c8cda28c34684d8180b7", checked := Tryd.checked }
namespace Rows
def none {H : Type} : Left H := { results := [], args := [] }

/- WHAT THE LISTED PACKAGE-LEVEL VARIABLES READ AS WHEN THE CALL BEGINS. Each datum BY PROGRAM (the guide's laid-datum.mjs) off the statement by which the dump's own 'gosem.cut.vars' lays the variable. In a bare row this is a premise. The card (YtlomhoohmcnniaaDoorCards.lean) ties it to the program's text. -/
def laid_math_bits_deBruijn64tab {H : Type} : DataW H := .agg [.lit (.int .u8 0), .lit (.int .u8 1), .lit (.int .u8 56), .lit (.int .u8 2), .lit (.int .u8 57), .lit (.int .u8 49), .lit (.int .u8 28), .lit (.int .u8 3), .lit (.int .u8 61), .lit (.int .u8 58), .lit (.int .u8 42), .lit (.int .u8 50), .lit (.int .u8 38), .lit (.int .u8 29), .lit (.int .u8 17), .lit (.int .u8 4), .lit (.int .u8 62), .lit (.int .u8 47), .lit (.int .u8 59), .lit (.int .u8 36), .lit (.int .u8 45), .lit (.int .u8 43), .lit (.int .u8 51), .lit (.int .u8 22), .lit (.int .u8 53), .lit (.int .u8 39), .lit (.int .u8 33), .lit (.int .u8 30), .lit (.int .u8 24), .lit (.int .u8 18), .lit (.int .u8 12), .lit (.int .u8 5), .lit (.int .u8 63), .lit (.int .u8 55), .lit (.int .u8 48), .lit (.int .u8 27), .lit (.int .u8 60), .lit (.int .u8 41), .lit (.int .u8 37), .lit (.int .u8 16), .lit (.int .u8 46), .lit (.int .u8 35), .lit (.int .u8 44), .lit (.int .u8 21), .lit (.int .u8 52), .lit (.int .u8 32), .lit (.int .u8 23), .lit (.int .u8 11), .lit (.int .u8 54), .lit (.int .u8 26), .lit (.int .u8 40), .lit (.int .u8 15), .lit (.int .u8 34), .lit (.int .u8 20), .lit (.int .u8 31), .lit (.int .u8 10), .lit (.int .u8 25), .lit (.int .u8 14), .lit (.int .u8 19), .lit (.int .u8 9), .lit (.int .u8 13), .lit (.int .u8 8), .lit (.int .u8 7), .lit (.int .u8 6)]

/-- 'simprooflaw16.DependOrder': WHATEVER THE INPUT: true; the input reads as it did. -/
def dependOrderSpec : ChangeSpec := { name := "dependOrder", fn := fun _ => fun
  | [d] => { results := [.lit (.bool true)], args := [d] }
  | _ => none }
def dependOrderRow : OpenClaim := { program := "ytlomhoohmcnniaadoor", sum := "1cbf72bca942efca5465981d45ca0b5d58e688f845c0c8cda28c34684d8180b7", func := "simproof/simprooflaw16.DependOrder", spec := "dependOrder", unfollowed := true, recurses := true, named := ["math/bits.deBruijn64tab"], apart := false, laid := [("math/bits.deBruijn64tab", laid_math_bits_deBruijn64tab)] }
def DependOrderSaid : Prop := dependOrderRow.holds Tryd.pinned (OpenSpec.ofChange dependOrderSpec)

/-- ITS FALSE NEIGHBOUR: 'it returns false'. Refute it at one input. -/
def dependOrderWrong : ChangeSpec := { name := "dependOrder", fn := fun _ => fun
  | [d] => { results := [.lit (.bool false)], args := [d] }
  | _ => none }
def DependOrderWrongFalsely : Prop := dependOrderRow.holds Tryd.pinned (OpenSpec.ofChange dependOrderWrong)

/-- 'simprooflaw16.DependSwap': WHATEVER THE INPUT: true; the input reads as it did. -/
def dependSwapSpec : ChangeSpec := { name := "dependSwap", fn := fun _ => fun
  | [d1, d2] => { results := [.lit (.bool true)], args := [d1, d2] }
  | _ => none }
def dependSwapRow : OpenClaim := { program := "ytlomhoohmcnniaadoor", sum := "1cbf72bca942efca5465981d45ca0b5d58e688f845c0c8cda28c34684d8180b7", func := "simproof/simprooflaw16.DependSwap", spec := "dependSwap", unfollowed := true, recurses := true, named := ["math/bits.deBruijn64tab"], apart := false, laid := [("math/bits.deBruijn64tab", laid_math_bits_deBruijn64tab)] }
def DependSwapSaid : Prop := dependSwapRow.holds Tryd.pinned (OpenSpec.ofChange dependSwapSpec)

/-- ITS FALSE NEIGHBOUR: 'it returns false'. Refute it at one input. -/
def dependSwapWrong : ChangeSpec := { name := "dependSwap", fn := fun _ => fun
  | [d1, d2] => { results := [.lit (.bool false)], args := [d1, d2] }
  | _ => none }
def DependSwapWrongFalsely : Prop := dependSwapRow.holds Tryd.pinned (OpenSpec.ofChange dependSwapWrong)

/-- 'simprooflaw16.DependRace': WHATEVER THE INPUT: true; the input reads as it did. -/
def dependRaceSpec : ChangeSpec := { name := "dependRace", fn := fun _ => fun
  | [d] => { results := [.lit (.bool true)], args := [d] }
  | _ => none }
def dependRaceRow : OpenClaim := { program := "ytlomhoohmcnniaadoor", sum := "1cbf72bca942efca5465981d45ca0b5d58e688f845c0c8cda28c34684d8180b7", func := "simproof/simprooflaw16.DependRace", spec := "dependRace", unfollowed := true, recurses := true, named := ["math/bits.deBruijn64tab"], apart := false, laid := [("math/bits.deBruijn64tab", laid_math_bits_deBruijn64tab)] }
def DependRaceSaid : Prop := dependRaceRow.holds Tryd.pinned (OpenSpec.ofChange dependRaceSpec)

/-- ITS FALSE NEIGHBOUR: 'it returns false'. Refute it at one input. -/
def dependRaceWrong : ChangeSpec := { name := "dependRace", fn := fun _ => fun
  | [d] => { results := [.lit (.bool false)], args := [d] }
  | _ => none }
def DependRaceWrongFalsely : Prop := dependRaceRow.holds Tryd.pinned (OpenSpec.ofChange dependRaceWrong)

/-- 'simprooflaw16.DependSymmetric': WHATEVER THE INPUT: true; the input reads as it did. -/
def dependSymmetricSpec : ChangeSpec := { name := "dependSymmetric", fn := fun _ => fun
  | [d1, d2] => { results := [.lit (.bool true)], args := [d1, d2] }
  | _ => none }
def dependSymmetricRow : OpenClaim := { program := "ytlomhoohmcnniaadoor", sum := "1cbf72bca942efca5465981d45ca0b5d58e688f845c0c8cda28c34684d8180b7", func := "simproof/simprooflaw16.DependSymmetric", spec := "dependSymmetric", unfollowed := true, recurses := true, named := ["math/bits.deBruijn64tab"], apart := false, laid := [("math/bits.deBruijn64tab", laid_math_bits_deBruijn64tab)] }
def DependSymmetricSaid : Prop := dependSymmetricRow.holds Tryd.pinned (OpenSpec.ofChange dependSymmetricSpec)

/-- ITS FALSE NEIGHBOUR: 'it returns false'. Refute it at one input. -/
def dependSymmetricWrong : ChangeSpec := { name := "dependSymmetric", fn := fun _ => fun
  | [d1, d2] => { results := [.lit (.bool false)], args := [d1, d2] }
  | _ => none }
def DependSymmetricWrongFalsely : Prop := dependSymmetricRow.holds Tryd.pinned (OpenSpec.ofChange dependSymmetricWrong)

/-- 'simprooflaw16.DependLinear': WHATEVER THE INPUT: true; the input reads as it did. -/
def dependLinearSpec : ChangeSpec := { name := "dependLinear", fn := fun _ => fun
  | [d1, d2] => { results := [.lit (.bool true)], args := [d1, d2] }
  | _ => none }
def dependLinearRow : OpenClaim := { program := "ytlomhoohmcnniaadoor", sum := "1cbf72bca942efca5465981d45ca0b5d58e688f845c0c8cda28c34684d8180b7", func := "simproof/simprooflaw16.DependLinear", spec := "dependLinear", unfollowed := true, recurses := true, named := ["math/bits.deBruijn64tab"], apart := false, laid := [("math/bits.deBruijn64tab", laid_math_bits_deBruijn64tab)] }
def DependLinearSaid : Prop := dependLinearRow.holds Tryd.pinned (OpenSpec.ofChange dependLinearSpec)

/-- ITS FALSE NEIGHBOUR: 'it returns false'. Refute it at one input. -/
def dependLinearWrong : ChangeSpec := { name := "dependLinear", fn := fun _ => fun
  | [d1, d2] => { results := [.lit (.bool false)], args := [d1, d2] }
  | _ => none }
def DependLinearWrongFalsely : Prop := dependLinearRow.holds Tryd.pinned (OpenSpec.ofChange dependLinearWrong)

/-- 'simprooflaw16.DependCovers': WHATEVER THE INPUT: true; the input reads as it did. -/
def dependCoversSpec : ChangeSpec := { name := "dependCovers", fn := fun _ => fun
  | [d] => { results := [.lit (.bool true)], args := [d] }
  | _ => none }
def dependCoversRow : OpenClaim := { program := "ytlomhoohmcnniaadoor", sum := "1cbf72bca942efca5465981d45ca0b5d58e688f845c0c8cda28c34684d8180b7", func := "simproof/simprooflaw16.DependCovers", spec := "dependCovers", unfollowed := true, recurses := true, named := ["math/bits.deBruijn64tab"], apart := false, laid := [("math/bits.deBruijn64tab", laid_math_bits_deBruijn64tab)] }
def DependCoversSaid : Prop := dependCoversRow.holds Tryd.pinned (OpenSpec.ofChange dependCoversSpec)

/-- ITS FALSE NEIGHBOUR: 'it returns false'. Refute it at one input. -/
def dependCoversWrong : ChangeSpec := { name := "dependCovers", fn := fun _ => fun
  | [d] => { results := [.lit (.bool false)], args := [d] }
  | _ => none }
def DependCoversWrongFalsely : Prop := dependCoversRow.holds Tryd.pinned (OpenSpec.ofChange dependCoversWrong)

/-- 'simprooflaw16.DependChains': WHATEVER THE INPUT: true; the input reads as it did. -/
def dependChainsSpec : ChangeSpec := { name := "dependChains", fn := fun _ => fun
  | [d] => { results := [.lit (.bool true)], args := [d] }
  | _ => none }
def dependChainsRow : OpenClaim := { program := "ytlomhoohmcnniaadoor", sum := "1cbf72bca942efca5465981d45ca0b5d58e688f845c0c8cda28c34684d8180b7", func := "simproof/simprooflaw16.DependChains", spec := "dependChains", unfollowed := true, recurses := true, named := ["math/bits.deBruijn64tab"], apart := false, laid := [("math/bits.deBruijn64tab", laid_math_bits_deBruijn64tab)] }
def DependChainsSaid : Prop := dependChainsRow.holds Tryd.pinned (OpenSpec.ofChange dependChainsSpec)

/-- ITS FALSE NEIGHBOUR: 'it returns false'. Refute it at one input. -/
def dependChainsWrong : ChangeSpec := { name := "dependChains", fn := fun _ => fun
  | [d] => { results := [.lit (.bool false)], args := [d] }
  | _ => none }
def DependChainsWrongFalsely : Prop := dependChainsRow.holds Tryd.pinned (OpenSpec.ofChange dependChainsWrong)

/- THE SECOND FORM. 'bulk': how many values and letters a reading holds, each counted each time it is reached (what is shared counts as often as it is met; a slice's spare places count too). A statement '..UptoSaid' is the law's where the arguments, and the package variables that the reading takes, are together of bulk at most 1048576: NARROWER than '..Said'. Prove '..Said' where nothing that the law and all that it calls make is longer than what came in: it says more and counts as full. Else prove '..UptoSaid'. A law counts once. -/
mutual
def uptoBulk {H : Type} : DataW H → Nat
  | .lit (.string bytes) => bytes.length + 1
  | .lit _ => 1
  | .nil => 1
  | .ptr d => uptoBulk d + 1
  | .slice elems spare => uptoBulkAll elems + uptoBulkAll spare + 1
  | .agg parts => uptoBulkAll parts + 1
  | .iface _ d => uptoBulk d + 1
  | .map entries => uptoBulkEntries entries + 1
  | .held _ => 1
def uptoBulkAll {H : Type} : List (DataW H) → Nat
  | [] => 0
  | d :: r => uptoBulk d + uptoBulkAll r
def uptoBulkEntries {H : Type} : List (Lit × DataW H) → Nat
  | [] => 0
  | x :: r => uptoBulkEntry x + uptoBulkEntries r
def uptoBulkEntry {H : Type} : Lit × DataW H → Nat
  | (.string bytes, d) => bytes.length + uptoBulk d + 1
  | (_, d) => uptoBulk d + 1
 end
def uptoSmall : (H : Type) → List (DataW H) → Bool := fun _ ds => decide (uptoBulkAll ds ≤ 1048576)
def OpenSpec.upto (s : _root_.Go.ChangeSpec) : _root_.Go.OpenSpec := { _root_.Go.OpenSpec.ofChange s with cond := some uptoSmall }

/-- 'simprooflaw16.DependOrder', WHERE WHAT IT READS IS OF BULK AT MOST 1048576: true; the input reads as it did. -/
def dependOrderUptoRow : OpenClaim := { program := "ytlomhoohmcnniaadoor", sum := "1cbf72bca942efca5465981d45ca0b5d58e688f845c0c8cda28c34684d8180b7", func := "simproof/simprooflaw16.DependOrder", spec := "dependOrder", unfollowed := true, recurses := true, named := ["math/bits.deBruijn64tab"], apart := false, laid := [("math/bits.deBruijn64tab", laid_math_bits_deBruijn64tab)], narrowed := true }
def DependOrderUptoSaid : Prop := dependOrderUptoRow.holds Tryd.pinned (OpenSpec.upto dependOrderSpec)

/-- 'simprooflaw16.DependSwap', WHERE WHAT IT READS IS OF BULK AT MOST 1048576: true; the input reads as it did. -/
def dependSwapUptoRow : OpenClaim := { program := "ytlomhoohmcnniaadoor", sum := "1cbf72bca942efca5465981d45ca0b5d58e688f845c0c8cda28c34684d8180b7", func := "simproof/simprooflaw16.DependSwap", spec := "dependSwap", unfollowed := true, recurses := true, named := ["math/bits.deBruijn64tab"], apart := false, laid := [("math/bits.deBruijn64tab", laid_math_bits_deBruijn64tab)], narrowed := true }
def DependSwapUptoSaid : Prop := dependSwapUptoRow.holds Tryd.pinned (OpenSpec.upto dependSwapSpec)

/-- 'simprooflaw16.DependRace', WHERE WHAT IT READS IS OF BULK AT MOST 1048576: true; the input reads as it did. -/
def dependRaceUptoRow : OpenClaim := { program := "ytlomhoohmcnniaadoor", sum := "1cbf72bca942efca5465981d45ca0b5d58e688f845c0c8cda28c34684d8180b7", func := "simproof/simprooflaw16.DependRace", spec := "dependRace", unfollowed := true, recurses := true, named := ["math/bits.deBruijn64tab"], apart := false, laid := [("math/bits.deBruijn64tab", laid_math_bits_deBruijn64tab)], narrowed := true }
def DependRaceUptoSaid : Prop := dependRaceUptoRow.holds Tryd.pinned (OpenSpec.upto dependRaceSpec)

/-- 'simprooflaw16.DependSymmetric', WHERE WHAT IT READS IS OF BULK AT MOST 1048576: true; the input reads as it did. -/
def dependSymmetricUptoRow : OpenClaim := { program := "ytlomhoohmcnniaadoor", sum := "1cbf72bca942efca5465981d45ca0b5d58e688f845c0c8cda28c34684d8180b7", func := "simproof/simprooflaw16.DependSymmetric", spec := "dependSymmetric", unfollowed := true, recurses := true, named := ["math/bits.deBruijn64tab"], apart := false, laid := [("math/bits.deBruijn64tab", laid_math_bits_deBruijn64tab)], narrowed := true }
def DependSymmetricUptoSaid : Prop := dependSymmetricUptoRow.holds Tryd.pinned (OpenSpec.upto dependSymmetricSpec)

/-- 'simprooflaw16.DependLinear', WHERE WHAT IT READS IS OF BULK AT MOST 1048576: true; the input reads as it did. -/
def dependLinearUptoRow : OpenClaim := { program := "ytlomhoohmcnniaadoor", sum := "1cbf72bca942efca5465981d45ca0b5d58e688f845c0c8cda28c34684d8180b7", func := "simproof/simprooflaw16.DependLinear", spec := "dependLinear", unfollowed := true, recurses := true, named := ["math/bits.deBruijn64tab"], apart := false, laid := [("math/bits.deBruijn64tab", laid_math_bits_deBruijn64tab)], narrowed := true }
def DependLinearUptoSaid : Prop := dependLinearUptoRow.holds Tryd.pinned (OpenSpec.upto dependLinearSpec)

/-- 'simprooflaw16.DependCovers', WHERE WHAT IT READS IS OF BULK AT MOST 1048576: true; the input reads as it did. -/
def dependCoversUptoRow : OpenClaim := { program := "ytlomhoohmcnniaadoor", sum := "1cbf72bca942efca5465981d45ca0b5d58e688f845c0c8cda28c34684d8180b7", func := "simproof/simprooflaw16.DependCovers", spec := "dependCovers", unfollowed := true, recurses := true, named := ["math/bits.deBruijn64tab"], apart := false, laid := [("math/bits.deBruijn64tab", laid_math_bits_deBruijn64tab)], narrowed := true }
def DependCoversUptoSaid : Prop := dependCoversUptoRow.holds Tryd.pinned (OpenSpec.upto dependCoversSpec)

/-- 'simprooflaw16.DependChains', WHERE WHAT IT READS IS OF BULK AT MOST 1048576: true; the input reads as it did. -/
def dependChainsUptoRow : OpenClaim := { program := "ytlomhoohmcnniaadoor", sum := "1cbf72bca942efca5465981d45ca0b5d58e688f845c0c8cda28c34684d8180b7", func := "simproof/simprooflaw16.DependChains", spec := "dependChains", unfollowed := true, recurses := true, named := ["math/bits.deBruijn64tab"], apart := false, laid := [("math/bits.deBruijn64tab", laid_math_bits_deBruijn64tab)], narrowed := true }
def DependChainsUptoSaid : Prop := dependChainsUptoRow.holds Tryd.pinned (OpenSpec.upto dependChainsSpec)

end Rows
end Go.Proofs.YtlomhoohmcnniaaDoor
