/-
  NARROWER THAN 'FOR EVERY INPUT', by the rows' own cells (each row's printed sentence says how): PosetNew: laid · PosetLimits: laid · PosetOrder: laid · PosetCovers: laid · PosetLinear: laid · PosetExtensions: laid · PosetDown: laid · PosetSwaps: laid · PosetGraph: laid · PosetOwns: laid.
  DERIVED. THE GIVEN ROWS OF THIS SEAT. 10 by the template 'for every input the law returns true; each argument reads behind the call as it read before'; 0 by the template 'total and deterministic' (their statements: YtlgdcbhdmffnoaaDoorTotals.lean).
  GIVEN WITH THE SEED: the statements are not yours to turn. If you find one false, say at which input.
  Laid BY PROGRAM, IN A SANDBOX (cutbox-rows.mjs): the forced cells as the released guide's own fill.sh prints them over the translation 1b450db4591f04d4… (all of the seat's roots in one cut). By AI agents, Wed Nov 11 2026. No macro, syntax, notation, axiom, sorry.
-/
import Derived.Test.YtlgdcbhdmffnoaaDoorChecked
import GoSem.Claim
import GoSem.ClaimJoined
import GoSem.ClaimMapViews
import Derived.JoinedTies
import Derived.KernelRfl
namespace Go.Proofs.YtlgdcbhdmffnoaaDoor
/- THE CELL 'sum', in the pinned program and in every row, IS THE sha256 OF THE DUMP (.gsa) THAT YtlgdcbhdmffnoaaDoorProg.lean LOADS. Nothing in Lean hashes anything: it is a label: what it is worth is what the hold of that sum in a sandbox is worth. -/
noncomputable def Tryd.pinned : Pinned := { name := "ytlgdcbhdmffnoaadoor", sum := "1b450db4591f04d41ee338221a9521a69cfc2995b9751c9fd0002868afeb9256", checked := Tryd.checked }
namespace Rows
def none {H : Type} : Left H := { results := [], args := [] }

/- WHAT THE LISTED PACKAGE-LEVEL VARIABLES READ AS WHEN THE CALL BEGINS. Each datum BY PROGRAM (the guide's laid-datum.mjs) off the statement by which the dump's own 'gosem.cut.vars' lays the variable. In a bare row this is a premise. The card (YtlgdcbhdmffnoaaDoorCards.lean) ties it to the program's text. -/
def laid_math_bits_deBruijn64tab {H : Type} : DataW H := .agg [.lit (.int .u8 0), .lit (.int .u8 1), .lit (.int .u8 56), .lit (.int .u8 2), .lit (.int .u8 57), .lit (.int .u8 49), .lit (.int .u8 28), .lit (.int .u8 3), .lit (.int .u8 61), .lit (.int .u8 58), .lit (.int .u8 42), .lit (.int .u8 50), .lit (.int .u8 38), .lit (.int .u8 29), .lit (.int .u8 17), .lit (.int .u8 4), .lit (.int .u8 62), .lit (.int .u8 47), .lit (.int .u8 59), .lit (.int .u8 36), .lit (.int .u8 45), .lit (.int .u8 43), .lit (.int .u8 51), .lit (.int .u8 22), .lit (.int .u8 53), .lit (.int .u8 39), .lit (.int .u8 33), .lit (.int .u8 30), .lit (.int .u8 24), .lit (.int .u8 18), .lit (.int .u8 12), .lit (.int .u8 5), .lit (.int .u8 63), .lit (.int .u8 55), .lit (.int .u8 48), .lit (.int .u8 27), .lit (.int .u8 60), .lit (.int .u8 41), .lit (.int .u8 37), .lit (.int .u8 16), .lit (.int .u8 46), .lit (.int .u8 35), .lit (.int .u8 44), .lit (.int .u8 21), .lit (.int .u8 52), .lit (.int .u8 32), .lit (.int .u8 23), .lit (.int .u8 11), .lit (.int .u8 54), .lit (.int .u8 26), .lit (.int .u8 40), .lit (.int .u8 15), .lit (.int .u8 34), .lit (.int .u8 20), .lit (.int .u8 31), .lit (.int .u8 10), .lit (.int .u8 25), .lit (.int .u8 14), .lit (.int .u8 19), .lit (.int .u8 9), .lit (.int .u8 13), .lit (.int .u8 8), .lit (.int .u8 7), .lit (.int .u8 6)]

/-- 'simprooflaw04.PosetNew': WHATEVER THE INPUT: true; the input reads as it did. -/
def posetNewSpec : ChangeSpec := { name := "posetNew", fn := fun _ => fun
  | [d1, d2, d3, d4, d5, d6] => { results := [.lit (.bool true)], args := [d1, d2, d3, d4, d5, d6] }
  | _ => none }
def posetNewRow : OpenClaim := { program := "ytlgdcbhdmffnoaadoor", sum := "1b450db4591f04d41ee338221a9521a69cfc2995b9751c9fd0002868afeb9256", func := "simproof/simprooflaw04.PosetNew", spec := "posetNew", unfollowed := true, recurses := true, named := ["math/bits.deBruijn64tab"], apart := false, laid := [("math/bits.deBruijn64tab", laid_math_bits_deBruijn64tab)] }
def PosetNewSaid : Prop := posetNewRow.holds Tryd.pinned (OpenSpec.ofChange posetNewSpec)

/-- ITS FALSE NEIGHBOUR: 'it returns false'. Refute it at one input. -/
def posetNewWrong : ChangeSpec := { name := "posetNew", fn := fun _ => fun
  | [d1, d2, d3, d4, d5, d6] => { results := [.lit (.bool false)], args := [d1, d2, d3, d4, d5, d6] }
  | _ => none }
def PosetNewWrongFalsely : Prop := posetNewRow.holds Tryd.pinned (OpenSpec.ofChange posetNewWrong)

/-- 'simprooflaw04.PosetLimits': WHATEVER THE INPUT: true; the input reads as it did. -/
def posetLimitsSpec : ChangeSpec := { name := "posetLimits", fn := fun _ => fun
  | [d1, d2] => { results := [.lit (.bool true)], args := [d1, d2] }
  | _ => none }
def posetLimitsRow : OpenClaim := { program := "ytlgdcbhdmffnoaadoor", sum := "1b450db4591f04d41ee338221a9521a69cfc2995b9751c9fd0002868afeb9256", func := "simproof/simprooflaw04.PosetLimits", spec := "posetLimits", unfollowed := true, recurses := true, named := ["math/bits.deBruijn64tab"], apart := false, laid := [("math/bits.deBruijn64tab", laid_math_bits_deBruijn64tab)] }
def PosetLimitsSaid : Prop := posetLimitsRow.holds Tryd.pinned (OpenSpec.ofChange posetLimitsSpec)

/-- ITS FALSE NEIGHBOUR: 'it returns false'. Refute it at one input. -/
def posetLimitsWrong : ChangeSpec := { name := "posetLimits", fn := fun _ => fun
  | [d1, d2] => { results := [.lit (.bool false)], args := [d1, d2] }
  | _ => none }
def PosetLimitsWrongFalsely : Prop := posetLimitsRow.holds Tryd.pinned (OpenSpec.ofChange posetLimitsWrong)

/-- 'simprooflaw04.PosetOrder': WHATEVER THE INPUT: true; the input reads as it did. -/
def posetOrderSpec : ChangeSpec := { name := "posetOrder", fn := fun _ => fun
  | [d1, d2] => { results := [.lit (.bool true)], args := [d1, d2] }
  | _ => none }
def posetOrderRow : OpenClaim := { program := "ytlgdcbhdmffnoaadoor", sum := "1b450db4591f04d41ee338221a9521a69cfc2995b9751c9fd0002868afeb9256", func := "simproof/simprooflaw04.PosetOrder", spec := "posetOrder", unfollowed := true, recurses := true, named := ["math/bits.deBruijn64tab"], apart := false, laid := [("math/bits.deBruijn64tab", laid_math_bits_deBruijn64tab)] }
def PosetOrderSaid : Prop := posetOrderRow.holds Tryd.pinned (OpenSpec.ofChange posetOrderSpec)

/-- ITS FALSE NEIGHBOUR: 'it returns false'. Refute it at one input. -/
def posetOrderWrong : ChangeSpec := { name := "posetOrder", fn := fun _ => fun
  | [d1, d2] => { results := [.lit (.bool false)], args := [d1, d2] }
  | _ => none }
def PosetOrderWrongFalsely : Prop := posetOrderRow.holds Tryd.pinned (OpenSpec.ofChange posetOrderWrong)

/-- 'simprooflaw04.PosetCovers': WHATEVER THE INPUT: true; the input reads as it did. -/
def posetCoversSpec : ChangeSpec := { name := "posetCovers", fn := fun _ => fun
  | [d1, d2, d3] => { results := [.lit (.bool true)], args := [d1, d2, d3] }
  | _ => none }
def posetCoversRow : OpenClaim := { program := "ytlgdcbhdmffnoaadoor", sum := "1b450db4591f04d41ee338221a9521a69cfc2995b9751c9fd0002868afeb9256", func := "simproof/simprooflaw04.PosetCovers", spec := "posetCovers", unfollowed := true, recurses := true, named := ["math/bits.deBruijn64tab"], apart := false, laid := [("math/bits.deBruijn64tab", laid_math_bits_deBruijn64tab)] }
def PosetCoversSaid : Prop := posetCoversRow.holds Tryd.pinned (OpenSpec.ofChange posetCoversSpec)

/-- ITS FALSE NEIGHBOUR: 'it returns false'. Refute it at one input. -/
def posetCoversWrong : ChangeSpec := { name := "posetCovers", fn := fun _ => fun
  | [d1, d2, d3] => { results := [.lit (.bool false)], args := [d1, d2, d3] }
  | _ => none }
def PosetCoversWrongFalsely : Prop := posetCoversRow.holds Tryd.pinned (OpenSpec.ofChange posetCoversWrong)

/-- 'simprooflaw04.PosetLinear': WHATEVER THE INPUT: true; the input reads as it did. -/
def posetLinearSpec : ChangeSpec := { name := "posetLinear", fn := fun _ => fun
  | [d1, d2, d3] => { results := [.lit (.bool true)], args := [d1, d2, d3] }
  | _ => none }
def posetLinearRow : OpenClaim := { program := "ytlgdcbhdmffnoaadoor", sum := "1b450db4591f04d41ee338221a9521a69cfc2995b9751c9fd0002868afeb9256", func := "simproof/simprooflaw04.PosetLinear", spec := "posetLinear", unfollowed := true, recurses := true, named := ["math/bits.deBruijn64tab"], apart := false, laid := [("math/bits.deBruijn64tab", laid_math_bits_deBruijn64tab)] }
def PosetLinearSaid : Prop := posetLinearRow.holds Tryd.pinned (OpenSpec.ofChange posetLinearSpec)

/-- ITS FALSE NEIGHBOUR: 'it returns false'. Refute it at one input. -/
def posetLinearWrong : ChangeSpec := { name := "posetLinear", fn := fun _ => fun
  | [d1, d2, d3] => { results := [.lit (.bool false)], args := [d1, d2, d3] }
  | _ => none }
def PosetLinearWrongFalsely : Prop := posetLinearRow.holds Tryd.pinned (OpenSpec.ofChange posetLinearWrong)

/-- 'simprooflaw04.PosetExtensions': WHATEVER THE INPUT: true; the input reads as it did. -/
def posetExtensionsSpec : ChangeSpec := { name := "posetExtensions", fn := fun _ => fun
  | [d1, d2, d3] => { results := [.lit (.bool true)], args := [d1, d2, d3] }
  | _ => none }
def posetExtensionsRow : OpenClaim := { program := "ytlgdcbhdmffnoaadoor", sum := "1b450db4591f04d41ee338221a9521a69cfc2995b9751c9fd0002868afeb9256", func := "simproof/simprooflaw04.PosetExtensions", spec := "posetExtensions", unfollowed := true, recurses := true, named := ["math/bits.deBruijn64tab"], apart := false, laid := [("math/bits.deBruijn64tab", laid_math_bits_deBruijn64tab)] }
def PosetExtensionsSaid : Prop := posetExtensionsRow.holds Tryd.pinned (OpenSpec.ofChange posetExtensionsSpec)

/-- ITS FALSE NEIGHBOUR: 'it returns false'. Refute it at one input. -/
def posetExtensionsWrong : ChangeSpec := { name := "posetExtensions", fn := fun _ => fun
  | [d1, d2, d3] => { results := [.lit (.bool false)], args := [d1, d2, d3] }
  | _ => none }
def PosetExtensionsWrongFalsely : Prop := posetExtensionsRow.holds Tryd.pinned (OpenSpec.ofChange posetExtensionsWrong)

/-- 'simprooflaw04.PosetDown': WHATEVER THE INPUT: true; the input reads as it did. -/
def posetDownSpec : ChangeSpec := { name := "posetDown", fn := fun _ => fun
  | [d1, d2, d3, d4] => { results := [.lit (.bool true)], args := [d1, d2, d3, d4] }
  | _ => none }
def posetDownRow : OpenClaim := { program := "ytlgdcbhdmffnoaadoor", sum := "1b450db4591f04d41ee338221a9521a69cfc2995b9751c9fd0002868afeb9256", func := "simproof/simprooflaw04.PosetDown", spec := "posetDown", unfollowed := true, recurses := true, named := ["math/bits.deBruijn64tab"], apart := false, laid := [("math/bits.deBruijn64tab", laid_math_bits_deBruijn64tab)] }
def PosetDownSaid : Prop := posetDownRow.holds Tryd.pinned (OpenSpec.ofChange posetDownSpec)

/-- ITS FALSE NEIGHBOUR: 'it returns false'. Refute it at one input. -/
def posetDownWrong : ChangeSpec := { name := "posetDown", fn := fun _ => fun
  | [d1, d2, d3, d4] => { results := [.lit (.bool false)], args := [d1, d2, d3, d4] }
  | _ => none }
def PosetDownWrongFalsely : Prop := posetDownRow.holds Tryd.pinned (OpenSpec.ofChange posetDownWrong)

/-- 'simprooflaw04.PosetSwaps': WHATEVER THE INPUT: true; the input reads as it did. -/
def posetSwapsSpec : ChangeSpec := { name := "posetSwaps", fn := fun _ => fun
  | [d1, d2, d3] => { results := [.lit (.bool true)], args := [d1, d2, d3] }
  | _ => none }
def posetSwapsRow : OpenClaim := { program := "ytlgdcbhdmffnoaadoor", sum := "1b450db4591f04d41ee338221a9521a69cfc2995b9751c9fd0002868afeb9256", func := "simproof/simprooflaw04.PosetSwaps", spec := "posetSwaps", unfollowed := true, recurses := true, named := ["math/bits.deBruijn64tab"], apart := false, laid := [("math/bits.deBruijn64tab", laid_math_bits_deBruijn64tab)] }
def PosetSwapsSaid : Prop := posetSwapsRow.holds Tryd.pinned (OpenSpec.ofChange posetSwapsSpec)

/-- ITS FALSE NEIGHBOUR: 'it returns false'. Refute it at one input. -/
def posetSwapsWrong : ChangeSpec := { name := "posetSwaps", fn := fun _ => fun
  | [d1, d2, d3] => { results := [.lit (.bool false)], args := [d1, d2, d3] }
  | _ => none }
def PosetSwapsWrongFalsely : Prop := posetSwapsRow.holds Tryd.pinned (OpenSpec.ofChange posetSwapsWrong)

/-- 'simprooflaw04.PosetGraph': WHATEVER THE INPUT: true; the input reads as it did. -/
def posetGraphSpec : ChangeSpec := { name := "posetGraph", fn := fun _ => fun
  | [d1, d2] => { results := [.lit (.bool true)], args := [d1, d2] }
  | _ => none }
def posetGraphRow : OpenClaim := { program := "ytlgdcbhdmffnoaadoor", sum := "1b450db4591f04d41ee338221a9521a69cfc2995b9751c9fd0002868afeb9256", func := "simproof/simprooflaw04.PosetGraph", spec := "posetGraph", unfollowed := true, recurses := true, named := ["math/bits.deBruijn64tab"], apart := false, laid := [("math/bits.deBruijn64tab", laid_math_bits_deBruijn64tab)] }
def PosetGraphSaid : Prop := posetGraphRow.holds Tryd.pinned (OpenSpec.ofChange posetGraphSpec)

/-- ITS FALSE NEIGHBOUR: 'it returns false'. Refute it at one input. -/
def posetGraphWrong : ChangeSpec := { name := "posetGraph", fn := fun _ => fun
  | [d1, d2] => { results := [.lit (.bool false)], args := [d1, d2] }
  | _ => none }
def PosetGraphWrongFalsely : Prop := posetGraphRow.holds Tryd.pinned (OpenSpec.ofChange posetGraphWrong)

/-- 'simprooflaw04.PosetOwns': WHATEVER THE INPUT: true; the input reads as it did. -/
def posetOwnsSpec : ChangeSpec := { name := "posetOwns", fn := fun _ => fun
  | [d1, d2] => { results := [.lit (.bool true)], args := [d1, d2] }
  | _ => none }
def posetOwnsRow : OpenClaim := { program := "ytlgdcbhdmffnoaadoor", sum := "1b450db4591f04d41ee338221a9521a69cfc2995b9751c9fd0002868afeb9256", func := "simproof/simprooflaw04.PosetOwns", spec := "posetOwns", unfollowed := true, recurses := true, named := ["math/bits.deBruijn64tab"], apart := false, laid := [("math/bits.deBruijn64tab", laid_math_bits_deBruijn64tab)] }
def PosetOwnsSaid : Prop := posetOwnsRow.holds Tryd.pinned (OpenSpec.ofChange posetOwnsSpec)

/-- ITS FALSE NEIGHBOUR: 'it returns false'. Refute it at one input. -/
def posetOwnsWrong : ChangeSpec := { name := "posetOwns", fn := fun _ => fun
  | [d1, d2] => { results := [.lit (.bool false)], args := [d1, d2] }
  | _ => none }
def PosetOwnsWrongFalsely : Prop := posetOwnsRow.holds Tryd.pinned (OpenSpec.ofChange posetOwnsWrong)

/- THE SECOND FORM. 'bulk': how many values and letters a reading holds, each counted each time it is reached (what is shared counts as often as it is met; a slice's spare places count too). A statement '..UptoSaid' is the law's where the arguments, and the package variables that the reading takes, are together of bulk at most 1048576: NARROWER than '..Said'. Prove '..Said' where nothing that the law and all that it calls make is longer than what came in: it says more and counts as full. Else prove '..UptoSaid'. A law counts once. -/
mutual
def uptoBulk {H : Type} : DataW H → Nat
  | .lit (.string bytes) => bytes.length + 1
  | .lit _ => 1
  | .nil => 1
  | .ptr d => uptoBulk d + 1
  | .slice elems spare => uptoBulkAll elems + uptoBulkAll spare + 1
  | .agg parts => uptoBulkAll parts + 1
  | .iface _ d => uptoBulk d + 1
  | .map entries => uptoBulkEntries entries + 1
  | .held _ => 1
def uptoBulkAll {H : Type} : List (DataW H) → Nat
  | [] => 0
  | d :: r => uptoBulk d + uptoBulkAll r
def uptoBulkEntries {H : Type} : List (Lit × DataW H) → Nat
  | [] => 0
  | x :: r => uptoBulkEntry x + uptoBulkEntries r
def uptoBulkEntry {H : Type} : Lit × DataW H → Nat
  | (.string bytes, d) => bytes.length + uptoBulk d + 1
  | (_, d) => uptoBulk d + 1
 end
def uptoSmall : (H : Type) → List (DataW H) → Bool := fun _ ds => decide (uptoBulkAll ds ≤ 1048576)
def OpenSpec.upto (s : _root_.Go.ChangeSpec) : _root_.Go.OpenSpec := { _root_.Go.OpenSpec.ofChange s with cond := some uptoSmall }

/-- 'simprooflaw04.PosetNew', WHERE WHAT IT READS IS OF BULK AT MOST 1048576: true; the input reads as it did. -/
def posetNewUptoRow : OpenClaim := { program := "ytlgdcbhdmffnoaadoor", sum := "1b450db4591f04d41ee338221a9521a69cfc2995b9751c9fd0002868afeb9256", func := "simproof/simprooflaw04.PosetNew", spec := "posetNew", unfollowed := true, recurses := true, named := ["math/bits.deBruijn64tab"], apart := false, laid := [("math/bits.deBruijn64tab", laid_math_bits_deBruijn64tab)], narrowed := true }
def PosetNewUptoSaid : Prop := posetNewUptoRow.holds Tryd.pinned (OpenSpec.upto posetNewSpec)

/-- 'simprooflaw04.PosetLimits', WHERE WHAT IT READS IS OF BULK AT MOST 1048576: true; the input reads as it did. -/
def posetLimitsUptoRow : OpenClaim := { program := "ytlgdcbhdmffnoaadoor", sum := "1b450db4591f04d41ee338221a9521a69cfc2995b9751c9fd0002868afeb9256", func := "simproof/simprooflaw04.PosetLimits", spec := "posetLimits", unfollowed := true, recurses := true, named := ["math/bits.deBruijn64tab"], apart := false, laid := [("math/bits.deBruijn64tab", laid_math_bits_deBruijn64tab)], narrowed := true }
def PosetLimitsUptoSaid : Prop := posetLimitsUptoRow.holds Tryd.pinned (OpenSpec.upto posetLimitsSpec)

/-- 'simprooflaw04.PosetOrder', WHERE WHAT IT READS IS OF BULK AT MOST 1048576: true; the input reads as it did. -/
def posetOrderUptoRow : OpenClaim := { program := "ytlgdcbhdmffnoaadoor", sum := "1b450db4591f04d41ee338221a9521a69cfc2995b9751c9fd0002868afeb9256", func := "simproof/simprooflaw04.PosetOrder", spec := "posetOrder", unfollowed := true, recurses := true, named := ["math/bits.deBruijn64tab"], apart := false, laid := [("math/bits.deBruijn64tab", laid_math_bits_deBruijn64tab)], narrowed := true }
def PosetOrderUptoSaid : Prop := posetOrderUptoRow.holds Tryd.pinned (OpenSpec.upto posetOrderSpec)

/-- 'simprooflaw04.PosetCovers', WHERE WHAT IT READS IS OF BULK AT MOST 1048576: true; the input reads as it did. -/
def posetCoversUptoRow : OpenClaim := { program := "ytlgdcbhdmffnoaadoor", sum := "1b450db4591f04d41ee338221a9521a69cfc2995b9751c9fd0002868afeb9256", func := "simproof/simprooflaw04.PosetCovers", spec := "posetCovers", unfollowed := true, recurses := true, named := ["math/bits.deBruijn64tab"], apart := false, laid := [("math/bits.deBruijn64tab", laid_math_bits_deBruijn64tab)], narrowed := true }
def PosetCoversUptoSaid : Prop := posetCoversUptoRow.holds Tryd.pinned (OpenSpec.upto posetCoversSpec)

/-- 'simprooflaw04.PosetLinear', WHERE WHAT IT READS IS OF BULK AT MOST 1048576: true; the input reads as it did. -/
def posetLinearUptoRow : OpenClaim := { program := "ytlgdcbhdmffnoaadoor", sum := "1b450db4591f04d41ee338221a9521a69cfc2995b9751c9fd0002868afeb9256", func := "simproof/simprooflaw04.PosetLinear", spec := "posetLinear", unfollowed := true, recurses := true, named := ["math/bits.deBruijn64tab"], apart := false, laid := [("math/bits.deBruijn64tab", laid_math_bits_deBruijn64tab)], narrowed := true }
def PosetLinearUptoSaid : Prop := posetLinearUptoRow.holds Tryd.pinned (OpenSpec.upto posetLinearSpec)

/-- 'simprooflaw04.PosetExtensions', WHERE WHAT IT READS IS OF BULK AT MOST 1048576: true; the input reads as it did. -/
def posetExtensionsUptoRow : OpenClaim := { program := "ytlgdcbhdmffnoaadoor", sum := "1b450db4591f04d41ee338221a9521a69cfc2995b9751c9fd0002868afeb9256", func := "simproof/simprooflaw04.PosetExtensions", spec := "posetExtensions", unfollowed := true, recurses := true, named := ["math/bits.deBruijn64tab"], apart := false, laid := [("math/bits.deBruijn64tab", laid_math_bits_deBruijn64tab)], narrowed := true }
def PosetExtensionsUptoSaid : Prop := posetExtensionsUptoRow.holds Tryd.pinned (OpenSpec.upto posetExtensionsSpec)

/-- 'simprooflaw04.PosetDown', WHERE WHAT IT READS IS OF BULK AT MOST 1048576: true; the input reads as it did. -/
def posetDownUptoRow : OpenClaim := { program := "ytlgdcbhdmffnoaadoor", sum := "1b450db4591f04d41ee338221a9521a69cfc2995b9751c9fd0002868afeb9256", func := "simproof/simprooflaw04.PosetDown", spec := "posetDown", unfollowed := true, recurses := true, named := ["math/bits.deBruijn64tab"], apart := false, laid := [("math/bits.deBruijn64tab", laid_math_bits_deBruijn64tab)], narrowed := true }
def PosetDownUptoSaid : Prop := posetDownUptoRow.holds Tryd.pinned (OpenSpec.upto posetDownSpec)

/-- 'simprooflaw04.PosetSwaps', WHERE WHAT IT READS IS OF BULK AT MOST 1048576: true; the input reads as it did. -/
def posetSwapsUptoRow : OpenClaim := { program := "ytlgdcbhdmffnoaadoor", sum := "1b450db4591f04d41ee338221a9521a69cfc2995b9751c9fd0002868afeb9256", func := "simproof/simprooflaw04.PosetSwaps", spec := "posetSwaps", unfollowed := true, recurses := true, named := ["math/bits.deBruijn64tab"], apart := false, laid := [("math/bits.deBruijn64tab", laid_math_bits_deBruijn64tab)], narrowed := true }
def PosetSwapsUptoSaid : Prop := posetSwapsUptoRow.holds Tryd.pinned (OpenSpec.upto posetSwapsSpec)

/-- 'simprooflaw04.PosetGraph', WHERE WHAT IT READS IS OF BULK AT MOST 1048576: true; the input reads as it did. -/
def posetGraphUptoRow : OpenClaim := { program := "ytlgdcbhdmffnoaadoor", sum := "1b450db4591f04d41ee338221a9521a69cfc2995b9751c9fd0002868afeb9256", func := "simproof/simprooflaw04.PosetGraph", spec := "posetGraph", unfollowed := true, recurses := true, named := ["math/bits.deBruijn64tab"], apart := false, laid := [("math/bits.deBruijn64tab", laid_math_bits_deBruijn64tab)], narrowed := true }
def PosetGraphUptoSaid : Prop := posetGraphUptoRow.holds Tryd.pinned (OpenSpec.upto posetGraphSpec)

/-- 'simprooflaw04.PosetOwns', WHERE WHAT IT READS IS OF BULK AT MOST 1048576: true; the input reads as it did. -/
def posetOwnsUptoRow : OpenClaim := { program := "ytlgdcbhdmffnoaadoor", sum := "1b450db4591f04d41ee338221a9521a69cfc2995b9751c9fd0002868afeb9256", func := "simproof/simprooflaw04.PosetOwns", spec := "posetOwns", unfollowed := true, recurses := true, named := ["math/bits.deBruijn64tab"], apart := false, laid := [("math/bits.deBruijn64tab", laid_math_bits_deBruijn64tab)], narrowed := true }
def PosetOwnsUptoSaid : Prop := posetOwnsUptoRow.holds Tryd.pinned (OpenSpec.upto posetOwnsSpec)

end Rows
end Go.Proofs.YtlgdcbhdmffnoaaDoor
