/-
  No cell of these rows narrows 'for every input' (looked for: loops, veiled, ifaces, maps, wideKeys, modest, calm, conditions, laid).
  DERIVED. THE GIVEN ROWS OF THIS SEAT. 9 by the template 'for every input the law returns true; each argument reads behind the call as it read before'; 0 by the template 'total and deterministic' (their statements: YtiokiecnglmbnaaTotals.lean).
  GIVEN WITH THE SEED: the statements are not yours to turn. If you find one false, say at which input.
  Laid BY PROGRAM, IN A SANDBOX (cutbox-rows.mjs): the forced cells as the released guide's own fill.sh prints them over the translation fd9e884c0c7702ab… (all of the seat's roots in one cut). By AI agents, Wed Nov 11 2026. No macro, syntax, notation, axiom, sorry.
-/
import Derived.Test.YtiokiecnglmbnaaChecked
import GoSem.Claim
import GoSem.ClaimJoined
import GoSem.ClaimMapViews
import Derived.JoinedTies
import Derived.KernelRfl
namespace Go.Proofs.Ytiokiecnglmbnaa
/- THE CELL 'sum', in the pinned program and in every row, IS THE sha256 OF THE DUMP (.gsa) THAT YtiokiecnglmbnaaProg.lean LOADS. Nothing in Lean hashes anything: it is a label: what it is worth is what the hold of that sum in a sandbox is worth. -/
noncomputable def Try.pinned : Pinned := { name := "ytiokiecnglmbnaa", sum := "fd9e884c0c7702ab618bd52e93f2e6838723a6f646311979b479cd12a31ec4d2", checked := Try.checked }
namespace Rows
def none {H : Type} : Left H := { results := [], args := [] }

/-- 'simprooflaw11.TapeNormal': WHATEVER THE INPUT: true; the input reads as it did. -/
def tapeNormalSpec : ChangeSpec := { name := "tapeNormal", fn := fun _ => fun
  | [d1, d2, d3, d4, d5, d6] => { results := [.lit (.bool true)], args := [d1, d2, d3, d4, d5, d6] }
  | _ => none }
def tapeNormalRow : OpenClaim := { program := "ytiokiecnglmbnaa", sum := "fd9e884c0c7702ab618bd52e93f2e6838723a6f646311979b479cd12a31ec4d2", func := "simproof/simprooflaw11.TapeNormal", spec := "tapeNormal", unfollowed := true, recurses := true, plainKeys := false, apart := false }
def TapeNormalSaid : Prop := tapeNormalRow.holds Try.pinned (OpenSpec.ofChange tapeNormalSpec)

/-- ITS FALSE NEIGHBOUR: 'it returns false'. Refute it at one input. -/
def tapeNormalWrong : ChangeSpec := { name := "tapeNormal", fn := fun _ => fun
  | [d1, d2, d3, d4, d5, d6] => { results := [.lit (.bool false)], args := [d1, d2, d3, d4, d5, d6] }
  | _ => none }
def TapeNormalWrongFalsely : Prop := tapeNormalRow.holds Try.pinned (OpenSpec.ofChange tapeNormalWrong)

/-- 'simprooflaw11.TapeOf': WHATEVER THE INPUT: true; the input reads as it did. -/
def tapeOfSpec : ChangeSpec := { name := "tapeOf", fn := fun _ => fun
  | [d] => { results := [.lit (.bool true)], args := [d] }
  | _ => none }
def tapeOfRow : OpenClaim := { program := "ytiokiecnglmbnaa", sum := "fd9e884c0c7702ab618bd52e93f2e6838723a6f646311979b479cd12a31ec4d2", func := "simproof/simprooflaw11.TapeOf", spec := "tapeOf", unfollowed := true, recurses := true, plainKeys := false, apart := false }
def TapeOfSaid : Prop := tapeOfRow.holds Try.pinned (OpenSpec.ofChange tapeOfSpec)

/-- ITS FALSE NEIGHBOUR: 'it returns false'. Refute it at one input. -/
def tapeOfWrong : ChangeSpec := { name := "tapeOf", fn := fun _ => fun
  | [d] => { results := [.lit (.bool false)], args := [d] }
  | _ => none }
def TapeOfWrongFalsely : Prop := tapeOfRow.holds Try.pinned (OpenSpec.ofChange tapeOfWrong)

/-- 'simprooflaw11.TapeParts': WHATEVER THE INPUT: true; the input reads as it did. -/
def tapePartsSpec : ChangeSpec := { name := "tapeParts", fn := fun _ => fun
  | [d1, d2, d3] => { results := [.lit (.bool true)], args := [d1, d2, d3] }
  | _ => none }
def tapePartsRow : OpenClaim := { program := "ytiokiecnglmbnaa", sum := "fd9e884c0c7702ab618bd52e93f2e6838723a6f646311979b479cd12a31ec4d2", func := "simproof/simprooflaw11.TapeParts", spec := "tapeParts", unfollowed := true, recurses := true, plainKeys := false, apart := false }
def TapePartsSaid : Prop := tapePartsRow.holds Try.pinned (OpenSpec.ofChange tapePartsSpec)

/-- ITS FALSE NEIGHBOUR: 'it returns false'. Refute it at one input. -/
def tapePartsWrong : ChangeSpec := { name := "tapeParts", fn := fun _ => fun
  | [d1, d2, d3] => { results := [.lit (.bool false)], args := [d1, d2, d3] }
  | _ => none }
def TapePartsWrongFalsely : Prop := tapePartsRow.holds Try.pinned (OpenSpec.ofChange tapePartsWrong)

/-- 'simprooflaw11.TapeEncodes': WHATEVER THE INPUT: true; the input reads as it did. -/
def tapeEncodesSpec : ChangeSpec := { name := "tapeEncodes", fn := fun _ => fun
  | [d1, d2, d3] => { results := [.lit (.bool true)], args := [d1, d2, d3] }
  | _ => none }
def tapeEncodesRow : OpenClaim := { program := "ytiokiecnglmbnaa", sum := "fd9e884c0c7702ab618bd52e93f2e6838723a6f646311979b479cd12a31ec4d2", func := "simproof/simprooflaw11.TapeEncodes", spec := "tapeEncodes", unfollowed := true, recurses := true, plainKeys := false, apart := false }
def TapeEncodesSaid : Prop := tapeEncodesRow.holds Try.pinned (OpenSpec.ofChange tapeEncodesSpec)

/-- ITS FALSE NEIGHBOUR: 'it returns false'. Refute it at one input. -/
def tapeEncodesWrong : ChangeSpec := { name := "tapeEncodes", fn := fun _ => fun
  | [d1, d2, d3] => { results := [.lit (.bool false)], args := [d1, d2, d3] }
  | _ => none }
def TapeEncodesWrongFalsely : Prop := tapeEncodesRow.holds Try.pinned (OpenSpec.ofChange tapeEncodesWrong)

/-- 'simprooflaw11.TapeDecodes': WHATEVER THE INPUT: true; the input reads as it did. -/
def tapeDecodesSpec : ChangeSpec := { name := "tapeDecodes", fn := fun _ => fun
  | [d1, d2, d3, d4, d5, d6] => { results := [.lit (.bool true)], args := [d1, d2, d3, d4, d5, d6] }
  | _ => none }
def tapeDecodesRow : OpenClaim := { program := "ytiokiecnglmbnaa", sum := "fd9e884c0c7702ab618bd52e93f2e6838723a6f646311979b479cd12a31ec4d2", func := "simproof/simprooflaw11.TapeDecodes", spec := "tapeDecodes", unfollowed := true, recurses := true, plainKeys := false, apart := false }
def TapeDecodesSaid : Prop := tapeDecodesRow.holds Try.pinned (OpenSpec.ofChange tapeDecodesSpec)

/-- ITS FALSE NEIGHBOUR: 'it returns false'. Refute it at one input. -/
def tapeDecodesWrong : ChangeSpec := { name := "tapeDecodes", fn := fun _ => fun
  | [d1, d2, d3, d4, d5, d6] => { results := [.lit (.bool false)], args := [d1, d2, d3, d4, d5, d6] }
  | _ => none }
def TapeDecodesWrongFalsely : Prop := tapeDecodesRow.holds Try.pinned (OpenSpec.ofChange tapeDecodesWrong)

/-- 'simprooflaw11.TapeRound': WHATEVER THE INPUT: true; the input reads as it did. -/
def tapeRoundSpec : ChangeSpec := { name := "tapeRound", fn := fun _ => fun
  | [d1, d2, d3] => { results := [.lit (.bool true)], args := [d1, d2, d3] }
  | _ => none }
def tapeRoundRow : OpenClaim := { program := "ytiokiecnglmbnaa", sum := "fd9e884c0c7702ab618bd52e93f2e6838723a6f646311979b479cd12a31ec4d2", func := "simproof/simprooflaw11.TapeRound", spec := "tapeRound", unfollowed := true, recurses := true, plainKeys := false, apart := false }
def TapeRoundSaid : Prop := tapeRoundRow.holds Try.pinned (OpenSpec.ofChange tapeRoundSpec)

/-- ITS FALSE NEIGHBOUR: 'it returns false'. Refute it at one input. -/
def tapeRoundWrong : ChangeSpec := { name := "tapeRound", fn := fun _ => fun
  | [d1, d2, d3] => { results := [.lit (.bool false)], args := [d1, d2, d3] }
  | _ => none }
def TapeRoundWrongFalsely : Prop := tapeRoundRow.holds Try.pinned (OpenSpec.ofChange tapeRoundWrong)

/-- 'simprooflaw11.TapeCanonical': WHATEVER THE INPUT: true; the input reads as it did. -/
def tapeCanonicalSpec : ChangeSpec := { name := "tapeCanonical", fn := fun _ => fun
  | [d1, d2, d3, d4, d5] => { results := [.lit (.bool true)], args := [d1, d2, d3, d4, d5] }
  | _ => none }
def tapeCanonicalRow : OpenClaim := { program := "ytiokiecnglmbnaa", sum := "fd9e884c0c7702ab618bd52e93f2e6838723a6f646311979b479cd12a31ec4d2", func := "simproof/simprooflaw11.TapeCanonical", spec := "tapeCanonical", unfollowed := true, recurses := true, plainKeys := false, apart := false }
def TapeCanonicalSaid : Prop := tapeCanonicalRow.holds Try.pinned (OpenSpec.ofChange tapeCanonicalSpec)

/-- ITS FALSE NEIGHBOUR: 'it returns false'. Refute it at one input. -/
def tapeCanonicalWrong : ChangeSpec := { name := "tapeCanonical", fn := fun _ => fun
  | [d1, d2, d3, d4, d5] => { results := [.lit (.bool false)], args := [d1, d2, d3, d4, d5] }
  | _ => none }
def TapeCanonicalWrongFalsely : Prop := tapeCanonicalRow.holds Try.pinned (OpenSpec.ofChange tapeCanonicalWrong)

/-- 'simprooflaw11.TapeWith': WHATEVER THE INPUT: true; the input reads as it did. -/
def tapeWithSpec : ChangeSpec := { name := "tapeWith", fn := fun _ => fun
  | [d1, d2, d3, d4, d5, d6] => { results := [.lit (.bool true)], args := [d1, d2, d3, d4, d5, d6] }
  | _ => none }
def tapeWithRow : OpenClaim := { program := "ytiokiecnglmbnaa", sum := "fd9e884c0c7702ab618bd52e93f2e6838723a6f646311979b479cd12a31ec4d2", func := "simproof/simprooflaw11.TapeWith", spec := "tapeWith", unfollowed := true, recurses := true, plainKeys := false, apart := false }
def TapeWithSaid : Prop := tapeWithRow.holds Try.pinned (OpenSpec.ofChange tapeWithSpec)

/-- ITS FALSE NEIGHBOUR: 'it returns false'. Refute it at one input. -/
def tapeWithWrong : ChangeSpec := { name := "tapeWith", fn := fun _ => fun
  | [d1, d2, d3, d4, d5, d6] => { results := [.lit (.bool false)], args := [d1, d2, d3, d4, d5, d6] }
  | _ => none }
def TapeWithWrongFalsely : Prop := tapeWithRow.holds Try.pinned (OpenSpec.ofChange tapeWithWrong)

/-- 'simprooflaw11.TapeOwn': WHATEVER THE INPUT: true; the input reads as it did. -/
def tapeOwnSpec : ChangeSpec := { name := "tapeOwn", fn := fun _ => fun
  | [d1, d2, d3] => { results := [.lit (.bool true)], args := [d1, d2, d3] }
  | _ => none }
def tapeOwnRow : OpenClaim := { program := "ytiokiecnglmbnaa", sum := "fd9e884c0c7702ab618bd52e93f2e6838723a6f646311979b479cd12a31ec4d2", func := "simproof/simprooflaw11.TapeOwn", spec := "tapeOwn", unfollowed := true, recurses := true, plainKeys := false, apart := false }
def TapeOwnSaid : Prop := tapeOwnRow.holds Try.pinned (OpenSpec.ofChange tapeOwnSpec)

/-- ITS FALSE NEIGHBOUR: 'it returns false'. Refute it at one input. -/
def tapeOwnWrong : ChangeSpec := { name := "tapeOwn", fn := fun _ => fun
  | [d1, d2, d3] => { results := [.lit (.bool false)], args := [d1, d2, d3] }
  | _ => none }
def TapeOwnWrongFalsely : Prop := tapeOwnRow.holds Try.pinned (OpenSpec.ofChange tapeOwnWrong)

/- THE SECOND FORM. 'bulk': how many values and letters a reading holds, each counted each time it is reached (what is shared counts as often as it is met; a slice's spare places count too). A statement '..UptoSaid' is the law's where the arguments, and the package variables that the reading takes, are together of bulk at most 1048576: NARROWER than '..Said'. Prove '..Said' where nothing that the law and all that it calls make is longer than what came in: it says more and counts as full. Else prove '..UptoSaid'. A law counts once. -/
mutual
def uptoBulk {H : Type} : DataW H → Nat
  | .lit (.string bytes) => bytes.length + 1
  | .lit _ => 1
  | .nil => 1
  | .ptr d => uptoBulk d + 1
  | .slice elems spare => uptoBulkAll elems + uptoBulkAll spare + 1
  | .agg parts => uptoBulkAll parts + 1
  | .iface _ d => uptoBulk d + 1
  | .map entries => uptoBulkEntries entries + 1
  | .held _ => 1
def uptoBulkAll {H : Type} : List (DataW H) → Nat
  | [] => 0
  | d :: r => uptoBulk d + uptoBulkAll r
def uptoBulkEntries {H : Type} : List (Lit × DataW H) → Nat
  | [] => 0
  | x :: r => uptoBulkEntry x + uptoBulkEntries r
def uptoBulkEntry {H : Type} : Lit × DataW H → Nat
  | (.string bytes, d) => bytes.length + uptoBulk d + 1
  | (_, d) => uptoBulk d + 1
 end
def uptoSmall : (H : Type) → List (DataW H) → Bool := fun _ ds => decide (uptoBulkAll ds ≤ 1048576)
def OpenSpec.upto (s : _root_.Go.ChangeSpec) : _root_.Go.OpenSpec := { _root_.Go.OpenSpec.ofChange s with cond := some uptoSmall }

/-- 'simprooflaw11.TapeNormal', WHERE WHAT IT READS IS OF BULK AT MOST 1048576: true; the input reads as it did. -/
def tapeNormalUptoRow : OpenClaim := { program := "ytiokiecnglmbnaa", sum := "fd9e884c0c7702ab618bd52e93f2e6838723a6f646311979b479cd12a31ec4d2", func := "simproof/simprooflaw11.TapeNormal", spec := "tapeNormal", unfollowed := true, recurses := true, plainKeys := false, apart := false, narrowed := true }
def TapeNormalUptoSaid : Prop := tapeNormalUptoRow.holds Try.pinned (OpenSpec.upto tapeNormalSpec)

/-- 'simprooflaw11.TapeOf', WHERE WHAT IT READS IS OF BULK AT MOST 1048576: true; the input reads as it did. -/
def tapeOfUptoRow : OpenClaim := { program := "ytiokiecnglmbnaa", sum := "fd9e884c0c7702ab618bd52e93f2e6838723a6f646311979b479cd12a31ec4d2", func := "simproof/simprooflaw11.TapeOf", spec := "tapeOf", unfollowed := true, recurses := true, plainKeys := false, apart := false, narrowed := true }
def TapeOfUptoSaid : Prop := tapeOfUptoRow.holds Try.pinned (OpenSpec.upto tapeOfSpec)

/-- 'simprooflaw11.TapeParts', WHERE WHAT IT READS IS OF BULK AT MOST 1048576: true; the input reads as it did. -/
def tapePartsUptoRow : OpenClaim := { program := "ytiokiecnglmbnaa", sum := "fd9e884c0c7702ab618bd52e93f2e6838723a6f646311979b479cd12a31ec4d2", func := "simproof/simprooflaw11.TapeParts", spec := "tapeParts", unfollowed := true, recurses := true, plainKeys := false, apart := false, narrowed := true }
def TapePartsUptoSaid : Prop := tapePartsUptoRow.holds Try.pinned (OpenSpec.upto tapePartsSpec)

/-- 'simprooflaw11.TapeEncodes', WHERE WHAT IT READS IS OF BULK AT MOST 1048576: true; the input reads as it did. -/
def tapeEncodesUptoRow : OpenClaim := { program := "ytiokiecnglmbnaa", sum := "fd9e884c0c7702ab618bd52e93f2e6838723a6f646311979b479cd12a31ec4d2", func := "simproof/simprooflaw11.TapeEncodes", spec := "tapeEncodes", unfollowed := true, recurses := true, plainKeys := false, apart := false, narrowed := true }
def TapeEncodesUptoSaid : Prop := tapeEncodesUptoRow.holds Try.pinned (OpenSpec.upto tapeEncodesSpec)

/-- 'simprooflaw11.TapeDecodes', WHERE WHAT IT READS IS OF BULK AT MOST 1048576: true; the input reads as it did. -/
def tapeDecodesUptoRow : OpenClaim := { program := "ytiokiecnglmbnaa", sum := "fd9e884c0c7702ab618bd52e93f2e6838723a6f646311979b479cd12a31ec4d2", func := "simproof/simprooflaw11.TapeDecodes", spec := "tapeDecodes", unfollowed := true, recurses := true, plainKeys := false, apart := false, narrowed := true }
def TapeDecodesUptoSaid : Prop := tapeDecodesUptoRow.holds Try.pinned (OpenSpec.upto tapeDecodesSpec)

/-- 'simprooflaw11.TapeRound', WHERE WHAT IT READS IS OF BULK AT MOST 1048576: true; the input reads as it did. -/
def tapeRoundUptoRow : OpenClaim := { program := "ytiokiecnglmbnaa", sum := "fd9e884c0c7702ab618bd52e93f2e6838723a6f646311979b479cd12a31ec4d2", func := "simproof/simprooflaw11.TapeRound", spec := "tapeRound", unfollowed := true, recurses := true, plainKeys := false, apart := false, narrowed := true }
def TapeRoundUptoSaid : Prop := tapeRoundUptoRow.holds Try.pinned (OpenSpec.upto tapeRoundSpec)

/-- 'simprooflaw11.TapeCanonical', WHERE WHAT IT READS IS OF BULK AT MOST 1048576: true; the input reads as it did. -/
def tapeCanonicalUptoRow : OpenClaim := { program := "ytiokiecnglmbnaa", sum := "fd9e884c0c7702ab618bd52e93f2e6838723a6f646311979b479cd12a31ec4d2", func := "simproof/simprooflaw11.TapeCanonical", spec := "tapeCanonical", unfollowed := true, recurses := true, plainKeys := false, apart := false, narrowed := true }
def TapeCanonicalUptoSaid : Prop := tapeCanonicalUptoRow.holds Try.pinned (OpenSpec.upto tapeCanonicalSpec)

/-- 'simprooflaw11.TapeWith', WHERE WHAT IT READS IS OF BULK AT MOST 1048576: true; the input reads as it did. -/
def tapeWithUptoRow : OpenClaim := { program := "ytiokiecnglmbnaa", sum := "fd9e884c0c7702ab618bd52e93f2e6838723a6f646311979b479cd12a31ec4d2", func := "simproof/simprooflaw11.TapeWith", spec := "tapeWith", unfollowed := true, recurses := true, plainKeys := false, apart := false, narrowed := true }
def TapeWithUptoSaid : Prop := tapeWithUptoRow.holds Try.pinned (OpenSpec.upto tapeWithSpec)

/-- 'simprooflaw11.TapeOwn', WHERE WHAT IT READS IS OF BULK AT MOST 1048576: true; the input reads as it did. -/
def tapeOwnUptoRow : OpenClaim := { program := "ytiokiecnglmbnaa", sum := "fd9e884c0c7702ab618bd52e93f2e6838723a6f646311979b479cd12a31ec4d2", func := "simproof/simprooflaw11.TapeOwn", spec := "tapeOwn", unfollowed := true, recurses := true, plainKeys := false, apart := false, narrowed := true }
def TapeOwnUptoSaid : Prop := tapeOwnUptoRow.holds Try.pinned (OpenSpec.upto tapeOwnSpec)

end Rows
end Go.Proofs.Ytiokiecnglmbnaa
