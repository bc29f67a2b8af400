/-
  No cell of these rows narrows 'for every input' (looked for: loops, veiled, ifaces, maps, wideKeys, modest, calm, conditions, laid).
  DERIVED. THE GIVEN ROWS OF THIS SEAT. 6 by the template 'for every input the law returns true; each argument reads behind the call as it read before'; 0 by the template 'total and deterministic' (their statements: YtepbppckhfiplaaTotals.lean).
  GIVEN WITH THE SEED: the statements are not yours to turn. If you find one false, say at which input.
  Laid BY PROGRAM, IN A SANDBOX (cutbox-rows.mjs): the forced cells as the released guide's own fill.sh prints them over the translation 03e769566883ba2a… (all of the seat's roots in one cut). By AI agents, Wed Nov 11 2026. No macro, syntax, notation, axiom, sorry.
-/
import Derived.Test.YtepbppckhfiplaaChecked
import GoSem.Claim
import GoSem.ClaimJoined
import GoSem.ClaimMapViews
import Derived.JoinedTies
import Derived.KernelRfl
namespace Go.Proofs.Ytepbppckhfiplaa
/- THE CELL 'sum', in the pinned program and in every row, IS THE sha256 OF THE DUMP (.gsa) THAT YtepbppckhfiplaaProg.lean LOADS. Nothing in Lean hashes anything: it is a label: what it is worth is what the hold of that sum in a sandbox is worth. -/
noncomputable def Try.pinned : Pinned := { name := "ytepbppckhfiplaa", sum := "03e769566883ba2a3c682ed55fee7c5ca85d7e9f66987b32b7c1ed0ad16ad73e", checked := Try.checked }
namespace Rows
def none {H : Type} : Left H := { results := [], args := [] }

/-- 'simprooflaw14.NetworkSets': WHATEVER THE INPUT: true; the input reads as it did. -/
def networkSetsSpec : ChangeSpec := { name := "networkSets", fn := fun _ => fun
  | [d1, d2, d3, d4, d5] => { results := [.lit (.bool true)], args := [d1, d2, d3, d4, d5] }
  | _ => none }
def networkSetsRow : OpenClaim := { program := "ytepbppckhfiplaa", sum := "03e769566883ba2a3c682ed55fee7c5ca85d7e9f66987b32b7c1ed0ad16ad73e", func := "simproof/simprooflaw14.NetworkSets", spec := "networkSets", unfollowed := true, recurses := true, apart := false }
def NetworkSetsSaid : Prop := networkSetsRow.holds Try.pinned (OpenSpec.ofChange networkSetsSpec)

/-- ITS FALSE NEIGHBOUR: 'it returns false'. Refute it at one input. -/
def networkSetsWrong : ChangeSpec := { name := "networkSets", fn := fun _ => fun
  | [d1, d2, d3, d4, d5] => { results := [.lit (.bool false)], args := [d1, d2, d3, d4, d5] }
  | _ => none }
def NetworkSetsWrongFalsely : Prop := networkSetsRow.holds Try.pinned (OpenSpec.ofChange networkSetsWrong)

/-- 'simprooflaw14.NetworkOrder': WHATEVER THE INPUT: true; the input reads as it did. -/
def networkOrderSpec : ChangeSpec := { name := "networkOrder", fn := fun _ => fun
  | [d1, d2] => { results := [.lit (.bool true)], args := [d1, d2] }
  | _ => none }
def networkOrderRow : OpenClaim := { program := "ytepbppckhfiplaa", sum := "03e769566883ba2a3c682ed55fee7c5ca85d7e9f66987b32b7c1ed0ad16ad73e", func := "simproof/simprooflaw14.NetworkOrder", spec := "networkOrder", unfollowed := true, recurses := true, apart := false }
def NetworkOrderSaid : Prop := networkOrderRow.holds Try.pinned (OpenSpec.ofChange networkOrderSpec)

/-- ITS FALSE NEIGHBOUR: 'it returns false'. Refute it at one input. -/
def networkOrderWrong : ChangeSpec := { name := "networkOrder", fn := fun _ => fun
  | [d1, d2] => { results := [.lit (.bool false)], args := [d1, d2] }
  | _ => none }
def NetworkOrderWrongFalsely : Prop := networkOrderRow.holds Try.pinned (OpenSpec.ofChange networkOrderWrong)

/-- 'simprooflaw14.NetworkUndo': WHATEVER THE INPUT: true; the input reads as it did. -/
def networkUndoSpec : ChangeSpec := { name := "networkUndo", fn := fun _ => fun
  | [d1, d2] => { results := [.lit (.bool true)], args := [d1, d2] }
  | _ => none }
def networkUndoRow : OpenClaim := { program := "ytepbppckhfiplaa", sum := "03e769566883ba2a3c682ed55fee7c5ca85d7e9f66987b32b7c1ed0ad16ad73e", func := "simproof/simprooflaw14.NetworkUndo", spec := "networkUndo", unfollowed := true, recurses := true, apart := false }
def NetworkUndoSaid : Prop := networkUndoRow.holds Try.pinned (OpenSpec.ofChange networkUndoSpec)

/-- ITS FALSE NEIGHBOUR: 'it returns false'. Refute it at one input. -/
def networkUndoWrong : ChangeSpec := { name := "networkUndo", fn := fun _ => fun
  | [d1, d2] => { results := [.lit (.bool false)], args := [d1, d2] }
  | _ => none }
def NetworkUndoWrongFalsely : Prop := networkUndoRow.holds Try.pinned (OpenSpec.ofChange networkUndoWrong)

/-- 'simprooflaw14.NetworkCommutes': WHATEVER THE INPUT: true; the input reads as it did. -/
def networkCommutesSpec : ChangeSpec := { name := "networkCommutes", fn := fun _ => fun
  | [d1, d2, d3] => { results := [.lit (.bool true)], args := [d1, d2, d3] }
  | _ => none }
def networkCommutesRow : OpenClaim := { program := "ytepbppckhfiplaa", sum := "03e769566883ba2a3c682ed55fee7c5ca85d7e9f66987b32b7c1ed0ad16ad73e", func := "simproof/simprooflaw14.NetworkCommutes", spec := "networkCommutes", unfollowed := true, recurses := true, apart := false }
def NetworkCommutesSaid : Prop := networkCommutesRow.holds Try.pinned (OpenSpec.ofChange networkCommutesSpec)

/-- ITS FALSE NEIGHBOUR: 'it returns false'. Refute it at one input. -/
def networkCommutesWrong : ChangeSpec := { name := "networkCommutes", fn := fun _ => fun
  | [d1, d2, d3] => { results := [.lit (.bool false)], args := [d1, d2, d3] }
  | _ => none }
def NetworkCommutesWrongFalsely : Prop := networkCommutesRow.holds Try.pinned (OpenSpec.ofChange networkCommutesWrong)

/-- 'simprooflaw14.NetworkCopies': WHATEVER THE INPUT: true; the input reads as it did. -/
def networkCopiesSpec : ChangeSpec := { name := "networkCopies", fn := fun _ => fun
  | [d1, d2, d3] => { results := [.lit (.bool true)], args := [d1, d2, d3] }
  | _ => none }
def networkCopiesRow : OpenClaim := { program := "ytepbppckhfiplaa", sum := "03e769566883ba2a3c682ed55fee7c5ca85d7e9f66987b32b7c1ed0ad16ad73e", func := "simproof/simprooflaw14.NetworkCopies", spec := "networkCopies", unfollowed := true, recurses := true, apart := false }
def NetworkCopiesSaid : Prop := networkCopiesRow.holds Try.pinned (OpenSpec.ofChange networkCopiesSpec)

/-- ITS FALSE NEIGHBOUR: 'it returns false'. Refute it at one input. -/
def networkCopiesWrong : ChangeSpec := { name := "networkCopies", fn := fun _ => fun
  | [d1, d2, d3] => { results := [.lit (.bool false)], args := [d1, d2, d3] }
  | _ => none }
def NetworkCopiesWrongFalsely : Prop := networkCopiesRow.holds Try.pinned (OpenSpec.ofChange networkCopiesWrong)

/-- 'simprooflaw14.NetworkReceivers': WHATEVER THE INPUT: true; the input reads as it did. -/
def networkReceiversSpec : ChangeSpec := { name := "networkReceivers", fn := fun _ => fun
  | [d] => { results := [.lit (.bool true)], args := [d] }
  | _ => none }
def networkReceiversRow : OpenClaim := { program := "ytepbppckhfiplaa", sum := "03e769566883ba2a3c682ed55fee7c5ca85d7e9f66987b32b7c1ed0ad16ad73e", func := "simproof/simprooflaw14.NetworkReceivers", spec := "networkReceivers", unfollowed := true, recurses := true, apart := false }
def NetworkReceiversSaid : Prop := networkReceiversRow.holds Try.pinned (OpenSpec.ofChange networkReceiversSpec)

/-- ITS FALSE NEIGHBOUR: 'it returns false'. Refute it at one input. -/
def networkReceiversWrong : ChangeSpec := { name := "networkReceivers", fn := fun _ => fun
  | [d] => { results := [.lit (.bool false)], args := [d] }
  | _ => none }
def NetworkReceiversWrongFalsely : Prop := networkReceiversRow.holds Try.pinned (OpenSpec.ofChange networkReceiversWrong)

/- THE SECOND FORM. 'bulk': how many values and letters a reading holds, each counted each time it is reached (what is shared counts as often as it is met; a slice's spare places count too). A statement '..UptoSaid' is the law's where the arguments, and the package variables that the reading takes, are together of bulk at most 1048576: NARROWER than '..Said'. Prove '..Said' where nothing that the law and all that it calls make is longer than what came in: it says more and counts as full. Else prove '..UptoSaid'. A law counts once. -/
mutual
def uptoBulk {H : Type} : DataW H → Nat
  | .lit (.string bytes) => bytes.length + 1
  | .lit _ => 1
  | .nil => 1
  | .ptr d => uptoBulk d + 1
  | .slice elems spare => uptoBulkAll elems + uptoBulkAll spare + 1
  | .agg parts => uptoBulkAll parts + 1
  | .iface _ d => uptoBulk d + 1
  | .map entries => uptoBulkEntries entries + 1
  | .held _ => 1
def uptoBulkAll {H : Type} : List (DataW H) → Nat
  | [] => 0
  | d :: r => uptoBulk d + uptoBulkAll r
def uptoBulkEntries {H : Type} : List (Lit × DataW H) → Nat
  | [] => 0
  | x :: r => uptoBulkEntry x + uptoBulkEntries r
def uptoBulkEntry {H : Type} : Lit × DataW H → Nat
  | (.string bytes, d) => bytes.length + uptoBulk d + 1
  | (_, d) => uptoBulk d + 1
 end
def uptoSmall : (H : Type) → List (DataW H) → Bool := fun _ ds => decide (uptoBulkAll ds ≤ 1048576)
def OpenSpec.upto (s : _root_.Go.ChangeSpec) : _root_.Go.OpenSpec := { _root_.Go.OpenSpec.ofChange s with cond := some uptoSmall }

/-- 'simprooflaw14.NetworkSets', WHERE WHAT IT READS IS OF BULK AT MOST 1048576: true; the input reads as it did. -/
def networkSetsUptoRow : OpenClaim := { program := "ytepbppckhfiplaa", sum := "03e769566883ba2a3c682ed55fee7c5ca85d7e9f66987b32b7c1ed0ad16ad73e", func := "simproof/simprooflaw14.NetworkSets", spec := "networkSets", unfollowed := true, recurses := true, apart := false, narrowed := true }
def NetworkSetsUptoSaid : Prop := networkSetsUptoRow.holds Try.pinned (OpenSpec.upto networkSetsSpec)

/-- 'simprooflaw14.NetworkOrder', WHERE WHAT IT READS IS OF BULK AT MOST 1048576: true; the input reads as it did. -/
def networkOrderUptoRow : OpenClaim := { program := "ytepbppckhfiplaa", sum := "03e769566883ba2a3c682ed55fee7c5ca85d7e9f66987b32b7c1ed0ad16ad73e", func := "simproof/simprooflaw14.NetworkOrder", spec := "networkOrder", unfollowed := true, recurses := true, apart := false, narrowed := true }
def NetworkOrderUptoSaid : Prop := networkOrderUptoRow.holds Try.pinned (OpenSpec.upto networkOrderSpec)

/-- 'simprooflaw14.NetworkUndo', WHERE WHAT IT READS IS OF BULK AT MOST 1048576: true; the input reads as it did. -/
def networkUndoUptoRow : OpenClaim := { program := "ytepbppckhfiplaa", sum := "03e769566883ba2a3c682ed55fee7c5ca85d7e9f66987b32b7c1ed0ad16ad73e", func := "simproof/simprooflaw14.NetworkUndo", spec := "networkUndo", unfollowed := true, recurses := true, apart := false, narrowed := true }
def NetworkUndoUptoSaid : Prop := networkUndoUptoRow.holds Try.pinned (OpenSpec.upto networkUndoSpec)

/-- 'simprooflaw14.NetworkCommutes', WHERE WHAT IT READS IS OF BULK AT MOST 1048576: true; the input reads as it did. -/
def networkCommutesUptoRow : OpenClaim := { program := "ytepbppckhfiplaa", sum := "03e769566883ba2a3c682ed55fee7c5ca85d7e9f66987b32b7c1ed0ad16ad73e", func := "simproof/simprooflaw14.NetworkCommutes", spec := "networkCommutes", unfollowed := true, recurses := true, apart := false, narrowed := true }
def NetworkCommutesUptoSaid : Prop := networkCommutesUptoRow.holds Try.pinned (OpenSpec.upto networkCommutesSpec)

/-- 'simprooflaw14.NetworkCopies', WHERE WHAT IT READS IS OF BULK AT MOST 1048576: true; the input reads as it did. -/
def networkCopiesUptoRow : OpenClaim := { program := "ytepbppckhfiplaa", sum := "03e769566883ba2a3c682ed55fee7c5ca85d7e9f66987b32b7c1ed0ad16ad73e", func := "simproof/simprooflaw14.NetworkCopies", spec := "networkCopies", unfollowed := true, recurses := true, apart := false, narrowed := true }
def NetworkCopiesUptoSaid : Prop := networkCopiesUptoRow.holds Try.pinned (OpenSpec.upto networkCopiesSpec)

/-- 'simprooflaw14.NetworkReceivers', WHERE WHAT IT READS IS OF BULK AT MOST 1048576: true; the input reads as it did. -/
def networkReceiversUptoRow : OpenClaim := { program := "ytepbppckhfiplaa", sum := "03e769566883ba2a3c682ed55fee7c5ca85d7e9f66987b32b7c1ed0ad16ad73e", func := "simproof/simprooflaw14.NetworkReceivers", spec := "networkReceivers", unfollowed := true, recurses := true, apart := false, narrowed := true }
def NetworkReceiversUptoSaid : Prop := networkReceiversUptoRow.holds Try.pinned (OpenSpec.upto networkReceiversSpec)

end Rows
end Go.Proofs.Ytepbppckhfiplaa
