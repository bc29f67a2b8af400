/-
  No cell of these rows narrows 'for every input' (looked for: loops, veiled, ifaces, maps, wideKeys, modest, calm, conditions, laid).
  DERIVED. THE GIVEN ROWS OF THIS SEAT. 8 by the template 'for every input the law returns true; each argument reads behind the call as it read before'; 0 by the template 'total and deterministic' (their statements: YtgdefhlcgmibcaaTotals.lean).
  GIVEN WITH THE SEED: the statements are not yours to turn. If you find one false, say at which input.
  Laid BY PROGRAM, IN A SANDBOX (cutbox-rows.mjs): the forced cells as the released guide's own fill.sh prints them over the translation 377af95ab3bff7aa… (all of the seat's roots in one cut). By AI agents, Wed Nov 11 2026. No macro, syntax, notation, axiom, sorry.
-/
import Derived.Test.YtgdefhlcgmibcaaChecked
import GoSem.Claim
import GoSem.ClaimJoined
import GoSem.ClaimMapViews
import Derived.JoinedTies
import Derived.KernelRfl
namespace Go.Proofs.Ytgdefhlcgmibcaa
/- THE CELL 'sum', in the pinned program and in every row, IS THE sha256 OF THE DUMP (.gsa) THAT YtgdefhlcgmibcaaProg.lean LOADS. Nothing in Lean hashes anything: it is a label: what it is worth is what the hold of that sum in a sandbox is worth. -/
noncomputable def Try.pinned : Pinned := { name := "ytgdefhlcgmibcaa", sum := "377af95ab3bff7aa5a225c4ead94846632970dcadf142162f10759482efe70ca", checked := Try.checked }
namespace Rows
def none {H : Type} : Left H := { results := [], args := [] }

/-- 'simprooflaw12.DiskOps': WHATEVER THE INPUT: true; the input reads as it did. -/
def diskOpsSpec : ChangeSpec := { name := "diskOps", fn := fun _ => fun
  | [d1, d2] => { results := [.lit (.bool true)], args := [d1, d2] }
  | _ => none }
def diskOpsRow : OpenClaim := { program := "ytgdefhlcgmibcaa", sum := "377af95ab3bff7aa5a225c4ead94846632970dcadf142162f10759482efe70ca", func := "simproof/simprooflaw12.DiskOps", spec := "diskOps", apart := false }
def DiskOpsSaid : Prop := diskOpsRow.holds Try.pinned (OpenSpec.ofChange diskOpsSpec)

/-- ITS FALSE NEIGHBOUR: 'it returns false'. Refute it at one input. -/
def diskOpsWrong : ChangeSpec := { name := "diskOps", fn := fun _ => fun
  | [d1, d2] => { results := [.lit (.bool false)], args := [d1, d2] }
  | _ => none }
def DiskOpsWrongFalsely : Prop := diskOpsRow.holds Try.pinned (OpenSpec.ofChange diskOpsWrong)

/-- 'simprooflaw12.DiskWrites': WHATEVER THE INPUT: true; the input reads as it did. -/
def diskWritesSpec : ChangeSpec := { name := "diskWrites", fn := fun _ => fun
  | [d1, d2, d3, d4] => { results := [.lit (.bool true)], args := [d1, d2, d3, d4] }
  | _ => none }
def diskWritesRow : OpenClaim := { program := "ytgdefhlcgmibcaa", sum := "377af95ab3bff7aa5a225c4ead94846632970dcadf142162f10759482efe70ca", func := "simproof/simprooflaw12.DiskWrites", spec := "diskWrites", apart := false }
def DiskWritesSaid : Prop := diskWritesRow.holds Try.pinned (OpenSpec.ofChange diskWritesSpec)

/-- ITS FALSE NEIGHBOUR: 'it returns false'. Refute it at one input. -/
def diskWritesWrong : ChangeSpec := { name := "diskWrites", fn := fun _ => fun
  | [d1, d2, d3, d4] => { results := [.lit (.bool false)], args := [d1, d2, d3, d4] }
  | _ => none }
def DiskWritesWrongFalsely : Prop := diskWritesRow.holds Try.pinned (OpenSpec.ofChange diskWritesWrong)

/-- 'simprooflaw12.DiskSync': WHATEVER THE INPUT: true; the input reads as it did. -/
def diskSyncSpec : ChangeSpec := { name := "diskSync", fn := fun _ => fun
  | [d1, d2, d3] => { results := [.lit (.bool true)], args := [d1, d2, d3] }
  | _ => none }
def diskSyncRow : OpenClaim := { program := "ytgdefhlcgmibcaa", sum := "377af95ab3bff7aa5a225c4ead94846632970dcadf142162f10759482efe70ca", func := "simproof/simprooflaw12.DiskSync", spec := "diskSync", apart := false }
def DiskSyncSaid : Prop := diskSyncRow.holds Try.pinned (OpenSpec.ofChange diskSyncSpec)

/-- ITS FALSE NEIGHBOUR: 'it returns false'. Refute it at one input. -/
def diskSyncWrong : ChangeSpec := { name := "diskSync", fn := fun _ => fun
  | [d1, d2, d3] => { results := [.lit (.bool false)], args := [d1, d2, d3] }
  | _ => none }
def DiskSyncWrongFalsely : Prop := diskSyncRow.holds Try.pinned (OpenSpec.ofChange diskSyncWrong)

/-- 'simprooflaw12.DiskCrash': WHATEVER THE INPUT: true; the input reads as it did. -/
def diskCrashSpec : ChangeSpec := { name := "diskCrash", fn := fun _ => fun
  | [d1, d2, d3] => { results := [.lit (.bool true)], args := [d1, d2, d3] }
  | _ => none }
def diskCrashRow : OpenClaim := { program := "ytgdefhlcgmibcaa", sum := "377af95ab3bff7aa5a225c4ead94846632970dcadf142162f10759482efe70ca", func := "simproof/simprooflaw12.DiskCrash", spec := "diskCrash", apart := false }
def DiskCrashSaid : Prop := diskCrashRow.holds Try.pinned (OpenSpec.ofChange diskCrashSpec)

/-- ITS FALSE NEIGHBOUR: 'it returns false'. Refute it at one input. -/
def diskCrashWrong : ChangeSpec := { name := "diskCrash", fn := fun _ => fun
  | [d1, d2, d3] => { results := [.lit (.bool false)], args := [d1, d2, d3] }
  | _ => none }
def DiskCrashWrongFalsely : Prop := diskCrashRow.holds Try.pinned (OpenSpec.ofChange diskCrashWrong)

/-- 'simprooflaw12.DiskQueue': WHATEVER THE INPUT: true; the input reads as it did. -/
def diskQueueSpec : ChangeSpec := { name := "diskQueue", fn := fun _ => fun
  | [d1, d2] => { results := [.lit (.bool true)], args := [d1, d2] }
  | _ => none }
def diskQueueRow : OpenClaim := { program := "ytgdefhlcgmibcaa", sum := "377af95ab3bff7aa5a225c4ead94846632970dcadf142162f10759482efe70ca", func := "simproof/simprooflaw12.DiskQueue", spec := "diskQueue", apart := false }
def DiskQueueSaid : Prop := diskQueueRow.holds Try.pinned (OpenSpec.ofChange diskQueueSpec)

/-- ITS FALSE NEIGHBOUR: 'it returns false'. Refute it at one input. -/
def diskQueueWrong : ChangeSpec := { name := "diskQueue", fn := fun _ => fun
  | [d1, d2] => { results := [.lit (.bool false)], args := [d1, d2] }
  | _ => none }
def DiskQueueWrongFalsely : Prop := diskQueueRow.holds Try.pinned (OpenSpec.ofChange diskQueueWrong)

/-- 'simprooflaw12.DiskResize': WHATEVER THE INPUT: true; the input reads as it did. -/
def diskResizeSpec : ChangeSpec := { name := "diskResize", fn := fun _ => fun
  | [d1, d2, d3] => { results := [.lit (.bool true)], args := [d1, d2, d3] }
  | _ => none }
def diskResizeRow : OpenClaim := { program := "ytgdefhlcgmibcaa", sum := "377af95ab3bff7aa5a225c4ead94846632970dcadf142162f10759482efe70ca", func := "simproof/simprooflaw12.DiskResize", spec := "diskResize", apart := false }
def DiskResizeSaid : Prop := diskResizeRow.holds Try.pinned (OpenSpec.ofChange diskResizeSpec)

/-- ITS FALSE NEIGHBOUR: 'it returns false'. Refute it at one input. -/
def diskResizeWrong : ChangeSpec := { name := "diskResize", fn := fun _ => fun
  | [d1, d2, d3] => { results := [.lit (.bool false)], args := [d1, d2, d3] }
  | _ => none }
def DiskResizeWrongFalsely : Prop := diskResizeRow.holds Try.pinned (OpenSpec.ofChange diskResizeWrong)

/-- 'simprooflaw12.DiskOwn': WHATEVER THE INPUT: true; the input reads as it did. -/
def diskOwnSpec : ChangeSpec := { name := "diskOwn", fn := fun _ => fun
  | [d1, d2, d3, d4] => { results := [.lit (.bool true)], args := [d1, d2, d3, d4] }
  | _ => none }
def diskOwnRow : OpenClaim := { program := "ytgdefhlcgmibcaa", sum := "377af95ab3bff7aa5a225c4ead94846632970dcadf142162f10759482efe70ca", func := "simproof/simprooflaw12.DiskOwn", spec := "diskOwn", apart := false }
def DiskOwnSaid : Prop := diskOwnRow.holds Try.pinned (OpenSpec.ofChange diskOwnSpec)

/-- ITS FALSE NEIGHBOUR: 'it returns false'. Refute it at one input. -/
def diskOwnWrong : ChangeSpec := { name := "diskOwn", fn := fun _ => fun
  | [d1, d2, d3, d4] => { results := [.lit (.bool false)], args := [d1, d2, d3, d4] }
  | _ => none }
def DiskOwnWrongFalsely : Prop := diskOwnRow.holds Try.pinned (OpenSpec.ofChange diskOwnWrong)

/-- 'simprooflaw12.DiskFollows': WHATEVER THE INPUT: true; the input reads as it did. -/
def diskFollowsSpec : ChangeSpec := { name := "diskFollows", fn := fun _ => fun
  | [d1, d2] => { results := [.lit (.bool true)], args := [d1, d2] }
  | _ => none }
def diskFollowsRow : OpenClaim := { program := "ytgdefhlcgmibcaa", sum := "377af95ab3bff7aa5a225c4ead94846632970dcadf142162f10759482efe70ca", func := "simproof/simprooflaw12.DiskFollows", spec := "diskFollows", unfollowed := true, recurses := true, apart := false }
def DiskFollowsSaid : Prop := diskFollowsRow.holds Try.pinned (OpenSpec.ofChange diskFollowsSpec)

/-- ITS FALSE NEIGHBOUR: 'it returns false'. Refute it at one input. -/
def diskFollowsWrong : ChangeSpec := { name := "diskFollows", fn := fun _ => fun
  | [d1, d2] => { results := [.lit (.bool false)], args := [d1, d2] }
  | _ => none }
def DiskFollowsWrongFalsely : Prop := diskFollowsRow.holds Try.pinned (OpenSpec.ofChange diskFollowsWrong)

/- THE SECOND FORM. 'bulk': how many values and letters a reading holds, each counted each time it is reached (what is shared counts as often as it is met; a slice's spare places count too). A statement '..UptoSaid' is the law's where the arguments, and the package variables that the reading takes, are together of bulk at most 1048576: NARROWER than '..Said'. Prove '..Said' where nothing that the law and all that it calls make is longer than what came in: it says more and counts as full. Else prove '..UptoSaid'. A law counts once. -/
mutual
def uptoBulk {H : Type} : DataW H → Nat
  | .lit (.string bytes) => bytes.length + 1
  | .lit _ => 1
  | .nil => 1
  | .ptr d => uptoBulk d + 1
  | .slice elems spare => uptoBulkAll elems + uptoBulkAll spare + 1
  | .agg parts => uptoBulkAll parts + 1
  | .iface _ d => uptoBulk d + 1
  | .map entries => uptoBulkEntries entries + 1
  | .held _ => 1
def uptoBulkAll {H : Type} : List (DataW H) → Nat
  | [] => 0
  | d :: r => uptoBulk d + uptoBulkAll r
def uptoBulkEntries {H : Type} : List (Lit × DataW H) → Nat
  | [] => 0
  | x :: r => uptoBulkEntry x + uptoBulkEntries r
def uptoBulkEntry {H : Type} : Lit × DataW H → Nat
  | (.string bytes, d) => bytes.length + uptoBulk d + 1
  | (_, d) => uptoBulk d + 1
 end
def uptoSmall : (H : Type) → List (DataW H) → Bool := fun _ ds => decide (uptoBulkAll ds ≤ 1048576)
def OpenSpec.upto (s : _root_.Go.ChangeSpec) : _root_.Go.OpenSpec := { _root_.Go.OpenSpec.ofChange s with cond := some uptoSmall }

/-- 'simprooflaw12.DiskOps', WHERE WHAT IT READS IS OF BULK AT MOST 1048576: true; the input reads as it did. -/
def diskOpsUptoRow : OpenClaim := { program := "ytgdefhlcgmibcaa", sum := "377af95ab3bff7aa5a225c4ead94846632970dcadf142162f10759482efe70ca", func := "simproof/simprooflaw12.DiskOps", spec := "diskOps", apart := false, narrowed := true }
def DiskOpsUptoSaid : Prop := diskOpsUptoRow.holds Try.pinned (OpenSpec.upto diskOpsSpec)

/-- 'simprooflaw12.DiskWrites', WHERE WHAT IT READS IS OF BULK AT MOST 1048576: true; the input reads as it did. -/
def diskWritesUptoRow : OpenClaim := { program := "ytgdefhlcgmibcaa", sum := "377af95ab3bff7aa5a225c4ead94846632970dcadf142162f10759482efe70ca", func := "simproof/simprooflaw12.DiskWrites", spec := "diskWrites", apart := false, narrowed := true }
def DiskWritesUptoSaid : Prop := diskWritesUptoRow.holds Try.pinned (OpenSpec.upto diskWritesSpec)

/-- 'simprooflaw12.DiskSync', WHERE WHAT IT READS IS OF BULK AT MOST 1048576: true; the input reads as it did. -/
def diskSyncUptoRow : OpenClaim := { program := "ytgdefhlcgmibcaa", sum := "377af95ab3bff7aa5a225c4ead94846632970dcadf142162f10759482efe70ca", func := "simproof/simprooflaw12.DiskSync", spec := "diskSync", apart := false, narrowed := true }
def DiskSyncUptoSaid : Prop := diskSyncUptoRow.holds Try.pinned (OpenSpec.upto diskSyncSpec)

/-- 'simprooflaw12.DiskCrash', WHERE WHAT IT READS IS OF BULK AT MOST 1048576: true; the input reads as it did. -/
def diskCrashUptoRow : OpenClaim := { program := "ytgdefhlcgmibcaa", sum := "377af95ab3bff7aa5a225c4ead94846632970dcadf142162f10759482efe70ca", func := "simproof/simprooflaw12.DiskCrash", spec := "diskCrash", apart := false, narrowed := true }
def DiskCrashUptoSaid : Prop := diskCrashUptoRow.holds Try.pinned (OpenSpec.upto diskCrashSpec)

/-- 'simprooflaw12.DiskQueue', WHERE WHAT IT READS IS OF BULK AT MOST 1048576: true; the input reads as it did. -/
def diskQueueUptoRow : OpenClaim := { program := "ytgdefhlcgmibcaa", sum := "377af95ab3bff7aa5a225c4ead94846632970dcadf142162f10759482efe70ca", func := "simproof/simprooflaw12.DiskQueue", spec := "diskQueue", apart := false, narrowed := true }
def DiskQueueUptoSaid : Prop := diskQueueUptoRow.holds Try.pinned (OpenSpec.upto diskQueueSpec)

/-- 'simprooflaw12.DiskResize', WHERE WHAT IT READS IS OF BULK AT MOST 1048576: true; the input reads as it did. -/
def diskResizeUptoRow : OpenClaim := { program := "ytgdefhlcgmibcaa", sum := "377af95ab3bff7aa5a225c4ead94846632970dcadf142162f10759482efe70ca", func := "simproof/simprooflaw12.DiskResize", spec := "diskResize", apart := false, narrowed := true }
def DiskResizeUptoSaid : Prop := diskResizeUptoRow.holds Try.pinned (OpenSpec.upto diskResizeSpec)

/-- 'simprooflaw12.DiskOwn', WHERE WHAT IT READS IS OF BULK AT MOST 1048576: true; the input reads as it did. -/
def diskOwnUptoRow : OpenClaim := { program := "ytgdefhlcgmibcaa", sum := "377af95ab3bff7aa5a225c4ead94846632970dcadf142162f10759482efe70ca", func := "simproof/simprooflaw12.DiskOwn", spec := "diskOwn", apart := false, narrowed := true }
def DiskOwnUptoSaid : Prop := diskOwnUptoRow.holds Try.pinned (OpenSpec.upto diskOwnSpec)

/-- 'simprooflaw12.DiskFollows', WHERE WHAT IT READS IS OF BULK AT MOST 1048576: true; the input reads as it did. -/
def diskFollowsUptoRow : OpenClaim := { program := "ytgdefhlcgmibcaa", sum := "377af95ab3bff7aa5a225c4ead94846632970dcadf142162f10759482efe70ca", func := "simproof/simprooflaw12.DiskFollows", spec := "diskFollows", unfollowed := true, recurses := true, apart := false, narrowed := true }
def DiskFollowsUptoSaid : Prop := diskFollowsUptoRow.holds Try.pinned (OpenSpec.upto diskFollowsSpec)

end Rows
end Go.Proofs.Ytgdefhlcgmibcaa
