/-
  No cell of these rows narrows 'for every input' (looked for: loops, veiled, ifaces, maps, wideKeys, modest, calm, conditions, laid).
  DERIVED. THE GIVEN ROWS OF THIS SEAT. 8 by the template 'for every input the law returns true; each argument reads behind the call as it read before'; 0 by the template 'total and deterministic' (their statements: YtofeidacffabdaaTotals.lean).
  GIVEN WITH THE SEED: the statements are not yours to turn. If you find one false, say at which input.
  Laid BY PROGRAM, IN A SANDBOX (cutbox-rows.mjs): the forced cells as the released guide's own fill.sh prints them over the translation cef45438382de2b6… (all of the seat's roots in one cut). By AI agents, Wed Nov 11 2026. No macro, syntax, notation, axiom, sorry.
-/
import Derived.Test.YtofeidacffabdaaChecked
import GoSem.Claim
import GoSem.ClaimJoined
import GoSem.ClaimMapViews
import Derived.JoinedTies
import Derived.KernelRfl
namespace Go.Proofs.Ytofeidacffabdaa
/- THE CELL 'sum', in the pinned program and in every row, IS THE sha256 OF THE DUMP (.gsa) THAT YtofeidacffabdaaProg.lean LOADS. Nothing in Lean hashes anything: it is a label: what it is worth is what the hold of that sum in a sandbox is worth. -/
noncomputable def Try.pinned : Pinned := { name := "ytofeidacffabdaa", sum := "cef45438382de2b66f5dfadc2a8e6bdcbaaba3a109c00ba4e150cdcd8ba9c70a", checked := Try.checked }
namespace Rows
def none {H : Type} : Left H := { results := [], args := [] }

/-- 'simprooflaw07.TypesExpressions': WHATEVER THE INPUT: true; the input reads as it did. -/
def typesExpressionsSpec : ChangeSpec := { name := "typesExpressions", fn := fun _ => fun
  | [d] => { results := [.lit (.bool true)], args := [d] }
  | _ => none }
def typesExpressionsRow : OpenClaim := { program := "ytofeidacffabdaa", sum := "cef45438382de2b66f5dfadc2a8e6bdcbaaba3a109c00ba4e150cdcd8ba9c70a", func := "simproof/simprooflaw07.TypesExpressions", spec := "typesExpressions", unfollowed := true, recurses := true, apart := false }
def TypesExpressionsSaid : Prop := typesExpressionsRow.holds Try.pinned (OpenSpec.ofChange typesExpressionsSpec)

/-- ITS FALSE NEIGHBOUR: 'it returns false'. Refute it at one input. -/
def typesExpressionsWrong : ChangeSpec := { name := "typesExpressions", fn := fun _ => fun
  | [d] => { results := [.lit (.bool false)], args := [d] }
  | _ => none }
def TypesExpressionsWrongFalsely : Prop := typesExpressionsRow.holds Try.pinned (OpenSpec.ofChange typesExpressionsWrong)

/-- 'simprooflaw07.TypesPrograms': WHATEVER THE INPUT: true; the input reads as it did. -/
def typesProgramsSpec : ChangeSpec := { name := "typesPrograms", fn := fun _ => fun
  | [d] => { results := [.lit (.bool true)], args := [d] }
  | _ => none }
def typesProgramsRow : OpenClaim := { program := "ytofeidacffabdaa", sum := "cef45438382de2b66f5dfadc2a8e6bdcbaaba3a109c00ba4e150cdcd8ba9c70a", func := "simproof/simprooflaw07.TypesPrograms", spec := "typesPrograms", unfollowed := true, recurses := true, apart := false }
def TypesProgramsSaid : Prop := typesProgramsRow.holds Try.pinned (OpenSpec.ofChange typesProgramsSpec)

/-- ITS FALSE NEIGHBOUR: 'it returns false'. Refute it at one input. -/
def typesProgramsWrong : ChangeSpec := { name := "typesPrograms", fn := fun _ => fun
  | [d] => { results := [.lit (.bool false)], args := [d] }
  | _ => none }
def TypesProgramsWrongFalsely : Prop := typesProgramsRow.holds Try.pinned (OpenSpec.ofChange typesProgramsWrong)

/-- 'simprooflaw07.TypesStatements': WHATEVER THE INPUT: true; the input reads as it did. -/
def typesStatementsSpec : ChangeSpec := { name := "typesStatements", fn := fun _ => fun
  | [d1, d2, d3] => { results := [.lit (.bool true)], args := [d1, d2, d3] }
  | _ => none }
def typesStatementsRow : OpenClaim := { program := "ytofeidacffabdaa", sum := "cef45438382de2b66f5dfadc2a8e6bdcbaaba3a109c00ba4e150cdcd8ba9c70a", func := "simproof/simprooflaw07.TypesStatements", spec := "typesStatements", unfollowed := true, recurses := true, apart := false }
def TypesStatementsSaid : Prop := typesStatementsRow.holds Try.pinned (OpenSpec.ofChange typesStatementsSpec)

/-- ITS FALSE NEIGHBOUR: 'it returns false'. Refute it at one input. -/
def typesStatementsWrong : ChangeSpec := { name := "typesStatements", fn := fun _ => fun
  | [d1, d2, d3] => { results := [.lit (.bool false)], args := [d1, d2, d3] }
  | _ => none }
def TypesStatementsWrongFalsely : Prop := typesStatementsRow.holds Try.pinned (OpenSpec.ofChange typesStatementsWrong)

/-- 'simprooflaw07.TypesSubstitution': WHATEVER THE INPUT: true; the input reads as it did. -/
def typesSubstitutionSpec : ChangeSpec := { name := "typesSubstitution", fn := fun _ => fun
  | [d1, d2, d3] => { results := [.lit (.bool true)], args := [d1, d2, d3] }
  | _ => none }
def typesSubstitutionRow : OpenClaim := { program := "ytofeidacffabdaa", sum := "cef45438382de2b66f5dfadc2a8e6bdcbaaba3a109c00ba4e150cdcd8ba9c70a", func := "simproof/simprooflaw07.TypesSubstitution", spec := "typesSubstitution", unfollowed := true, recurses := true, apart := false }
def TypesSubstitutionSaid : Prop := typesSubstitutionRow.holds Try.pinned (OpenSpec.ofChange typesSubstitutionSpec)

/-- ITS FALSE NEIGHBOUR: 'it returns false'. Refute it at one input. -/
def typesSubstitutionWrong : ChangeSpec := { name := "typesSubstitution", fn := fun _ => fun
  | [d1, d2, d3] => { results := [.lit (.bool false)], args := [d1, d2, d3] }
  | _ => none }
def TypesSubstitutionWrongFalsely : Prop := typesSubstitutionRow.holds Try.pinned (OpenSpec.ofChange typesSubstitutionWrong)

/-- 'simprooflaw07.TypesModular': WHATEVER THE INPUT: true; the input reads as it did. -/
def typesModularSpec : ChangeSpec := { name := "typesModular", fn := fun _ => fun
  | [d] => { results := [.lit (.bool true)], args := [d] }
  | _ => none }
def typesModularRow : OpenClaim := { program := "ytofeidacffabdaa", sum := "cef45438382de2b66f5dfadc2a8e6bdcbaaba3a109c00ba4e150cdcd8ba9c70a", func := "simproof/simprooflaw07.TypesModular", spec := "typesModular", unfollowed := true, recurses := true, apart := false }
def TypesModularSaid : Prop := typesModularRow.holds Try.pinned (OpenSpec.ofChange typesModularSpec)

/-- ITS FALSE NEIGHBOUR: 'it returns false'. Refute it at one input. -/
def typesModularWrong : ChangeSpec := { name := "typesModular", fn := fun _ => fun
  | [d] => { results := [.lit (.bool false)], args := [d] }
  | _ => none }
def TypesModularWrongFalsely : Prop := typesModularRow.holds Try.pinned (OpenSpec.ofChange typesModularWrong)

/-- 'simprooflaw07.TypesRenaming': WHATEVER THE INPUT: true; the input reads as it did. -/
def typesRenamingSpec : ChangeSpec := { name := "typesRenaming", fn := fun _ => fun
  | [d1, d2] => { results := [.lit (.bool true)], args := [d1, d2] }
  | _ => none }
def typesRenamingRow : OpenClaim := { program := "ytofeidacffabdaa", sum := "cef45438382de2b66f5dfadc2a8e6bdcbaaba3a109c00ba4e150cdcd8ba9c70a", func := "simproof/simprooflaw07.TypesRenaming", spec := "typesRenaming", unfollowed := true, recurses := true, apart := false }
def TypesRenamingSaid : Prop := typesRenamingRow.holds Try.pinned (OpenSpec.ofChange typesRenamingSpec)

/-- ITS FALSE NEIGHBOUR: 'it returns false'. Refute it at one input. -/
def typesRenamingWrong : ChangeSpec := { name := "typesRenaming", fn := fun _ => fun
  | [d1, d2] => { results := [.lit (.bool false)], args := [d1, d2] }
  | _ => none }
def TypesRenamingWrongFalsely : Prop := typesRenamingRow.holds Try.pinned (OpenSpec.ofChange typesRenamingWrong)

/-- 'simprooflaw07.TypesIndex': WHATEVER THE INPUT: true; the input reads as it did. -/
def typesIndexSpec : ChangeSpec := { name := "typesIndex", fn := fun _ => fun
  | [d1, d2] => { results := [.lit (.bool true)], args := [d1, d2] }
  | _ => none }
def typesIndexRow : OpenClaim := { program := "ytofeidacffabdaa", sum := "cef45438382de2b66f5dfadc2a8e6bdcbaaba3a109c00ba4e150cdcd8ba9c70a", func := "simproof/simprooflaw07.TypesIndex", spec := "typesIndex", unfollowed := true, recurses := true, apart := false }
def TypesIndexSaid : Prop := typesIndexRow.holds Try.pinned (OpenSpec.ofChange typesIndexSpec)

/-- ITS FALSE NEIGHBOUR: 'it returns false'. Refute it at one input. -/
def typesIndexWrong : ChangeSpec := { name := "typesIndex", fn := fun _ => fun
  | [d1, d2] => { results := [.lit (.bool false)], args := [d1, d2] }
  | _ => none }
def TypesIndexWrongFalsely : Prop := typesIndexRow.holds Try.pinned (OpenSpec.ofChange typesIndexWrong)

/-- 'simprooflaw07.TypesDeclared': WHATEVER THE INPUT: true; the input reads as it did. -/
def typesDeclaredSpec : ChangeSpec := { name := "typesDeclared", fn := fun _ => fun
  | [d1, d2] => { results := [.lit (.bool true)], args := [d1, d2] }
  | _ => none }
def typesDeclaredRow : OpenClaim := { program := "ytofeidacffabdaa", sum := "cef45438382de2b66f5dfadc2a8e6bdcbaaba3a109c00ba4e150cdcd8ba9c70a", func := "simproof/simprooflaw07.TypesDeclared", spec := "typesDeclared", unfollowed := true, recurses := true, apart := false }
def TypesDeclaredSaid : Prop := typesDeclaredRow.holds Try.pinned (OpenSpec.ofChange typesDeclaredSpec)

/-- ITS FALSE NEIGHBOUR: 'it returns false'. Refute it at one input. -/
def typesDeclaredWrong : ChangeSpec := { name := "typesDeclared", fn := fun _ => fun
  | [d1, d2] => { results := [.lit (.bool false)], args := [d1, d2] }
  | _ => none }
def TypesDeclaredWrongFalsely : Prop := typesDeclaredRow.holds Try.pinned (OpenSpec.ofChange typesDeclaredWrong)

/- THE SECOND FORM. 'bulk': how many values and letters a reading holds, each counted each time it is reached (what is shared counts as often as it is met; a slice's spare places count too). A statement '..UptoSaid' is the law's where the arguments, and the package variables that the reading takes, are together of bulk at most 1048576: NARROWER than '..Said'. Prove '..Said' where nothing that the law and all that it calls make is longer than what came in: it says more and counts as full. Else prove '..UptoSaid'. A law counts once. -/
mutual
def uptoBulk {H : Type} : DataW H → Nat
  | .lit (.string bytes) => bytes.length + 1
  | .lit _ => 1
  | .nil => 1
  | .ptr d => uptoBulk d + 1
  | .slice elems spare => uptoBulkAll elems + uptoBulkAll spare + 1
  | .agg parts => uptoBulkAll parts + 1
  | .iface _ d => uptoBulk d + 1
  | .map entries => uptoBulkEntries entries + 1
  | .held _ => 1
def uptoBulkAll {H : Type} : List (DataW H) → Nat
  | [] => 0
  | d :: r => uptoBulk d + uptoBulkAll r
def uptoBulkEntries {H : Type} : List (Lit × DataW H) → Nat
  | [] => 0
  | x :: r => uptoBulkEntry x + uptoBulkEntries r
def uptoBulkEntry {H : Type} : Lit × DataW H → Nat
  | (.string bytes, d) => bytes.length + uptoBulk d + 1
  | (_, d) => uptoBulk d + 1
 end
def uptoSmall : (H : Type) → List (DataW H) → Bool := fun _ ds => decide (uptoBulkAll ds ≤ 1048576)
def OpenSpec.upto (s : _root_.Go.ChangeSpec) : _root_.Go.OpenSpec := { _root_.Go.OpenSpec.ofChange s with cond := some uptoSmall }

/-- 'simprooflaw07.TypesExpressions', WHERE WHAT IT READS IS OF BULK AT MOST 1048576: true; the input reads as it did. -/
def typesExpressionsUptoRow : OpenClaim := { program := "ytofeidacffabdaa", sum := "cef45438382de2b66f5dfadc2a8e6bdcbaaba3a109c00ba4e150cdcd8ba9c70a", func := "simproof/simprooflaw07.TypesExpressions", spec := "typesExpressions", unfollowed := true, recurses := true, apart := false, narrowed := true }
def TypesExpressionsUptoSaid : Prop := typesExpressionsUptoRow.holds Try.pinned (OpenSpec.upto typesExpressionsSpec)

/-- 'simprooflaw07.TypesPrograms', WHERE WHAT IT READS IS OF BULK AT MOST 1048576: true; the input reads as it did. -/
def typesProgramsUptoRow : OpenClaim := { program := "ytofeidacffabdaa", sum := "cef45438382de2b66f5dfadc2a8e6bdcbaaba3a109c00ba4e150cdcd8ba9c70a", func := "simproof/simprooflaw07.TypesPrograms", spec := "typesPrograms", unfollowed := true, recurses := true, apart := false, narrowed := true }
def TypesProgramsUptoSaid : Prop := typesProgramsUptoRow.holds Try.pinned (OpenSpec.upto typesProgramsSpec)

/-- 'simprooflaw07.TypesStatements', WHERE WHAT IT READS IS OF BULK AT MOST 1048576: true; the input reads as it did. -/
def typesStatementsUptoRow : OpenClaim := { program := "ytofeidacffabdaa", sum := "cef45438382de2b66f5dfadc2a8e6bdcbaaba3a109c00ba4e150cdcd8ba9c70a", func := "simproof/simprooflaw07.TypesStatements", spec := "typesStatements", unfollowed := true, recurses := true, apart := false, narrowed := true }
def TypesStatementsUptoSaid : Prop := typesStatementsUptoRow.holds Try.pinned (OpenSpec.upto typesStatementsSpec)

/-- 'simprooflaw07.TypesSubstitution', WHERE WHAT IT READS IS OF BULK AT MOST 1048576: true; the input reads as it did. -/
def typesSubstitutionUptoRow : OpenClaim := { program := "ytofeidacffabdaa", sum := "cef45438382de2b66f5dfadc2a8e6bdcbaaba3a109c00ba4e150cdcd8ba9c70a", func := "simproof/simprooflaw07.TypesSubstitution", spec := "typesSubstitution", unfollowed := true, recurses := true, apart := false, narrowed := true }
def TypesSubstitutionUptoSaid : Prop := typesSubstitutionUptoRow.holds Try.pinned (OpenSpec.upto typesSubstitutionSpec)

/-- 'simprooflaw07.TypesModular', WHERE WHAT IT READS IS OF BULK AT MOST 1048576: true; the input reads as it did. -/
def typesModularUptoRow : OpenClaim := { program := "ytofeidacffabdaa", sum := "cef45438382de2b66f5dfadc2a8e6bdcbaaba3a109c00ba4e150cdcd8ba9c70a", func := "simproof/simprooflaw07.TypesModular", spec := "typesModular", unfollowed := true, recurses := true, apart := false, narrowed := true }
def TypesModularUptoSaid : Prop := typesModularUptoRow.holds Try.pinned (OpenSpec.upto typesModularSpec)

/-- 'simprooflaw07.TypesRenaming', WHERE WHAT IT READS IS OF BULK AT MOST 1048576: true; the input reads as it did. -/
def typesRenamingUptoRow : OpenClaim := { program := "ytofeidacffabdaa", sum := "cef45438382de2b66f5dfadc2a8e6bdcbaaba3a109c00ba4e150cdcd8ba9c70a", func := "simproof/simprooflaw07.TypesRenaming", spec := "typesRenaming", unfollowed := true, recurses := true, apart := false, narrowed := true }
def TypesRenamingUptoSaid : Prop := typesRenamingUptoRow.holds Try.pinned (OpenSpec.upto typesRenamingSpec)

/-- 'simprooflaw07.TypesIndex', WHERE WHAT IT READS IS OF BULK AT MOST 1048576: true; the input reads as it did. -/
def typesIndexUptoRow : OpenClaim := { program := "ytofeidacffabdaa", sum := "cef45438382de2b66f5dfadc2a8e6bdcbaaba3a109c00ba4e150cdcd8ba9c70a", func := "simproof/simprooflaw07.TypesIndex", spec := "typesIndex", unfollowed := true, recurses := true, apart := false, narrowed := true }
def TypesIndexUptoSaid : Prop := typesIndexUptoRow.holds Try.pinned (OpenSpec.upto typesIndexSpec)

/-- 'simprooflaw07.TypesDeclared', WHERE WHAT IT READS IS OF BULK AT MOST 1048576: true; the input reads as it did. -/
def typesDeclaredUptoRow : OpenClaim := { program := "ytofeidacffabdaa", sum := "cef45438382de2b66f5dfadc2a8e6bdcbaaba3a109c00ba4e150cdcd8ba9c70a", func := "simproof/simprooflaw07.TypesDeclared", spec := "typesDeclared", unfollowed := true, recurses := true, apart := false, narrowed := true }
def TypesDeclaredUptoSaid : Prop := typesDeclaredUptoRow.holds Try.pinned (OpenSpec.upto typesDeclaredSpec)

end Rows
end Go.Proofs.Ytofeidacffabdaa
