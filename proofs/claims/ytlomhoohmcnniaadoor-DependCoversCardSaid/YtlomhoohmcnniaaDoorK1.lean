/-
  The ranges of Go's numbers that the texts speak of; no program.
-/
import Derived.Laws.Entries

namespace Go.Proofs.YtlomhoohmcnniaaDoor
open Go

/-- A number that fits a word of 64 bits. -/
def W64 (x : Int) : Prop := 0 ≤ x ∧ x < 18446744073709551616
/-- A number that fits int. -/
def I64 (x : Int) : Prop := -9223372036854775808 ≤ x ∧ x < 9223372036854775808
/-- A number that fits a byte. -/
def B8 (x : Int) : Prop := 0 ≤ x ∧ x < 256

end Go.Proofs.YtlomhoohmcnniaaDoor
