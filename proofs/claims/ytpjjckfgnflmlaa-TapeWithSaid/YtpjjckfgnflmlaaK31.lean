/-
  An operation whose guard was not reached is not wanted. No function of the program.
-/
import Derived.Test.YtpjjckfgnflmlaaK15

namespace Go.Proofs.Ytpjjckfgnflmlaa.RgX
open Go Go.RowKit Go.Proofs Go.Proofs.Ytpjjckfgnflmlaa
theorem wanted_undef {ops : Array Oper} {o : Oper} {tmps : Array Value} {j s : Nat} {pol : Bool} (hg : o.guard = some (j, pol)) (hd : (ops[j]?).bind (·.dst) = some s) (hv : tmps[s]? = some undef) : Region.wanted o (yielded ops tmps) = false := by
  unfold Region.wanted yielded
  rw [hg]
  simp only [hd, Option.bind_some, hv]
  rfl
end Go.Proofs.Ytpjjckfgnflmlaa.RgX
