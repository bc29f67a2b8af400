/-
  What a law is told of an integer that came in. No function of the program.
-/
import Derived.Test.YtepbppckhfiplaaBase
import Derived.OpenShut
import Derived.Deep.Slices
import Derived.Lib.SmallJoins
import Derived.WideShapes
namespace Go.Proofs.Ytepbppckhfiplaa
open Go Go.RowKit Go.Proofs Go.WideShapes

theorem cells_one : Try.prog.cellsOf 3 = 1 := by kernel_rfl
theorem i64_wf {x : Int} (h : (Lit.int .i64 x).wf = true) : I64 x := by
  exact i64_of (l := [x]) (fun n hn => by simp at hn; rw [hn]; exact h) x (by simp)
end Go.Proofs.Ytepbppckhfiplaa
