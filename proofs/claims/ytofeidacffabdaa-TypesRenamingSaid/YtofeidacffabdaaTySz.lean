/-
  The reference's source: statement and block at every depth. Condition: the source lies in a block of its own.
-/
import Derived.Test.YtofeidacffabdaaTyBk
import Derived.Test.YtofeidacffabdaaTySt
namespace Go.Proofs.Ytofeidacffabdaa
open Go Go.RowKit Go.Proofs Go.Shelf

theorem st_any (L : List Int) : ∀ d : Nat, d ≤ 100 → GAt 44 L (d : Int) (TY.stG L d) (es d)
  | 0, _ => st_leaf L _
  | d + 1, h => by
    have hb : GAt 36 L (((d + 1 : Nat) : Int) - 1) (TY.blockG L (TY.stG L d)) (1 + 3 * es d) := by
      rw [show (((d + 1 : Nat) : Int) - 1) = (d : Int) by omega]
      exact block_any L (d : Int) (TY.stG L d) (es d) (st_any L d (by omega))
    exact st_more L (d + 1) _ _ (by omega) h hb
theorem bl_any (L : List Int) (d : Nat) (h : d ≤ 100) : GAt 36 L (d : Int) (TY.blockG L (TY.stG L d)) (1 + 3 * es d) := block_any L (d : Int) (TY.stG L d) (es d) (st_any L d h)
end Go.Proofs.Ytofeidacffabdaa
