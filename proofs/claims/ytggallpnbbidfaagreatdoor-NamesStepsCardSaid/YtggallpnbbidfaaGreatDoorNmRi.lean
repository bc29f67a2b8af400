/-
  Small words: the integer of a value; a world that has drawn. No function of the program.
-/
import Derived.Test.YtggallpnbbidfaaGreatDoorNmE
namespace Go.Proofs.YtggallpnbbidfaaGreatDoor
open Go Go.RowKit Go.Proofs

def intOf : Value → Int
  | .int _ n => n
  | _ => 0
theorem drewN_below (w : World) (q : Nat) : Below w.heap.size w (w.drewN q) := ⟨rfl, rfl, rfl, Nat.le_refl _, fun _ _ => rfl⟩
end Go.Proofs.YtggallpnbbidfaaGreatDoor
