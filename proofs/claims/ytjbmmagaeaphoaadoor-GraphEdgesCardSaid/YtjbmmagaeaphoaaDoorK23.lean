/-
  (The template XMixP under the namespace H, for seats that hold other stages too.) (A part of the template Mix, for seats without the reference's mix.) The contracts of the two mixing functions: each returns the mixture of a state and a word and leaves the world as it was. Condition: none.
-/
import Derived.Test.YtjbmmagaeaphoaaDoorRows
import Derived.Test.YtjbmmagaeaphoaaDoorK21
import Derived.WalkKit
import Derived.WalkSpells
import Derived.WalkLawsBesides

namespace Go.Proofs.YtjbmmagaeaphoaaDoor.H
open Go.RowKit

theorem ret_u64 {a b : Int} (h : a = b) : Ending.returned (.int .u64 a) = .returned (.int .u64 b) := by rw [h]

set_option maxHeartbeats 400000 in
theorem mix_any (s x : Int) (w : World) :
    Calls Tryd.prog 44 #[.int .u64 s, .int .u64 x] w fun e w' => e = .returned (.int .u64 (mixI s x)) ∧ w = w' := by
  go_enter Tryd.func44, Tryd.ntmps44
  go_wp2
  go_ret
  exact ⟨rfl, rfl⟩

theorem mix_quo (m : Int) : IntKind.u64.wrap ((IntKind.u64.wrap m).tdiv 4294967296) = IntKind.u64.wrap m / 4294967296 :=
  IntWalk.u64_quo _ _ (by rw [IntKind.wrap_u64]; omega)
end Go.Proofs.YtjbmmagaeaphoaaDoor.H
