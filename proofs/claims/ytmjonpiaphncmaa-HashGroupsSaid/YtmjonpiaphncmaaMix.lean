/-
  The contracts of the two mixing functions: each returns the mixture of a state and a word and leaves the world as it was. Condition: none.
-/
import Derived.Test.YtmjonpiaphncmaaRows
import Derived.Test.YtmjonpiaphncmaaMath
import Derived.WalkKit
import Derived.WalkSpells
import Derived.WalkLawsBesides
namespace Go.Proofs.Ytmjonpiaphncmaa
open Go.RowKit

theorem ret_u64 {a b : Int} (h : a = b) : Ending.returned (.int .u64 a) = .returned (.int .u64 b) := by rw [h]

set_option maxHeartbeats 400000 in
theorem mix_any (s x : Int) (w : World) :
    Calls Try.prog 26 #[.int .u64 s, .int .u64 x] w fun e w' => e = .returned (.int .u64 (mixI s x)) ∧ w = w' := by
  go_enter Try.func26, Try.ntmps26
  go_wp2
  go_ret
  exact ⟨rfl, rfl⟩

theorem mix_quo (m : Int) : IntKind.u64.wrap ((IntKind.u64.wrap m).tdiv 4294967296) = IntKind.u64.wrap m / 4294967296 :=
  IntWalk.u64_quo _ _ (by rw [IntKind.wrap_u64]; omega)

set_option maxHeartbeats 400000 in
theorem refmix_any (s x : Int) (w : World) :
    Calls Try.prog 27 #[.int .u64 s, .int .u64 x] w fun e w' => e = .returned (.int .u64 (mixI s x)) ∧ w = w' := by
  go_enter Try.func27, Try.ntmps27
  go_wp2
  go_ret
  exact ⟨ret_u64 (by unfold mixI; rw [mix_quo]), rfl⟩
end Go.Proofs.Ytmjonpiaphncmaa
