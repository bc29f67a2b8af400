/-
  The contract of the reference model's Around: a number within bounds. Condition: the bound is positive.
-/
import Derived.Test.YtepbppckhfiplaaBase
namespace Go.Proofs.Ytepbppckhfiplaa
open Go Go.RowKit

def around (n m : Int) : Int := (if n < 0 then -(n + 1) else n) % m
theorem around_in (n m : Int) (hm : 0 < m) : 0 ≤ around n m ∧ around n m < m := ⟨Int.emod_nonneg _ (by omega), Int.emod_lt_of_pos _ hm⟩
set_option maxHeartbeats 400000 in
theorem around_any (n m : Int) (hn : I64 n) (hm : 0 < m) (hm2 : m ≤ 1099511627776) (w : World) :
    Calls Try.prog 18 #[.int .i64 n, .int .i64 m] w fun e w' => e = .returned (.int .i64 (around n m)) ∧ w = w' := by
  obtain ⟨n0, n1⟩ := hn
  have hz : (m == 0) = false := by simp; omega
  by_cases h : n < 0
  · have H := Lib.hid (show around n m = -((n + 1).tmod m) by unfold around; rw [if_pos h, ← Int.neg_tmod, Int.tmod_eq_emod_of_nonneg (by omega)])
    go_enter Try.func18, Try.ntmps18
    go_wp2
    go_ret
    exact ⟨by rw [H.out]; rfl, rfl⟩
  · have H := Lib.hid (show around n m = n % m by unfold around; rw [if_neg h])
    go_enter Try.func18, Try.ntmps18
    go_wp2
    go_ret
    exact ⟨by rw [H.out]; rfl, rfl⟩

end Go.Proofs.Ytepbppckhfiplaa
