/-
  Steps of a deferred function; what the machine's Run defers, at a frame that returns.
-/
import Derived.Test.YtgdefhlcgmibcaaVmR
import Derived.Defers
import Derived.Recover
namespace Go.Proofs.Ytgdefhlcgmibcaa
open Go Go.RowKit Go.Proofs
attribute [local go_sem] Oper.semAt_some

section
variable {P : Program} {ops : Array Oper} {Q : Exit → Act → List Frame → World → Prop} {a : Act} {cs : List Frame} {w w' : World} {i : Nat} {rest : List Nat} {o : Oper} {v : Value}
theorem s_val (ho : ops[i]? = some o) (hg : o.guard = none) (hrun : (execOp a.eval o).run P w = .ok (.value v) w') (h : wpOpsS P ops Q rest (a.put o.dst v) cs w') : wpOpsS P ops Q (i :: rest) a cs w := by
  unfold wpOpsS
  rw [ho]
  simp only
  rw [if_pos (by unfold Region.wanted; rw [hg]), hrun]
  exact h
theorem s_val2 {a' : Act} (v : Value) (ho : ops[i]? = some o) (hg : o.guard = none) (hrun : (execOp a.eval o).run P w = .ok (.value v) w') (ha : a.put o.dst v = a') (h : wpOpsS P ops Q rest a' cs w') : wpOpsS P ops Q (i :: rest) a cs w := s_val ho hg hrun (ha ▸ h)
theorem s_skip (ho : ops[i]? = some o) (hg : o.guard = none) (hrun : (execOp a.eval o).run P w = .ok .skip w') (h : wpOpsS P ops Q rest (a.put o.dst undef) cs w') : wpOpsS P ops Q (i :: rest) a cs w := by
  unfold wpOpsS
  rw [ho]
  simp only
  rw [if_pos (by unfold Region.wanted; rw [hg]), hrun]
  exact h
theorem s_none (ho : ops[i]? = some o) (hg : o.guard = none) (hrun : (execOp a.eval o).run P w = .ok .recover w') (hr : recoverD cs = none) (h : wpOpsS P ops Q rest (a.put o.dst .nilIface) cs w') : wpOpsS P ops Q (i :: rest) a cs w := by
  unfold wpOpsS
  rw [ho]
  simp only
  rw [if_pos (by unfold Region.wanted; rw [hg]), hrun]
  simp only
  rw [hr]
  exact h
theorem s_some {cs' : List Frame} (ho : ops[i]? = some o) (hg : o.guard = none) (hrun : (execOp a.eval o).run P w = .ok .recover w') (hr : recoverD cs = some (v, cs')) (h : wpOpsS P ops Q rest (a.put o.dst v) cs' w') : wpOpsS P ops Q (i :: rest) a cs w := by
  unfold wpOpsS
  rw [ho]
  simp only
  rw [if_pos (by unfold Region.wanted; rw [hg]), hrun]
  simp only
  rw [hr]
  exact h
end
set_option maxRecDepth 100000 in
set_option maxHeartbeats 2000000 in
theorem vm_idle (p : Addr) (w : World) : CallsD Try.prog 39 #[.pointer (some p)] .returning w fun e u' w' => e = .returned (.tuple #[]) ∧ u' = .returning ∧ w = w' := by
  refine callsD_of_wpS Try.func39 rfl fun c₀ cs hu => ?_
  apply wpS_seq
  apply wpS_region
  change wpOpsS _ _ _ [0, 1] ⟨#[.pointer (some p), undef, undef, undef], []⟩ _ _
  refine s_none rfl rfl rfl (by simp [recoverD, hu]) ?_
  change wpOpsS _ _ _ [1] ⟨#[.pointer (some p), .nilIface, undef, undef], []⟩ _ _
  refine s_val2 (a' := ⟨#[.pointer (some p), .nilIface, .bool false, undef], []⟩) (w' := w) (.bool false) rfl rfl (by kernel_rfl) rfl ?_
  change Code.wpS _ _ _ ⟨#[.pointer (some p), .nilIface, .bool false, undef], []⟩ _ _
  refine wpS_cond (t := false) rfl ?_
  simp only [Bool.false_eq_true, if_false]
  refine wpS_of_wp (wp_skip ?_)
  cases c₀
  simp_all [bodyPostS, results, Try.results39]
end Go.Proofs.Ytgdefhlcgmibcaa
