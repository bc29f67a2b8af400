/-
  Go's == of causes and messages. No condition.
-/
import Derived.Test.YtepbppckhfiplaaNmDa
import Derived.Laws.StructEq
import Derived.ChangeKeysEq
namespace Go.Proofs.Ytepbppckhfiplaa
open Go Go.RowKit Go.Proofs
attribute [local go_sem] Oper.semAt_some

set_option maxRecDepth 100000 in
theorem eq_cause (d : Nat) (c h t c' h' t' : Int) (W : World) : (Op.equalIn (d + 2) 24 (.agg #[.int .i64 c, .int .i64 h, .int .i64 t]) (.agg #[.int .i64 c', .int .i64 h', .int .i64 t'])).run Try.prog W = .ok (c == c' && (h == h' && t == t')) W := by
  have u3 := Try.underlying3
  have a3 := Try.isAgg3
  have z3 := Try.sizeOf3
  have ht : Try.prog.underlying 24 = some (.struct (Try.prog.fieldsOf 24)) := by kernel_rfl
  have hp : Try.prog.stoodInHeld 24 = false := by kernel_rfl
  have hf : (Try.prog.fieldsOf 24).toList = [⟨"Node", 3, 0, false, "", "", 0⟩, ⟨"Handler", 3, 1, false, "", "", 8⟩, ⟨"Count", 3, 2, false, "", "", 16⟩] := by kernel_rfl
  rw [run_equalIn_agg _ (d + 1) _ _ _ ht hp, hf]
  clear hf ht hp
  cases e1 : c == c' <;> cases e2 : h == h' <;> cases e3 : t == t' <;> simp [Op.eqFields, go_sem, u3, a3, z3, e1, e2, e3]
set_option maxRecDepth 100000 in
theorem eq_msg (d : Nat) (c h t i p c' h' t' i' p' : Int) (W : World) : (Op.equalIn (d + 3) 26 (.agg #[.int .i64 c, .int .i64 h, .int .i64 t, .int .i64 i, .int .i64 p]) (.agg #[.int .i64 c', .int .i64 h', .int .i64 t', .int .i64 i', .int .i64 p'])).run Try.prog W = .ok ((c == c' && (h == h' && t == t')) && (i == i' && p == p')) W := by
  have u3 := Try.underlying3
  have a3 := Try.isAgg3
  have z3 := Try.sizeOf3
  have a23 := Try.isAgg24
  have z23 := Try.sizeOf24
  have ht : Try.prog.underlying 26 = some (.struct (Try.prog.fieldsOf 26)) := by kernel_rfl
  have hp : Try.prog.stoodInHeld 26 = false := by kernel_rfl
  have hf : (Try.prog.fieldsOf 26).toList = [⟨"Cause", 24, 0, false, "", "", 0⟩, ⟨"Index", 3, 3, false, "", "", 24⟩, ⟨"Copy", 3, 4, false, "", "", 32⟩] := by kernel_rfl
  have hq := eq_cause d c h t c' h' t'
  rw [run_equalIn_agg _ (d + 2) _ _ _ ht hp, hf]
  clear hf ht hp
  generalize (c == c' && (h == h' && t == t')) = b at *
  cases b <;> cases e2 : i == i' <;> cases e3 : p == p' <;> simp [Op.eqFields, go_sem, u3, a3, z3, a23, z23, hq, e2, e3]
theorem beq_dec (a b : Int) : (a == b) = decide (a = b) := rfl
theorem eqM_any (x y : NM.Ms) (W : World) : (binOp .eql 26 (msV x) (msV y)).run Try.prog W = .ok (.bool (decide (x = y))) W := by
  obtain ⟨c, h, t, i, p⟩ := x
  obtain ⟨c', h', t', i', p'⟩ := y
  rw [run_eql_struct, show (10000 : Nat) = 9997 + 3 from rfl, eq_msg]
  show Result.ok (Value.bool _) W = _
  congr 2
  rw [Bool.eq_iff_iff]
  simp [and_assoc]
end Go.Proofs.Ytepbppckhfiplaa
