/-
  Go's == of causes, messages, events and questions. No condition.
-/
import Derived.Test.YtggallpnbbidfaaGreatDoorNmT
import Derived.Laws.StructEq
import Derived.ChangeKeysEq
namespace Go.Proofs.YtggallpnbbidfaaGreatDoor
open Go Go.RowKit Go.Proofs
attribute [local go_sem] Oper.semAt_some

set_option maxRecDepth 100000 in
theorem eq_cause (d : Nat) (c h t c' h' t' : Int) (W : World) : (Op.equalIn (d + 2) 24 (.agg #[.int .i64 c, .int .i64 h, .int .i64 t]) (.agg #[.int .i64 c', .int .i64 h', .int .i64 t'])).run Tryz.prog W = .ok (c == c' && (h == h' && t == t')) W := by
  have u3 := Tryz.underlying3
  have a3 := Tryz.isAgg3
  have z3 := Tryz.sizeOf3
  have ht : Tryz.prog.underlying 24 = some (.struct (Tryz.prog.fieldsOf 24)) := by kernel_rfl
  have hp : Tryz.prog.stoodInHeld 24 = false := by kernel_rfl
  have hf : (Tryz.prog.fieldsOf 24).toList = [⟨"Node", 3, 0, false, "", "", 0⟩, ⟨"Handler", 3, 1, false, "", "", 8⟩, ⟨"Count", 3, 2, false, "", "", 16⟩] := by kernel_rfl
  rw [run_equalIn_agg _ (d + 1) _ _ _ ht hp, hf]
  clear hf ht hp
  cases e1 : c == c' <;> cases e2 : h == h' <;> cases e3 : t == t' <;> simp [Op.eqFields, go_sem, u3, a3, z3, e1, e2, e3]
set_option maxRecDepth 100000 in
theorem eq_msg (d : Nat) (c h t i p c' h' t' i' p' : Int) (W : World) : (Op.equalIn (d + 3) 26 (.agg #[.int .i64 c, .int .i64 h, .int .i64 t, .int .i64 i, .int .i64 p]) (.agg #[.int .i64 c', .int .i64 h', .int .i64 t', .int .i64 i', .int .i64 p'])).run Tryz.prog W = .ok ((c == c' && (h == h' && t == t')) && (i == i' && p == p')) W := by
  have u3 := Tryz.underlying3
  have a3 := Tryz.isAgg3
  have z3 := Tryz.sizeOf3
  have a23 := Tryz.isAgg24
  have z23 := Tryz.sizeOf24
  have ht : Tryz.prog.underlying 26 = some (.struct (Tryz.prog.fieldsOf 26)) := by kernel_rfl
  have hp : Tryz.prog.stoodInHeld 26 = false := by kernel_rfl
  have hf : (Tryz.prog.fieldsOf 26).toList = [⟨"Cause", 24, 0, false, "", "", 0⟩, ⟨"Index", 3, 3, false, "", "", 24⟩, ⟨"Copy", 3, 4, false, "", "", 32⟩] := by kernel_rfl
  have hq := eq_cause d c h t c' h' t'
  rw [run_equalIn_agg _ (d + 2) _ _ _ ht hp, hf]
  clear hf ht hp
  generalize (c == c' && (h == h' && t == t')) = b at *
  cases b <;> cases e2 : i == i' <;> cases e3 : p == p' <;> simp [Op.eqFields, go_sem, u3, a3, z3, a23, z23, hq, e2, e3]
set_option maxRecDepth 100000 in
theorem eq_event (d : Nat) (k n a c h t i p k' n' a' c' h' t' i' p' : Int) (W : World) : (Op.equalIn (d + 4) 28 (.agg #[.int .i64 k, .int .i64 n, .int .i64 a, .int .i64 c, .int .i64 h, .int .i64 t, .int .i64 i, .int .i64 p]) (.agg #[.int .i64 k', .int .i64 n', .int .i64 a', .int .i64 c', .int .i64 h', .int .i64 t', .int .i64 i', .int .i64 p'])).run Tryz.prog W = .ok (k == k' && (n == n' && (a == a' && ((c == c' && (h == h' && t == t')) && (i == i' && p == p'))))) W := by
  have u3 := Tryz.underlying3
  have a3 := Tryz.isAgg3
  have z3 := Tryz.sizeOf3
  have a23 := Tryz.isAgg26
  have z23 := Tryz.sizeOf26
  have ht : Tryz.prog.underlying 28 = some (.struct (Tryz.prog.fieldsOf 28)) := by kernel_rfl
  have hp : Tryz.prog.stoodInHeld 28 = false := by kernel_rfl
  have hf : (Tryz.prog.fieldsOf 28).toList = [⟨"Kind", 3, 0, false, "", "", 0⟩, ⟨"Node", 3, 1, false, "", "", 8⟩, ⟨"Arg", 3, 2, false, "", "", 16⟩, ⟨"Msg", 26, 3, false, "", "", 24⟩] := by kernel_rfl
  have hq := eq_msg d c h t i p c' h' t' i' p'
  rw [run_equalIn_agg _ (d + 3) _ _ _ ht hp, hf]
  clear hf ht hp
  generalize ((c == c' && (h == h' && t == t')) && (i == i' && p == p')) = b at *
  cases e1 : k == k' <;> cases e2 : n == n' <;> cases e3 : a == a' <;> cases b <;> simp [Op.eqFields, go_sem, u3, a3, z3, a23, z23, hq, e1, e2, e3]
set_option maxRecDepth 100000 in
theorem eq_question (d : Nat) (c h t k i c' h' t' k' i' : Int) (W : World) : (Op.equalIn (d + 3) 36 (.agg #[.int .i64 c, .int .i64 h, .int .i64 t, .int .i64 k, .int .i64 i]) (.agg #[.int .i64 c', .int .i64 h', .int .i64 t', .int .i64 k', .int .i64 i'])).run Tryz.prog W = .ok ((c == c' && (h == h' && t == t')) && (k == k' && i == i')) W := by
  have u3 := Tryz.underlying3
  have a3 := Tryz.isAgg3
  have z3 := Tryz.sizeOf3
  have a23 := Tryz.isAgg24
  have z23 := Tryz.sizeOf24
  have ht : Tryz.prog.underlying 36 = some (.struct (Tryz.prog.fieldsOf 36)) := by kernel_rfl
  have hp : Tryz.prog.stoodInHeld 36 = false := by kernel_rfl
  have hf : (Tryz.prog.fieldsOf 36).toList = [⟨"Cause", 24, 0, false, "", "", 0⟩, ⟨"Kind", 3, 3, false, "", "", 24⟩, ⟨"Index", 3, 4, false, "", "", 32⟩] := by kernel_rfl
  have hq := eq_cause d c h t c' h' t'
  rw [run_equalIn_agg _ (d + 2) _ _ _ ht hp, hf]
  clear hf ht hp
  generalize (c == c' && (h == h' && t == t')) = b at *
  cases b <;> cases e2 : k == k' <;> cases e3 : i == i' <;> simp [Op.eqFields, go_sem, u3, a3, z3, a23, z23, hq, e2, e3]
theorem beq_dec (a b : Int) : (a == b) = decide (a = b) := rfl
theorem eqE_any (x y : NM.Ev) (W : World) : (binOp .eql 28 (evV x) (evV y)).run Tryz.prog W = .ok (.bool (decide (x = y))) W := by
  obtain ⟨k, n, a, c, h, t, i, p⟩ := x
  obtain ⟨k', n', a', c', h', t', i', p'⟩ := y
  rw [run_eql_struct, show (10000 : Nat) = 9996 + 4 from rfl, eq_event]
  show Result.ok (Value.bool _) W = _
  congr 2
  rw [Bool.eq_iff_iff]
  simp [and_assoc]
theorem eqQ_any (x y : NM.Qu) (W : World) : (binOp .eql 36 (quV x) (quV y)).run Tryz.prog W = .ok (.bool (decide (x = y))) W := by
  obtain ⟨c, h, t, k, i⟩ := x
  obtain ⟨c', h', t', k', i'⟩ := y
  rw [run_eql_struct, show (10000 : Nat) = 9997 + 3 from rfl, eq_question]
  show Result.ok (Value.bool _) W = _
  congr 2
  rw [Bool.eq_iff_iff]
  simp [and_assoc]
theorem neE_any (x y : NM.Ev) (W : World) : (binOp .neq 28 (evV x) (evV y)).run Tryz.prog W = .ok (.bool (!decide (x = y))) W := by
  obtain ⟨k, n, a, c, h, t, i, p⟩ := x
  obtain ⟨k', n', a', c', h', t', i', p'⟩ := y
  rw [run_neq_struct, show (10000 : Nat) = 9996 + 4 from rfl, eq_event]
  show Result.ok (Value.bool _) W = _
  congr 3
  rw [Bool.eq_iff_iff]
  simp [and_assoc]
theorem neQ_any (x y : NM.Qu) (W : World) : (binOp .neq 36 (quV x) (quV y)).run Tryz.prog W = .ok (.bool (!decide (x = y))) W := by
  obtain ⟨c, h, t, k, i⟩ := x
  obtain ⟨c', h', t', k', i'⟩ := y
  rw [run_neq_struct, show (10000 : Nat) = 9997 + 3 from rfl, eq_question]
  show Result.ok (Value.bool _) W = _
  congr 3
  rw [Bool.eq_iff_iff]
  simp [and_assoc]
theorem eqM_any (x y : NM.Ms) (W : World) : (binOp .eql 26 (msV x) (msV y)).run Tryz.prog W = .ok (.bool (decide (x = y))) W := by
  obtain ⟨c, h, t, i, p⟩ := x
  obtain ⟨c', h', t', i', p'⟩ := y
  rw [run_eql_struct, show (10000 : Nat) = 9997 + 3 from rfl, eq_msg]
  show Result.ok (Value.bool _) W = _
  congr 2
  rw [Bool.eq_iff_iff]
  simp [and_assoc]
end Go.Proofs.YtggallpnbbidfaaGreatDoor
