/-
  Go's == of causes, messages, events and questions. No condition.
-/
import Derived.Test.YtggallpnbbidfaaDoorNmT
import Derived.Laws.StructEq
import Derived.ChangeKeysEq
namespace Go.Proofs.YtggallpnbbidfaaDoor
open Go Go.RowKit Go.Proofs
attribute [local go_sem] Oper.semAt_some

set_option maxRecDepth 100000 in
theorem eq_cause (d : Nat) (c h t c' h' t' : Int) (W : World) : (Op.equalIn (d + 2) 23 (.agg #[.int .i64 c, .int .i64 h, .int .i64 t]) (.agg #[.int .i64 c', .int .i64 h', .int .i64 t'])).run Tryd.prog W = .ok (c == c' && (h == h' && t == t')) W := by
  have u3 := Tryd.underlying3
  have a3 := Tryd.isAgg3
  have z3 := Tryd.sizeOf3
  have ht : Tryd.prog.underlying 23 = some (.struct (Tryd.prog.fieldsOf 23)) := by kernel_rfl
  have hp : Tryd.prog.stoodInHeld 23 = false := by kernel_rfl
  have hf : (Tryd.prog.fieldsOf 23).toList = [⟨"Node", 3, 0, false, "", "", 0⟩, ⟨"Handler", 3, 1, false, "", "", 8⟩, ⟨"Count", 3, 2, false, "", "", 16⟩] := by kernel_rfl
  rw [run_equalIn_agg _ (d + 1) _ _ _ ht hp, hf]
  clear hf ht hp
  cases e1 : c == c' <;> cases e2 : h == h' <;> cases e3 : t == t' <;> simp [Op.eqFields, go_sem, u3, a3, z3, e1, e2, e3]
set_option maxRecDepth 100000 in
theorem eq_msg (d : Nat) (c h t i p c' h' t' i' p' : Int) (W : World) : (Op.equalIn (d + 3) 25 (.agg #[.int .i64 c, .int .i64 h, .int .i64 t, .int .i64 i, .int .i64 p]) (.agg #[.int .i64 c', .int .i64 h', .int .i64 t', .int .i64 i', .int .i64 p'])).run Tryd.prog W = .ok ((c == c' && (h == h' && t == t')) && (i == i' && p == p')) W := by
  have u3 := Tryd.underlying3
  have a3 := Tryd.isAgg3
  have z3 := Tryd.sizeOf3
  have a23 := Tryd.isAgg23
  have z23 := Tryd.sizeOf23
  have ht : Tryd.prog.underlying 25 = some (.struct (Tryd.prog.fieldsOf 25)) := by kernel_rfl
  have hp : Tryd.prog.stoodInHeld 25 = false := by kernel_rfl
  have hf : (Tryd.prog.fieldsOf 25).toList = [⟨"Cause", 23, 0, false, "", "", 0⟩, ⟨"Index", 3, 3, false, "", "", 24⟩, ⟨"Copy", 3, 4, false, "", "", 32⟩] := by kernel_rfl
  have hq := eq_cause d c h t c' h' t'
  rw [run_equalIn_agg _ (d + 2) _ _ _ ht hp, hf]
  clear hf ht hp
  generalize (c == c' && (h == h' && t == t')) = b at *
  cases b <;> cases e2 : i == i' <;> cases e3 : p == p' <;> simp [Op.eqFields, go_sem, u3, a3, z3, a23, z23, hq, e2, e3]
set_option maxRecDepth 100000 in
theorem eq_event (d : Nat) (k n a c h t i p k' n' a' c' h' t' i' p' : Int) (W : World) : (Op.equalIn (d + 4) 27 (.agg #[.int .i64 k, .int .i64 n, .int .i64 a, .int .i64 c, .int .i64 h, .int .i64 t, .int .i64 i, .int .i64 p]) (.agg #[.int .i64 k', .int .i64 n', .int .i64 a', .int .i64 c', .int .i64 h', .int .i64 t', .int .i64 i', .int .i64 p'])).run Tryd.prog W = .ok (k == k' && (n == n' && (a == a' && ((c == c' && (h == h' && t == t')) && (i == i' && p == p'))))) W := by
  have u3 := Tryd.underlying3
  have a3 := Tryd.isAgg3
  have z3 := Tryd.sizeOf3
  have a23 := Tryd.isAgg25
  have z23 := Tryd.sizeOf25
  have ht : Tryd.prog.underlying 27 = some (.struct (Tryd.prog.fieldsOf 27)) := by kernel_rfl
  have hp : Tryd.prog.stoodInHeld 27 = false := by kernel_rfl
  have hf : (Tryd.prog.fieldsOf 27).toList = [⟨"Kind", 3, 0, false, "", "", 0⟩, ⟨"Node", 3, 1, false, "", "", 8⟩, ⟨"Arg", 3, 2, false, "", "", 16⟩, ⟨"Msg", 25, 3, false, "", "", 24⟩] := by kernel_rfl
  have hq := eq_msg d c h t i p c' h' t' i' p'
  rw [run_equalIn_agg _ (d + 3) _ _ _ ht hp, hf]
  clear hf ht hp
  generalize ((c == c' && (h == h' && t == t')) && (i == i' && p == p')) = b at *
  cases e1 : k == k' <;> cases e2 : n == n' <;> cases e3 : a == a' <;> cases b <;> simp [Op.eqFields, go_sem, u3, a3, z3, a23, z23, hq, e1, e2, e3]
set_option maxRecDepth 100000 in
theorem eq_question (d : Nat) (c h t k i c' h' t' k' i' : Int) (W : World) : (Op.equalIn (d + 3) 29 (.agg #[.int .i64 c, .int .i64 h, .int .i64 t, .int .i64 k, .int .i64 i]) (.agg #[.int .i64 c', .int .i64 h', .int .i64 t', .int .i64 k', .int .i64 i'])).run Tryd.prog W = .ok ((c == c' && (h == h' && t == t')) && (k == k' && i == i')) W := by
  have u3 := Tryd.underlying3
  have a3 := Tryd.isAgg3
  have z3 := Tryd.sizeOf3
  have a23 := Tryd.isAgg23
  have z23 := Tryd.sizeOf23
  have ht : Tryd.prog.underlying 29 = some (.struct (Tryd.prog.fieldsOf 29)) := by kernel_rfl
  have hp : Tryd.prog.stoodInHeld 29 = false := by kernel_rfl
  have hf : (Tryd.prog.fieldsOf 29).toList = [⟨"Cause", 23, 0, false, "", "", 0⟩, ⟨"Kind", 3, 3, false, "", "", 24⟩, ⟨"Index", 3, 4, false, "", "", 32⟩] := by kernel_rfl
  have hq := eq_cause d c h t c' h' t'
  rw [run_equalIn_agg _ (d + 2) _ _ _ ht hp, hf]
  clear hf ht hp
  generalize (c == c' && (h == h' && t == t')) = b at *
  cases b <;> cases e2 : k == k' <;> cases e3 : i == i' <;> simp [Op.eqFields, go_sem, u3, a3, z3, a23, z23, hq, e2, e3]
theorem beq_dec (a b : Int) : (a == b) = decide (a = b) := rfl
theorem eqE_any (x y : NM.Ev) (W : World) : (binOp .eql 27 (evV x) (evV y)).run Tryd.prog W = .ok (.bool (decide (x = y))) W := by
  obtain ⟨k, n, a, c, h, t, i, p⟩ := x
  obtain ⟨k', n', a', c', h', t', i', p'⟩ := y
  rw [run_eql_struct, show (10000 : Nat) = 9996 + 4 from rfl, eq_event]
  show Result.ok (Value.bool _) W = _
  congr 2
  rw [Bool.eq_iff_iff]
  simp [and_assoc]
theorem eqQ_any (x y : NM.Qu) (W : World) : (binOp .eql 29 (quV x) (quV y)).run Tryd.prog W = .ok (.bool (decide (x = y))) W := by
  obtain ⟨c, h, t, k, i⟩ := x
  obtain ⟨c', h', t', k', i'⟩ := y
  rw [run_eql_struct, show (10000 : Nat) = 9997 + 3 from rfl, eq_question]
  show Result.ok (Value.bool _) W = _
  congr 2
  rw [Bool.eq_iff_iff]
  simp [and_assoc]
theorem neE_any (x y : NM.Ev) (W : World) : (binOp .neq 27 (evV x) (evV y)).run Tryd.prog W = .ok (.bool (!decide (x = y))) W := by
  obtain ⟨k, n, a, c, h, t, i, p⟩ := x
  obtain ⟨k', n', a', c', h', t', i', p'⟩ := y
  rw [run_neq_struct, show (10000 : Nat) = 9996 + 4 from rfl, eq_event]
  show Result.ok (Value.bool _) W = _
  congr 3
  rw [Bool.eq_iff_iff]
  simp [and_assoc]
theorem neQ_any (x y : NM.Qu) (W : World) : (binOp .neq 29 (quV x) (quV y)).run Tryd.prog W = .ok (.bool (!decide (x = y))) W := by
  obtain ⟨c, h, t, k, i⟩ := x
  obtain ⟨c', h', t', k', i'⟩ := y
  rw [run_neq_struct, show (10000 : Nat) = 9997 + 3 from rfl, eq_question]
  show Result.ok (Value.bool _) W = _
  congr 3
  rw [Bool.eq_iff_iff]
  simp [and_assoc]
theorem eqM_any (x y : NM.Ms) (W : World) : (binOp .eql 25 (msV x) (msV y)).run Tryd.prog W = .ok (.bool (decide (x = y))) W := by
  obtain ⟨c, h, t, i, p⟩ := x
  obtain ⟨c', h', t', i', p'⟩ := y
  rw [run_eql_struct, show (10000 : Nat) = 9997 + 3 from rfl, eq_msg]
  show Result.ok (Value.bool _) W = _
  congr 2
  rw [Bool.eq_iff_iff]
  simp [and_assoc]
end Go.Proofs.YtggallpnbbidfaaDoor
