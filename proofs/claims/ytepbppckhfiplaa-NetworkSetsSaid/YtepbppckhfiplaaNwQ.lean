/-
  The values of envelopes, Go's == of them, rows of them and of names. No function of the program.
-/
import Derived.Test.YtepbppckhfiplaaNmQm
import Derived.Test.YtepbppckhfiplaaNwM
import Derived.Test.YtepbppckhfiplaaRws
namespace Go.Proofs.Ytepbppckhfiplaa
open Go Go.RowKit Go.Proofs
attribute [local go_sem] Oper.semAt_some

abbrev enV (e : NW.En) : Value := .agg #[.int .i64 e.m.c, .int .i64 e.m.h, .int .i64 e.m.t, .int .i64 e.m.i, .int .i64 e.m.p, .int .i64 e.o, .int .i64 e.k, .int .i64 e.a, .int .i64 e.b]
def enE : RS.Enc NW.En := ⟨fun e => [.int .i64 e.m.c, .int .i64 e.m.h, .int .i64 e.m.t, .int .i64 e.m.i, .int .i64 e.m.p, .int .i64 e.o, .int .i64 e.k, .int .i64 e.a, .int .i64 e.b], 9, fun _ => rfl, fun x u hu => by
  simp at hu
  rcases hu with rfl | rfl | rfl | rfl | rfl | rfl | rfl | rfl | rfl <;> rfl⟩
def msE : RS.Enc NM.Ms := ⟨fun m => [.int .i64 m.c, .int .i64 m.h, .int .i64 m.t, .int .i64 m.i, .int .i64 m.p], 5, fun _ => rfl, fun x u hu => by
  simp at hu
  rcases hu with rfl | rfl | rfl | rfl | rfl <;> rfl⟩
abbrev Ens (w : World) (A : Option Addr) (n c : Nat) (l : List NW.En) : Prop := RS.Sl enE w A n c l
abbrev Mss (w : World) (A : Option Addr) (n c : Nat) (l : List NM.Ms) : Prop := RS.Sl msE w A n c l
theorem en_at {w : World} {A : Option Addr} {n c j : Nat} {l : List NW.En} {x : NW.En} (h : Ens w A n c l) (hj : l[j]? = some x) : ∃ g, A = some ⟨g, 0, none⟩ ∧ g < w.heap.size ∧ w.cell? ⟨g, j * 9, none⟩ = some (.int .i64 x.m.c) ∧ w.cell? ⟨g, j * 9 + 1, none⟩ = some (.int .i64 x.m.h) ∧ w.cell? ⟨g, j * 9 + 2, none⟩ = some (.int .i64 x.m.t) ∧ w.cell? ⟨g, j * 9 + 3, none⟩ = some (.int .i64 x.m.i) ∧ w.cell? ⟨g, j * 9 + 4, none⟩ = some (.int .i64 x.m.p) ∧ w.cell? ⟨g, j * 9 + 5, none⟩ = some (.int .i64 x.o) ∧ w.cell? ⟨g, j * 9 + 6, none⟩ = some (.int .i64 x.k) ∧ w.cell? ⟨g, j * 9 + 7, none⟩ = some (.int .i64 x.a) ∧ w.cell? ⟨g, j * 9 + 8, none⟩ = some (.int .i64 x.b) := by
  obtain ⟨g, e, hg, ha⟩ := h.get hj
  exact ⟨g, e, hg, ha 0 _ rfl, ha 1 _ rfl, ha 2 _ rfl, ha 3 _ rfl, ha 4 _ rfl, ha 5 _ rfl, ha 6 _ rfl, ha 7 _ rfl, ha 8 _ rfl⟩
theorem ms_at {w : World} {A : Option Addr} {n c j : Nat} {l : List NM.Ms} {x : NM.Ms} (h : Mss w A n c l) (hj : l[j]? = some x) : ∃ g, A = some ⟨g, 0, none⟩ ∧ g < w.heap.size ∧ w.cell? ⟨g, j * 5, none⟩ = some (.int .i64 x.c) ∧ w.cell? ⟨g, j * 5 + 1, none⟩ = some (.int .i64 x.h) ∧ w.cell? ⟨g, j * 5 + 2, none⟩ = some (.int .i64 x.t) ∧ w.cell? ⟨g, j * 5 + 3, none⟩ = some (.int .i64 x.i) ∧ w.cell? ⟨g, j * 5 + 4, none⟩ = some (.int .i64 x.p) := by
  obtain ⟨g, e, hg, ha⟩ := h.get hj
  exact ⟨g, e, hg, ha 0 _ rfl, ha 1 _ rfl, ha 2 _ rfl, ha 3 _ rfl, ha 4 _ rfl⟩
set_option maxRecDepth 100000 in
theorem eq_en (d : Nat) (c h t i p o k a b c' h' t' i' p' o' k' a' b' : Int) (W : World) : (Op.equalIn (d + 4) 28 (.agg #[.int .i64 c, .int .i64 h, .int .i64 t, .int .i64 i, .int .i64 p, .int .i64 o, .int .i64 k, .int .i64 a, .int .i64 b]) (.agg #[.int .i64 c', .int .i64 h', .int .i64 t', .int .i64 i', .int .i64 p', .int .i64 o', .int .i64 k', .int .i64 a', .int .i64 b'])).run Try.prog W = .ok (((c == c' && (h == h' && t == t')) && (i == i' && p == p')) && (o == o' && (k == k' && (a == a' && b == b')))) W := by
  have u3 := Try.underlying3
  have a3 := Try.isAgg3
  have z3 := Try.sizeOf3
  have a23 := Try.isAgg26
  have z23 := Try.sizeOf26
  have ht : Try.prog.underlying 28 = some (.struct (Try.prog.fieldsOf 28)) := by kernel_rfl
  have hp : Try.prog.stoodInHeld 28 = false := by kernel_rfl
  have hf : (Try.prog.fieldsOf 28).toList = [⟨"Msg", 26, 0, false, "", "", 0⟩, ⟨"To", 3, 5, false, "", "", 40⟩, ⟨"Kind", 3, 6, false, "", "", 48⟩, ⟨"A", 3, 7, false, "", "", 56⟩, ⟨"B", 3, 8, false, "", "", 64⟩] := by kernel_rfl
  have hq := eq_msg d c h t i p c' h' t' i' p'
  rw [run_equalIn_agg _ (d + 3) _ _ _ ht hp, hf]
  clear hf ht hp
  generalize ((c == c' && (h == h' && t == t')) && (i == i' && p == p')) = y at *
  cases y <;> cases e1 : o == o' <;> cases e2 : k == k' <;> cases e3 : a == a' <;> cases e4 : b == b' <;> simp [Op.eqFields, go_sem, u3, a3, z3, a23, z23, hq, e1, e2, e3, e4]
theorem eqEn_any (x y : NW.En) (W : World) : (binOp .eql 28 (enV x) (enV y)).run Try.prog W = .ok (.bool (decide (x = y))) W := by
  obtain ⟨⟨c, h, t, i, p⟩, o, k, a, b⟩ := x
  obtain ⟨⟨c', h', t', i', p'⟩, o', k', a', b'⟩ := y
  rw [run_eql_struct, show (10000 : Nat) = 9996 + 4 from rfl, eq_en]
  show Result.ok (Value.bool _) W = _
  congr 2
  rw [Bool.eq_iff_iff]
  simp [and_assoc]
theorem neEn_any (x y : NW.En) (W : World) : (binOp .neq 28 (enV x) (enV y)).run Try.prog W = .ok (.bool (!decide (x = y))) W := by
  obtain ⟨⟨c, h, t, i, p⟩, o, k, a, b⟩ := x
  obtain ⟨⟨c', h', t', i', p'⟩, o', k', a', b'⟩ := y
  rw [run_neq_struct, show (10000 : Nat) = 9996 + 4 from rfl, eq_en]
  show Result.ok (Value.bool _) W = _
  congr 3
  rw [Bool.eq_iff_iff]
  simp [and_assoc]
theorem neM_any (x y : NM.Ms) (W : World) : (binOp .neq 26 (msV x) (msV y)).run Try.prog W = .ok (.bool (!decide (x = y))) W := by
  obtain ⟨c, h, t, i, p⟩ := x
  obtain ⟨c', h', t', i', p'⟩ := y
  rw [run_neq_struct, show (10000 : Nat) = 9997 + 3 from rfl, eq_msg]
  show Result.ok (Value.bool _) W = _
  congr 3
  rw [Bool.eq_iff_iff]
  simp [and_assoc]
theorem info_en : (Try.prog.info? 28).map (fun i => (i.zero, i.size, i.bytes)) = some (some (.agg #[.int .i64 0, .int .i64 0, .int .i64 0, .int .i64 0, .int .i64 0, .int .i64 0, .int .i64 0, .int .i64 0, .int .i64 0]), 9, 72) := by kernel_rfl
theorem info_ms : (Try.prog.info? 26).map (fun i => (i.zero, i.size, i.bytes)) = some (some (.agg #[.int .i64 0, .int .i64 0, .int .i64 0, .int .i64 0, .int .i64 0]), 5, 40) := by kernel_rfl
end Go.Proofs.Ytepbppckhfiplaa
