/-
  The values of causes, messages, events and questions. No function of the program.
-/
import Derived.Test.YtepbppckhfiplaaBase
import Derived.Test.YtepbppckhfiplaaNmMs
import Derived.Below
import Derived.Laws.Rows
namespace Go.Proofs.Ytepbppckhfiplaa
open Go Go.RowKit Go.Proofs
attribute [local go_sem] Oper.semAt_some

abbrev cV (c h t : Int) : Value := .agg #[.int .i64 c, .int .i64 h, .int .i64 t]
abbrev msV (m : NM.Ms) : Value := .agg #[.int .i64 m.c, .int .i64 m.h, .int .i64 m.t, .int .i64 m.i, .int .i64 m.p]
abbrev evV (e : NM.Ev) : Value := .agg #[.int .i64 e.k, .int .i64 e.n, .int .i64 e.a, .int .i64 e.m.c, .int .i64 e.m.h, .int .i64 e.m.t, .int .i64 e.m.i, .int .i64 e.m.p]
abbrev quV (q : NM.Qu) : Value := .agg #[.int .i64 q.c, .int .i64 q.h, .int .i64 q.t, .int .i64 q.k, .int .i64 q.i]
theorem new_at {V : World} {o : Obj} {g : Nat} (hg : g = V.heap.size) : (V.alloc o).heap[g]? = some o := by
  subst hg
  exact World.alloc_heap_new V o
theorem row5 {V : World} {g : Nat} {t : TypeId} {x0 x1 x2 x3 x4 : Value} (h : V.heap[g]? = some (.cells #[x0, x1, x2, x3, x4] t (0, 0))) : V.cell? ⟨g, 0, none⟩ = some x0 ∧ V.cell? ⟨g, 1, none⟩ = some x1 ∧ V.cell? ⟨g, 2, none⟩ = some x2 ∧ V.cell? ⟨g, 3, none⟩ = some x3 ∧ V.cell? ⟨g, 4, none⟩ = some x4 :=
  ⟨cell_of_row _ _ 0 _ _ (0, 0) h, cell_of_row _ _ 1 _ _ (0, 0) h, cell_of_row _ _ 2 _ _ (0, 0) h, cell_of_row _ _ 3 _ _ (0, 0) h, cell_of_row _ _ 4 _ _ (0, 0) h⟩
/-- Two boxes. -/
theorem two_boxes (w : World) (A B : Obj) : ∃ U, (w.alloc A).alloc B = U ∧ Below w.heap.size w U ∧ U.heap[w.heap.size]? = some A ∧ U.heap[w.heap.size + 1]? = some B ∧ w.heap.size + 1 < U.heap.size := by
  refine ⟨_, rfl, ((Below.refl _ _).alloc (Nat.le_refl _) _).alloc (by simp) _, ?_, new_at (by simp), by simp⟩
  rw [Below.heap_alloc _ _ _ (by simp)]
  exact new_at rfl
theorem one_box (w : World) (o : Obj) : Below w.heap.size w (w.alloc o) := (Below.refl _ _).alloc (Nat.le_refl _) _
theorem drewN_below (w : World) (q : Nat) : Below w.heap.size w (w.drewN q) := ⟨rfl, rfl, rfl, Nat.le_refl _, fun _ _ => rfl⟩
end Go.Proofs.Ytepbppckhfiplaa
