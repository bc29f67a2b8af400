/-
  Five cells of a block, set one behind the other; eleven cells of a block. No function of the program.
  Rows of questions with their answers. No function of the program.
-/
import Derived.Test.YtiokiecnglmbnaaK3
import Derived.Test.YtiokiecnglmbnaaK6

namespace Go.Proofs.Ytiokiecnglmbnaa
open Go Go.RowKit Go.Proofs

theorem row11 {V : World} {g : Nat} {t : TypeId} {x0 x1 x2 x3 x4 x5 x6 x7 x8 x9 x10 : Value} (h : V.heap[g]? = some (.cells #[x0, x1, x2, x3, x4, x5, x6, x7, x8, x9, x10] t (0, 0))) : V.cell? ⟨g, 0, none⟩ = some x0 ∧ V.cell? ⟨g, 1, none⟩ = some x1 ∧ V.cell? ⟨g, 2, none⟩ = some x2 ∧ V.cell? ⟨g, 3, none⟩ = some x3 ∧ V.cell? ⟨g, 4, none⟩ = some x4 ∧ V.cell? ⟨g, 5, none⟩ = some x5 ∧ V.cell? ⟨g, 6, none⟩ = some x6 ∧ V.cell? ⟨g, 7, none⟩ = some x7 ∧ V.cell? ⟨g, 8, none⟩ = some x8 ∧ V.cell? ⟨g, 9, none⟩ = some x9 ∧ V.cell? ⟨g, 10, none⟩ = some x10 :=
  ⟨cell_of_row _ _ 0 _ _ (0, 0) h, cell_of_row _ _ 1 _ _ (0, 0) h, cell_of_row _ _ 2 _ _ (0, 0) h, cell_of_row _ _ 3 _ _ (0, 0) h, cell_of_row _ _ 4 _ _ (0, 0) h, cell_of_row _ _ 5 _ _ (0, 0) h, cell_of_row _ _ 6 _ _ (0, 0) h, cell_of_row _ _ 7 _ _ (0, 0) h, cell_of_row _ _ 8 _ _ (0, 0) h, cell_of_row _ _ 9 _ _ (0, 0) h, cell_of_row _ _ 10 _ _ (0, 0) h⟩
theorem set5 {V : World} {g : Nat} {t : TypeId} {x0 x1 x2 x3 x4 : Value} (h : V.heap[g]? = some (.cells #[x0, x1, x2, x3, x4] t (0, 0))) (n0 n1 n2 n3 n4 : Int) :
    (((((V.setCell ⟨g, 0, none⟩ (.int .i64 n0)).setCell ⟨g, 1, none⟩ (.int .i64 n1)).setCell ⟨g, 2, none⟩ (.int .i64 n2)).setCell ⟨g, 3, none⟩ (.int .i64 n3)).setCell ⟨g, 4, none⟩ (.int .i64 n4)).heap[g]? = some (.cells #[.int .i64 n0, .int .i64 n1, .int .i64 n2, .int .i64 n3, .int .i64 n4] t (0, 0)) ∧ Below g V (((((V.setCell ⟨g, 0, none⟩ (.int .i64 n0)).setCell ⟨g, 1, none⟩ (.int .i64 n1)).setCell ⟨g, 2, none⟩ (.int .i64 n2)).setCell ⟨g, 3, none⟩ (.int .i64 n3)).setCell ⟨g, 4, none⟩ (.int .i64 n4)) := by
  refine ⟨?_, (((((Below.refl g V).setCell (Nat.le_refl _) _).setCell (Nat.le_refl _) _).setCell (Nat.le_refl _) _).setCell (Nat.le_refl _) _).setCell (Nat.le_refl _) _⟩
  simp only [World.setCell, Array.getElem?_modify]
  simp [h]
end Go.Proofs.Ytiokiecnglmbnaa

namespace Go.Proofs.Ytiokiecnglmbnaa
open Go Go.RowKit Go.Proofs

/-- Row j of the block g holds the question and the answer x. -/
def AskAt (w : World) (g j : Nat) (x : NM.Qu × Int) : Prop := ∃ r : Int, w.cell? ⟨g, j * 7, none⟩ = some (.int .i64 x.1.c) ∧ w.cell? ⟨g, j * 7 + 1, none⟩ = some (.int .i64 x.1.h) ∧ w.cell? ⟨g, j * 7 + 2, none⟩ = some (.int .i64 x.1.t) ∧ w.cell? ⟨g, j * 7 + 3, none⟩ = some (.int .i64 x.1.k) ∧ w.cell? ⟨g, j * 7 + 4, none⟩ = some (.int .i64 x.1.i) ∧ w.cell? ⟨g, j * 7 + 5, none⟩ = some (.int .i64 r) ∧ w.cell? ⟨g, j * 7 + 6, none⟩ = some (.int .i64 x.2)
/-- A slice of questions with their answers. -/
def Asks (w : World) (A : Option Addr) (n : Nat) (l : List (NM.Qu × Int)) : Prop := l.length = n ∧ (0 < n → ∃ g, A = some ⟨g, 0, none⟩ ∧ g < w.heap.size ∧ ∀ j x, l[j]? = some x → AskAt w g j x)
theorem AskAt.keep {w w' : World} {g j : Nat} {x : NM.Qu × Int} (h : AskAt w g j x) (hg : g < w.heap.size) (hb : Below w.heap.size w w') : AskAt w' g j x := by
  obtain ⟨r, h0, h1, h2, h3, h4, h5, h6⟩ := h
  exact ⟨r, (hb.cell hg).trans h0, (hb.cell hg).trans h1, (hb.cell hg).trans h2, (hb.cell hg).trans h3, (hb.cell hg).trans h4, (hb.cell hg).trans h5, (hb.cell hg).trans h6⟩
theorem Asks.keep {w w' : World} {A : Option Addr} {n : Nat} {l : List (NM.Qu × Int)} (h : Asks w A n l) (hb : Below w.heap.size w w') : Asks w' A n l :=
  ⟨h.1, fun hn => by
    obtain ⟨g, e, hg, hx⟩ := h.2 hn
    exact ⟨g, e, Nat.lt_of_lt_of_le hg hb.size, fun j x hj => (hx j x hj).keep hg hb⟩⟩
end Go.Proofs.Ytiokiecnglmbnaa
