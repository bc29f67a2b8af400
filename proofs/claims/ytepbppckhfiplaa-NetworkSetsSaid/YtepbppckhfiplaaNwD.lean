/-
  A row of envelopes stands where a box of a name has turned. No function of the program.
-/
import Derived.Test.YtepbppckhfiplaaNwW
namespace Go.Proofs.Ytepbppckhfiplaa
open Go Go.RowKit Go.Proofs

theorem ens_after_ms {w w' : World} {A : Option Addr} {n c g : Nat} {l : List NW.En} {m : NM.Ms} (h : Ens w A n c l) (hm : MsB w g m) (ho : ∀ b, b ≠ g → w'.heap[b]? = w.heap[b]?) (hs : w.heap.size ≤ w'.heap.size) : Ens w' A n c l := by
  obtain ⟨h1, h2, h3, h4⟩ := h
  refine ⟨h1, h2, h3, ?_⟩
  rcases h4 with h4 | ⟨q, e, hq, hx⟩
  · exact .inl h4
  · refine .inr ⟨q, e, by omega, fun j x hj o u hu => ?_⟩
    have hne : q ≠ g := fun e2 => by
      subst e2
      have h5 := hx j x hj 5 (.int .i64 x.o) rfl
      rw [cell_of_row _ _ _ _ _ (0, 0) hm] at h5
      rw [Array.getElem?_eq_none (by show 5 ≤ j * 9 + 5; omega)] at h5
      cases h5
    have h5 := hx j x hj o u hu
    unfold World.cell? at h5 ⊢
    simp only at h5 ⊢
    rw [ho q hne]
    exact h5
/-- A store of a name, as a run. -/
theorem store_ms_run {P : Program} {o : Oper} {a : Act} {w : World} (x y : Operand) (ho : o.op = .store 26 x y) (g : Nat) (e0 e : NM.Ms) (hg : MsB w g e0) (hx : a.eval x = .pointer (some ⟨g, 0, none⟩)) (hy : a.eval y = msV e) (hP : (P.info? 26).map (·.size) = some 5) :
    ∃ w', (execOp a.eval o).run P w = .ok .skip w' ∧ MsB w' g e ∧ (∀ b, b ≠ g → w'.heap[b]? = w.heap[b]?) ∧ Below g w w' := by
  have hs : (storeCells ⟨g, 0, none⟩ (msV e).cells.toList).run P w = .ok () (w.setRow g #[.int .i64 e.c, .int .i64 e.h, .int .i64 e.t, .int .i64 e.i, .int .i64 e.p]) := run_storeCells_at (P := P) g 0 26 (msV e).cells.toList 0 _ w hg (by show 0 + 0 + 5 ≤ 5; omega) (fun u hu => by simp [Value.cells] at hu; rcases hu with rfl | rfl | rfl | rfl | rfl <;> rfl)
  have hv : (storeVar 26 ⟨g, 0, none⟩ (msV e)).run P w = .ok () (w.setRow g #[.int .i64 e.c, .int .i64 e.h, .int .i64 e.t, .int .i64 e.i, .int .i64 e.p]) := by
    cases hq : P.info? 26 with
    | none => simp [hq] at hP
    | some i =>
      have he : (msV e).cells.size = i.size := by simp [hq] at hP; rw [hP]; rfl
      simp [storeVar, sizeOf, typeInfo, hq, ← he, hs]
  refine ⟨w.setRow g #[.int .i64 e.c, .int .i64 e.h, .int .i64 e.t, .int .i64 e.i, .int .i64 e.p], ?_, ?_, ?_, ?_⟩
  rotate_left
  · exact setRow_heap w g _ _ 26 _ hg
  · exact fun b hb => setRow_other w g b _ hb
  · exact below_setRow (Below.refl g w) (Nat.le_refl _) _
  · unfold execOp
    simp only [ho, hx, hy, Instr.storeAt, Instr.sureAddr, Sem.run_bind, Sem.run_pure, Result.andThen_ok, hv]
theorem store_ms_ex {P : Program} {o : Oper} {a : Act} {w : World} {G : World → Prop} (x y : Operand) (ho : o.op = .store 26 x y) (g : Nat) (e0 e : NM.Ms) (hg : MsB w g e0) (hx : a.eval x = .pointer (some ⟨g, 0, none⟩)) (hy : a.eval y = msV e) (hP : (P.info? 26).map (·.size) = some 5)
    (h : ∀ w', MsB w' g e → (∀ b, b ≠ g → w'.heap[b]? = w.heap[b]?) → Below g w w' → G w') : ∃ w', (execOp a.eval o).run P w = .ok .skip w' ∧ G w' := by
  obtain ⟨w', h1, h2, h3, h4⟩ := store_ms_run x y ho g e0 e hg hx hy hP
  exact ⟨w', h1, h w' h2 h3 h4⟩
end Go.Proofs.Ytepbppckhfiplaa
