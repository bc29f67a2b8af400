/-
  A store of whole values into a block that is known. No function of the program.
-/
import Derived.Test.YtlomhoohmcnniaaDoorK8
import Derived.Laws.CopyRow
import Derived.Laws.CopyOwn
import Derived.Laws.Tables

namespace Go.Proofs.YtlomhoohmcnniaaDoor.RgX
open Go Go.RowKit Go.Proofs Go.Proofs.YtlomhoohmcnniaaDoor

theorem wp_store_seg {P : Program} {o : Oper} {a : Act} {w : World} {K : Act → World → Prop} {Q : Exit → Act → World → Prop} (ty : TypeId) (x y : Operand) (ho : o.op = .store ty x y)
    (g off : Nat) (v : Value) (hx : a.eval x = .pointer (some ⟨g, off, none⟩)) (hy : a.eval y = v) (t : TypeId) (C : Array Value) (hg : w.heap[g]? = some (.cells C t (0, 0)))
    (hi : (P.info? ty).map (·.size) = some v.cells.size) (hl : off + v.cells.size ≤ C.size) (h1 : v.cells.all (·.oneCell') = true)
    (C' : Array Value) (hC : C' = (C.toList.take off ++ v.cells.toList ++ C.toList.drop (off + v.cells.size)).toArray)
    (h : ∀ W', W'.heap[g]? = some (.cells C' t (0, 0)) → (∀ b, b ≠ g → W'.heap[b]? = w.heap[b]?) → W'.heap.size = w.heap.size → Below g w W' → K (a.put o.dst undef) W') : o.wp P a w K Q := by
  have hs := run_storeCells_at (P := P) g off t v.cells.toList 0 C w hg (by simp; omega) (fun u hu => (Array.all_eq_true_iff_forall_mem.1 h1) u (by simpa using hu))
  have hv : (storeVar ty ⟨g, off, none⟩ v).run P w = .ok () (w.setRow g C') := by
    cases hq : P.info? ty with
    | none => simp [hq] at hi
    | some i =>
      have he : v.cells.size = i.size := by simp [hq] at hi; omega
      simp only [Nat.add_zero, Array.length_toList] at hs
      rw [hC]
      simp [storeVar, sizeOf, typeInfo, hq, ← he, hs]
  unfold Oper.wp execOp
  simp only [ho, hx, hy, Instr.storeAt, Instr.sureAddr, Sem.run_bind, Sem.run_pure, Result.andThen_ok, hv]
  exact h _ (setRow_heap w g C C' t _ hg) (fun b hb => setRow_other w g b C' hb) (by simp) (below_setRow (Below.refl g w) (Nat.le_refl _) C')
theorem wpList_store_seg {P : Program} {ops : Array Oper} {rest : List Oper} {o : Oper} {a : Act} {w : World} {Q : Exit → Act → World → Prop} (hgd : o.guard = none) (ty : TypeId) (x y : Operand) (ho : o.op = .store ty x y)
    (g off : Nat) (v : Value) (hx : a.eval x = .pointer (some ⟨g, off, none⟩)) (hy : a.eval y = v) (t : TypeId) (C : Array Value) (hg : w.heap[g]? = some (.cells C t (0, 0)))
    (hi : (P.info? ty).map (·.size) = some v.cells.size) (hl : off + v.cells.size ≤ C.size) (h1 : v.cells.all (·.oneCell') = true)
    (C' : Array Value) (hC : C' = (C.toList.take off ++ v.cells.toList ++ C.toList.drop (off + v.cells.size)).toArray)
    (h : ∀ W', W'.heap[g]? = some (.cells C' t (0, 0)) → (∀ b, b ≠ g → W'.heap[b]? = w.heap[b]?) → W'.heap.size = w.heap.size → Below g w W' → wpList P ops Q rest (a.put o.dst undef) W') : wpList P ops Q (o :: rest) a w :=
  wpList_plain hgd fun _ hK => wp_store_seg ty x y ho g off v hx hy t C hg hi hl h1 C' hC fun W' h1 h2 h3 h4 => hK _ _ (h W' h1 h2 h3 h4)
end Go.Proofs.YtlomhoohmcnniaaDoor.RgX
