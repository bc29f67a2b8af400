/-
  lexer.byteClasses returns the table of the classes of bytes.
-/
import Derived.Test.YtlfpaemfhanpiaaGreatDoorK5
import Derived.Laws.CopyOwn

namespace Go.Proofs.YtlfpaemfhanpiaaGreatDoor
open Go Go.RowKit Go.Proofs
/-- The table under way. -/
structure Mk (w : World) (W : World) (C : Array Value) : Prop where
  blk : W.heap[w.heap.size + 1]? = some (.cells C 99 (0, 0))
  res : ∃ R : Array Value, R.size = 256 ∧ W.heap[w.heap.size]? = some (.cells R 99 (0, 0))
  size : C.size = 256
  below : Below w.heap.size w W
theorem Mk.next {w W W' : World} {C C' : Array Value} (h : Mk w W C) (h1 : W'.heap[w.heap.size + 1]? = some (.cells C' 99 (0, 0))) (h2 : C'.size = C.size) (h3 : Below (w.heap.size + 1) W W') : Mk w W' C' :=
  ⟨h1, by
    obtain ⟨R, e1, e2⟩ := h.res
    exact ⟨R, e1, (h3.block _ (by omega)).trans e2⟩, h2.trans h.size, h.below.trans (h3.mono (by omega))⟩
theorem zero_tab : (Tryz.prog.info? 99).map (fun i => (i.zero, i.size)) = some (some (.agg tab0), 256) := by kernel_rfl
set_option maxRecDepth 100000 in
set_option maxHeartbeats 4000000 in
theorem classes_any (w : World) : Calls Tryz.prog 73 #[] w fun e w' => e = .returned (.agg tabC) ∧ Below w.heap.size w w' := by
  have hzv := (zero_of_info zero_tab).1
  have hMK : Mk w ((w.alloc (.cells tab0 99)).alloc (.cells tab0 99)) tab0 := by
    refine ⟨?_, ⟨tab0, by simp [tab0], ?_⟩, by simp [tab0], ((Below.refl _ w).alloc (Nat.le_refl _) _).alloc (by simp) _⟩
    · have := World.alloc_heap_new (w.alloc (.cells tab0 99)) (.cells tab0 99)
      rw [World.size_alloc] at this
      exact this
    · rw [Below.heap_alloc _ _ _ (by simp)]
      exact World.alloc_heap_new w _
  have HM := Lib.hid hMK
  clear hMK
  go_enter Tryz.func73, Tryz.ntmps73
  go_wp2_with (go_at_call 94
               refine (mark_any _ _ (by decide) _ HM.out.size _ _ HM.out.blk).mono ?_
               rintro e w5 ⟨⟨v5, rfl⟩, hg5, hb5, _⟩
               have HM := Lib.hid (HM.out.next hg5 (markC_size _ _ _) hb5)
               clear hg5 hb5)
  have HE : Mk w w5 tabC := HM.out
  obtain ⟨R, hr1, hr2⟩ := HE.res
  have hb := HE.blk
  have hbw := HE.below
  clear HM
  refine wp_load_row 99 (.tmp 1) rfl (w.heap.size + 1) rfl 99 tabC (0, 0) _ hb Tryz.underlying99 rfl (by rw [tabC_size]; kernel_rfl) ?_
  have hi59 : (Tryz.prog.info? 99).map (·.size) = some tabC.size := by rw [tabC_size]; kernel_rfl
  have hst := run_storeVar_row (P := Tryz.prog) w5 w.heap.size 99 99 R tabC hr2 hi59 (by rw [hr1, tabC_size]) tabC_one
  have hsc : (storeCells ⟨w.heap.size, 0, none⟩ tabC.toList).run Tryz.prog w5 = .ok () (w5.setRow w.heap.size tabC) := by
    cases hq : Tryz.prog.info? 99 with
    | none => rw [hq] at hi59; cases hi59
    | some i =>
      have hs : tabC.size = i.size := by rw [hq] at hi59; simp at hi59; omega
      simpa [storeVar, sizeOf, typeInfo, hq, Value.cells, hs] using hst
  go_wp2
  (try simp only [Exit.inBlock, Exit.then])
  have hfin := setRow_heap w5 w.heap.size R tabC 99 (0, 0) hr2
  refine bodyPost_ret (v := .agg tabC) ?_ rfl ⟨rfl, ?_⟩
  · exact results_cell_row rfl _ _ w.heap.size 99 tabC (0, 0) _ rfl hfin Tryz.underlying99 rfl hi59
  · exact below_setRow hbw (Nat.le_refl _) tabC
end Go.Proofs.YtlfpaemfhanpiaaGreatDoor
