/-
  The machine's functions as a value; a copy of a row of one number. No condition.
-/
import Derived.Test.YtgdefhlcgmibcaaVmY
namespace Go.Proofs.Ytgdefhlcgmibcaa
open Go Go.RowKit Go.Proofs
attribute [local go_sem] Oper.semAt_some

set_option maxHeartbeats 1000000 in
set_option maxRecDepth 100000 in
theorem clone_c {w : World} (b : Nat) (x : Int) (hb : w.heap[b]? = some (.cells #[.int .i64 x] 3 (0, 0))) :
    Calls Try.prog 40 #[.slice (some ⟨b, 0, none⟩) 1 1] w fun e w' => (∃ V c, e = .returned (.slice V 1 c) ∧ w'.ownsRow w.heap.size 3 1 (.slice V 1 c) 1 (DK.intsC [x])) ∧ Below w.heap.size w w' := by
  obtain ⟨i0, hi, hy0, hy1, hy2⟩ := dk_info dk_int
  obtain ⟨Y, hY⟩ : ∃ Y, w.alloc (.cells #[] 3) = Y := ⟨_, rfl⟩
  have hbY : Below w.heap.size w Y := hY ▸ dk_box w _
  have hO : Y.ownsRow w.heap.size 3 1 (.slice (some ⟨w.heap.size, 0, none⟩) 0 0) 0 [] := own_empty (by rw [← hY]; exact dk_new_at rfl) (Nat.le_refl _)
  have hS := (show ∀ (i : Nat) (u : Value), [Value.int .i64 x][i]? = some u → Y.cell? ((⟨b, 0, none⟩ : Addr).add i) = some u from fun i u hu => by
    match i, hu with
    | 0, hu => injection hu with hu; subst hu; exact cell_of_row _ _ 0 _ _ (0, 0) ((hbY.block b (blk_lt hb)).trans hb))
  have H1 := Lib.hid (And.intro (show ∀ u ∈ [Value.int .i64 x], u.oneCell' = true by intro u hu; simp at hu; rw [hu]; rfl) (And.intro hS (And.intro hO (And.intro hbY (show w.heap.size ≤ Y.heap.size from hbY.size)))))
  have HM := Lib.hid (And.intro (show 0 + 1 ≤ maxLen by simp only [maxLen]; omega) (show (0 + 1) * 8 ≤ 140737488355328 by omega))
  have HI := Lib.hid (And.intro hi (And.intro hy0 (And.intro hy1 hy2)))
  clear hO hS hbY hi hy0 hy1 hy2 hb
  have he := Lib.run_eql_slice_nil (P := Try.prog) w 22 3 (some ⟨b, 0, none⟩) 1 1 0 0 Try.underlying22
  go_enter Try.func40, Try.ntmps40
  go_wp2_with (at_builtin; refine wpList_append_own_at _ rfl _ _ 22 rfl w.heap.size 3 i0 _ 1 8 Try.underlying22 HI.out.1 HI.out.2.1 HI.out.2.2.1 HI.out.2.2.2 rfl (by decide) _ 0 [] rfl H1.out.2.2.1 ⟨b, 0, none⟩ 1 1 [.int .i64 x] rfl rfl H1.out.2.1 H1.out.1 HM.out.1 HM.out.2 H1.out.2.2.2.2 ?_; intro vv u2 ho2 hg2 _ _; obtain ⟨K2, kc2, rfl⟩ := dk_own_slice ho2; replace hg2 : Y.grownBy u2 (Value.slice (some ⟨w.heap.size, 0, none⟩) 0 0).ownBlock := hg2; have HG2 := Lib.hid (And.intro ho2 hg2); clear hg2 ho2)
  go_ret
  exact ⟨⟨_, _, rfl, HG2.out.1⟩, dk_grown H1.out.2.2.1 H1.out.2.2.2.1 HG2.out.2 H1.out.2.2.2.2⟩
set_option maxHeartbeats 1000000 in
set_option maxRecDepth 100000 in
theorem effects_c (w : World) : Calls Try.prog 41 #[] w fun e w' => e = .returned (.agg VM.effL.toArray) ∧ Below w.heap.size w w' := by
  have hb := dk_box w (.cells (Array.replicate 24 .nilFunc) 75)
  have hn : (w.alloc (.cells (Array.replicate 24 .nilFunc) 75)).heap[w.heap.size]? = some (.cells (Array.replicate 24 .nilFunc) 75 (0, 0)) := dk_new_at rfl
  have HT := Lib.hid (And.intro hn (And.intro (show (Try.prog.info? 75).map (·.size) = some (Value.agg VM.effL.toArray).cells.size by kernel_rfl) (And.intro (show 0 + (Value.agg VM.effL.toArray).cells.size ≤ (Array.replicate 24 Value.nilFunc).size by decide) (And.intro (show (Value.agg VM.effL.toArray).cells.all (·.oneCell') = true by kernel_rfl) (show VM.effL.toArray = ((Array.replicate 24 Value.nilFunc).toList.take 0 ++ (Value.agg VM.effL.toArray).cells.toList ++ (Array.replicate 24 Value.nilFunc).toList.drop (0 + (Value.agg VM.effL.toArray).cells.size)).toArray by kernel_rfl)))))
  clear hn
  go_enter Try.func41, Try.ntmps41
  go_wp2_with (refine RgX.wpList_store_seg rfl 75 _ _ rfl w.heap.size 0 (.agg VM.effL.toArray) rfl rfl 75 (Array.replicate 24 .nilFunc) HT.out.1 HT.out.2.1 HT.out.2.2.1 HT.out.2.2.2.1 VM.effL.toArray HT.out.2.2.2.2 ?_; intro u3 k3 o3 z3 b3)
  exact bodyPost_ret (results_cell_row rfl _ u3 w.heap.size _ VM.effL.toArray (0, 0) _ rfl k3 Try.underlying75 rfl HT.out.2.1) rfl ⟨rfl, hb.trans b3⟩
end Go.Proofs.Ytgdefhlcgmibcaa
