/-
  The walk of the law TypesExpressions. No condition beyond the argument's reading.
-/
import Derived.Test.YtofeidacffabdaaTyLv
import Derived.Test.YtofeidacffabdaaTyRt
namespace Go.Proofs.Ytofeidacffabdaa.LawTypesExpressions
open Go Go.RowKit Go.Proofs Go.Shelf
attribute [local go_sem] Oper.semAt_some

theorem exprT_fit (zs : List Int) : TY.Fit (exprT zs) := TY.genE_fit _ _ _ _
theorem ty_fail (t : TY.Nd) : TY.tyOf (.mk 9 0 ⟨#[]⟩ [t]) = 0 := by
  rw [TY.tyOf_eq, if_neg (by decide), if_neg (by decide)]
  have : TY.rule 9 ⟨#[]⟩ = ([], 0) := by decide +kernel
  rw [this]
  simp
set_option maxRecDepth 100000 in
set_option maxHeartbeats 4000000 in
theorem walk (a0 : Option Addr) (len0 cap0 : Nat) (z0 : List Int) (w : World) (w0 : Row .i64 w a0 len0 cap0 z0) :
    Calls Try.prog 3 #[.slice a0 len0 cap0] w fun e w' => e = .returned (.bool true) ∧ Below w.heap.size w w' := by
  obtain ⟨_, _, _, hwf0⟩ := w0.ints
  have HX := Lib.hid (Expr_any a0 len0 cap0 _ w w0.slc (i64_of hwf0))
  have hf := exprT_fit (z0.take len0)
  obtain ⟨t, ht⟩ : ∃ t, exprT (z0.take len0) = t := ⟨_, rfl⟩
  rw [ht] at HX hf
  clear ht w0 hwf0
  go_enter Try.func3, Try.ntmps3
  go_wp2_with fail
  refine HX.out.mono ?_
  clear HX
  rintro r w1 ⟨v, rfl, hv, hb1⟩
  obtain ⟨k, n, s, A, m, c, rfl⟩ := hv.shape
  have hs1 := hb1.size
  obtain ⟨W2, h2⟩ : ∃ U, w1.alloc (.cells #[.int .i64 k, .int .i64 n, .string s, .slice A m c] 25) = U := ⟨_, rfl⟩
  obtain ⟨W3, h3⟩ : ∃ U, W2.alloc (.cells #[.int .i64 k, .int .i64 n, .string s, .slice A m c] 25) = U := ⟨_, rfl⟩
  obtain ⟨W4, h4⟩ : ∃ U, W3.alloc (.cells #[.int .i64 9, .int .i64 0, .string ⟨#[]⟩, .slice (some ⟨w1.heap.size + 1, 0, none⟩) 1 1] 25) = U := ⟨_, rfl⟩
  have hl : lay w1 [.cells #[.int .i64 k, .int .i64 n, .string s, .slice A m c] 25, .cells #[.int .i64 k, .int .i64 n, .string s, .slice A m c] 25, .cells #[.int .i64 9, .int .i64 0, .string ⟨#[]⟩, .slice (some ⟨w1.heap.size + 1, 0, none⟩) 1 1] 25] = W4 := by
    rw [← h4, ← h3, ← h2]
    rfl
  have z4 : W4.heap.size = w1.heap.size + 3 := by rw [← hl, lay_size]; rfl
  have b4 : Below w1.heap.size w1 W4 := hl ▸ lay_below _ _
  have e1 : W4.heap[w1.heap.size]? = some (.cells #[.int .i64 k, .int .i64 n, .string s, .slice A m c] 25 (0, 0)) := hl ▸ lay_at _ w1 0 rfl
  have e2 : W4.heap[w1.heap.size + 1]? = some (.cells #[.int .i64 k, .int .i64 n, .string s, .slice A m c] 25 (0, 0)) := hl ▸ lay_at _ w1 1 rfl
  have e3 : W4.heap[w1.heap.size + 1 + 1]? = some (.cells #[.int .i64 9, .int .i64 0, .string ⟨#[]⟩, .slice (some ⟨w1.heap.size + 1, 0, none⟩) 1 1] 25 (0, 0)) := hl ▸ lay_at _ w1 2 rfl
  have hv4 : NdV W4 W4.heap.size t (ndv k n s (.slice A m c)) := hv W4 (fun g _ hg => b4.block g hg) _ b4.size
  have hf4 : NdV W4 W4.heap.size (.mk 9 0 ⟨#[]⟩ [t]) (ndv 9 0 ⟨#[]⟩ (.slice (some ⟨w1.heap.size + 1, 0, none⟩) 1 1)) := NdV.one e2 (by omega) (by decide) hv4
  have T1 := Lib.hid (fun V (hV : Below W4.heap.size W4 V) => TypeOf_any t V W4.heap.size _ (hv4.under hV (Nat.le_refl _)) hV.size)
  have T2 := Lib.hid (fun V (hV : Below W4.heap.size W4 V) => ref_any t V W4.heap.size _ (hv4.under hV (Nat.le_refl _)) hV.size)
  have T3 := Lib.hid (fun V (hV : Below W4.heap.size W4 V) => TypeOf_any _ V W4.heap.size _ (hf4.under hV (Nat.le_refl _)) hV.size)
  have T4 := Lib.hid (fun V (_ : Below W4.heap.size W4 V) => lives_any V)
  simp only [ty_fail, TY.ty_ref t hf] at T1 T2 T3
  obtain ⟨y, hy⟩ : ∃ y, TY.refTy t = y := ⟨_, rfl⟩
  rw [hy] at T1 T2
  have c0 : W4.cell? ⟨w1.heap.size, 0, none⟩ = some (.int .i64 k) := cell_of_row W4 _ 0 _ _ (0, 0) e1
  have c1 : W4.cell? ⟨w1.heap.size, 1, none⟩ = some (.int .i64 n) := cell_of_row W4 _ 1 _ _ (0, 0) e1
  have c2 : W4.cell? ⟨w1.heap.size, 2, none⟩ = some (.string s) := cell_of_row W4 _ 2 _ _ (0, 0) e1
  have c3 : W4.cell? ⟨w1.heap.size, 3, none⟩ = some (.slice A m c) := cell_of_row W4 _ 3 _ _ (0, 0) e1
  have d0 : W4.cell? ⟨w1.heap.size + 1 + 1, 0, none⟩ = some (.int .i64 9) := cell_of_row W4 _ 0 _ _ (0, 0) e3
  have d1 : W4.cell? ⟨w1.heap.size + 1 + 1, 1, none⟩ = some (.int .i64 0) := cell_of_row W4 _ 1 _ _ (0, 0) e3
  have d2 : W4.cell? ⟨w1.heap.size + 1 + 1, 2, none⟩ = some (.string ⟨#[]⟩) := cell_of_row W4 _ 2 _ _ (0, 0) e3
  have d3 : W4.cell? ⟨w1.heap.size + 1 + 1, 3, none⟩ = some (.slice (some ⟨w1.heap.size + 1, 0, none⟩) 1 1) := cell_of_row W4 _ 3 _ _ (0, 0) e3
  have HBB := Lib.hid (show Below w.heap.size w W4 from hb1.trans (b4.mono hs1))
  have HW4 := Lib.hid (show ((w1.alloc (.cells #[.int .i64 k, .int .i64 n, .string s, .slice A m c] 25)).alloc (.cells #[.int .i64 k, .int .i64 n, .string s, .slice A m c] 25)).alloc (.cells #[.int .i64 9, .int .i64 0, .string ⟨#[]⟩, .slice (some ⟨w1.heap.size + 1, 0, none⟩) 1 1] 25) = W4 by rw [h2, h3, h4])
  have l1 : w1.heap.size < W4.heap.size := by omega
  have l2 : w1.heap.size + 1 + 1 < W4.heap.size := by omega
  have B : Below W4.heap.size W4 W4 := Below.refl _ _
  clear hv hb1 h2 h3 h4 hl z4 b4 e1 e2 e3 hv4 hf4 hf hy hs1
  go_wp2_with fail
  rw [HW4.out]
  clear HW4
  go_wp2_with fail
  go_region_held3 (fun V => V.cell? ⟨w1.heap.size, 0, none⟩ = some (.int .i64 k) ∧ V.cell? ⟨w1.heap.size, 1, none⟩ = some (.int .i64 n) ∧ V.cell? ⟨w1.heap.size, 2, none⟩ = some (.string s) ∧ V.cell? ⟨w1.heap.size, 3, none⟩ = some (.slice A m c) ∧
      V.cell? ⟨w1.heap.size + 1 + 1, 0, none⟩ = some (.int .i64 9) ∧ V.cell? ⟨w1.heap.size + 1 + 1, 1, none⟩ = some (.int .i64 0) ∧ V.cell? ⟨w1.heap.size + 1 + 1, 2, none⟩ = some (.string ⟨#[]⟩) ∧ V.cell? ⟨w1.heap.size + 1 + 1, 3, none⟩ = some (.slice (some ⟨w1.heap.size + 1, 0, none⟩) 1 1))
    (first | exact ⟨(B.cell (p := ⟨w1.heap.size, 0, none⟩) l1).trans c0, (B.cell (p := ⟨w1.heap.size, 1, none⟩) l1).trans c1, (B.cell (p := ⟨w1.heap.size, 2, none⟩) l1).trans c2, (B.cell (p := ⟨w1.heap.size, 3, none⟩) l1).trans c3, (B.cell (p := ⟨w1.heap.size + 1 + 1, 0, none⟩) l2).trans d0, (B.cell (p := ⟨w1.heap.size + 1 + 1, 1, none⟩) l2).trans d1, (B.cell (p := ⟨w1.heap.size + 1 + 1, 2, none⟩) l2).trans d2, (B.cell (p := ⟨w1.heap.size + 1 + 1, 3, none⟩) l2).trans d3⟩)
    (first
      | (go_at_call 12; ((with_reducible refine (T1.out _ ?_).mono ?_); focus (first | exact B | exact B.drew)); rintro e w5 ⟨rfl, hb⟩; (first | have B := B.trans (hb.mono B.size) | have B := B.drew.trans (hb.mono B.size)); clear hb)
      | (go_at_call 12; ((with_reducible refine (T3.out _ ?_).mono ?_); focus (first | exact B | exact B.drew)); rintro e w5 ⟨rfl, hb⟩; (first | have B := B.trans (hb.mono B.size) | have B := B.drew.trans (hb.mono B.size)); clear hb)
      | (go_at_call 13; ((with_reducible refine (T2.out _ ?_).mono ?_); focus (first | exact B | exact B.drew)); rintro e w5 ⟨rfl, hb⟩; (first | have B := B.trans (hb.mono B.size) | have B := B.drew.trans (hb.mono B.size)); clear hb)
      | (go_at_call 14; ((with_reducible refine (T4.out _ ?_).mono ?_); focus (first | exact B | exact B.drew)); rintro e w5 ⟨rfl, hb⟩; (first | have B := B.trans (hb.mono B.size) | have B := B.drew.trans (hb.mono B.size)); clear hb))
  all_goals
    go_wp2_with fail
    go_ret
    exact ⟨rfl, HBB.out.trans (B.mono HBB.out.size)⟩
end Go.Proofs.Ytofeidacffabdaa.LawTypesExpressions
