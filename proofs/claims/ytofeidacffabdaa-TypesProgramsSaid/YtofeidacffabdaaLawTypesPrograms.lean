/-
  The walk of the law TypesPrograms. No condition beyond the argument's reading.
-/
import Derived.Test.YtofeidacffabdaaTyRc
import Derived.Test.YtofeidacffabdaaTyOc
import Derived.Test.YtofeidacffabdaaTyLv
import Derived.Deep.RegionHeld3
namespace Go.Proofs.Ytofeidacffabdaa.LawTypesPrograms
open Go Go.RowKit Go.Proofs Go.Shelf
attribute [local go_sem] Oper.semAt_some

set_option maxRecDepth 100000 in
set_option maxHeartbeats 4000000 in
theorem walk (a0 : Option Addr) (len0 cap0 : Nat) (z0 : List Int) (w : World) (w0 : Row .i64 w a0 len0 cap0 z0) :
    Calls Try.prog 4 #[.slice a0 len0 cap0] w fun e w' => e = .returned (.bool true) ∧ Below w.heap.size w w' := by
  obtain ⟨_, _, _, hwf0⟩ := w0.ints
  have HX := Lib.hid (Unit_any a0 len0 cap0 _ w w0.slc (i64_of hwf0))
  have hfit : ∀ x ∈ (unitT (z0.take len0)).on, TY.FitS x.2 := TY.onG_fit _ _ _ _
  have hocc : ∀ x ∈ (unitT (z0.take len0)).on, (TY.occ x.2).length ≤ 50000 := TY.onG_oc _ _ _ _
  obtain ⟨u, hu⟩ : ∃ u, unitT (z0.take len0) = u := ⟨_, rfl⟩
  rw [hu] at HX hfit hocc
  have hcr := TY.chk_ref hfit
  clear hu w0 hwf0
  go_enter Try.func4, Try.ntmps4
  go_wp2_with fail
  refine HX.out.mono ?_
  clear HX
  rintro r w1 ⟨v, rfl, hv, hb1⟩
  obtain ⟨Ad, md, cd, Av, mv, cv, A, m, c, rfl, hd, hvl, hm, l1, l2, l3, l4, l5, l6, l7, l8, l9, s1, s2, s3⟩ := hv.shape
  have hs1 := hb1.size
  obtain ⟨W2, h2⟩ : ∃ U, w1.alloc (.cells #[.slice Ad md cd, .slice Av mv cv, .slice A m c] 35) = U := ⟨_, rfl⟩
  have z2 : W2.heap.size = w1.heap.size + 1 := by rw [← h2, World.size_alloc]
  have b2 : Below w1.heap.size w1 W2 := by rw [← h2]; exact (Below.refl _ _).alloc (Nat.le_refl _) _
  have e2 : W2.heap[w1.heap.size]? = some (.cells #[.slice Ad md cd, .slice Av mv cv, .slice A m c] 35 (0, 0)) := by rw [← h2]; exact World.alloc_heap_new w1 _
  have CK := Lib.hid (fun V (hV : Below W2.heap.size W2 V) => hv.check (b2.trans (hV.mono b2.size)))
  have RK := Lib.hid (fun V (hV : Below W2.heap.size W2 V) => refCheck_any hv hfit hocc (b2.trans (hV.mono b2.size)))
  have LV := Lib.hid (fun V (_ : Below W2.heap.size W2 V) => lives_any V)
  rw [hcr] at CK
  obtain ⟨q, hq⟩ : ∃ q, TY.chkR u = q := ⟨_, rfl⟩
  rw [hq] at CK RK
  have HBW := Lib.hid (hb1.trans (b2.mono hs1))
  have H2 := Lib.hid h2
  obtain ⟨fa0, fa1, fa2⟩ : W2.cell? ⟨w1.heap.size, 0, none⟩ = some (.slice Ad md cd) ∧ W2.cell? ⟨w1.heap.size, 1, none⟩ = some (.slice Av mv cv) ∧ W2.cell? ⟨w1.heap.size, 2, none⟩ = some (.slice A m c) := ⟨cell_of_row W2 _ 0 _ _ (0, 0) e2, cell_of_row W2 _ 1 _ _ (0, 0) e2, cell_of_row W2 _ 2 _ _ (0, 0) e2⟩
  have lt2 : w1.heap.size < W2.heap.size := by omega
  have B : Below W2.heap.size W2 W2 := Below.refl _ _
  clear hv hb1 hs1 h2 z2 b2 e2 s1 s2 s3 hd hvl hm hfit hocc hcr hq
  go_wp2_with fail
  rw [H2.out]
  clear H2
  go_region_held3 (fun V => V.cell? ⟨w1.heap.size, 0, none⟩ = some (.slice Ad md cd) ∧ V.cell? ⟨w1.heap.size, 1, none⟩ = some (.slice Av mv cv) ∧ V.cell? ⟨w1.heap.size, 2, none⟩ = some (.slice A m c))
    (first | exact ⟨(B.cell (p := ⟨w1.heap.size, 0, none⟩) lt2).trans fa0, (B.cell (p := ⟨w1.heap.size, 1, none⟩) lt2).trans fa1, (B.cell (p := ⟨w1.heap.size, 2, none⟩) lt2).trans fa2⟩)
    (first
      | (go_at_call 16; ((with_reducible refine (CK.out _ ?_).mono ?_); focus (first | exact B | exact B.drew)); rintro e w5 ⟨rfl, hb⟩; (first | have B := B.trans (hb.mono B.size) | have B := B.drew.trans (hb.mono B.size)); clear hb)
      | (go_at_call 17; ((with_reducible refine (RK.out _ ?_).mono ?_); focus (first | exact B | exact B.drew)); rintro e w5 ⟨rfl, hb⟩; (first | have B := B.trans (hb.mono B.size) | have B := B.drew.trans (hb.mono B.size)); clear hb)
      | (go_at_call 14; ((with_reducible refine (LV.out _ ?_).mono ?_); focus (first | exact B | exact B.drew)); rintro e w5 ⟨rfl, hb⟩; (first | have B := B.trans (hb.mono B.size) | have B := B.drew.trans (hb.mono B.size)); clear hb))
  all_goals
    go_wp2_with fail
    go_ret
    exact ⟨rfl, HBW.out.trans (B.mono HBW.out.size)⟩
end Go.Proofs.Ytofeidacffabdaa.LawTypesPrograms
