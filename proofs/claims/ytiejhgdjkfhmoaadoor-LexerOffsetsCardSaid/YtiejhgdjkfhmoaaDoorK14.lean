/-
  The law's lives: the tokens of the example. Condition: strconv.ErrRange holds an error or nil.
-/
import Derived.Deep.RegionHeld3
import Derived.Test.YtiejhgdjkfhmoaaDoorK10
import Derived.Test.YtiejhgdjkfhmoaaDoorK5

namespace Go.Proofs.YtiejhgdjkfhmoaaDoor
open Go Go.RowKit Go.Proofs Go.Proofs.YtiejhgdjkfhmoaaDoor.LX

theorem cell_up2 {W W' : World} {p : Addr} {v : Value} (hb : Below W.heap.size W W') (h : W.cell? p = some v) : W'.cell? p = some v := (hb.cell (p := p) (World.block_lt_of_cell? W p h)).trans h
theorem lex_ex : lex (bsOf ⟨#[97, 49, 60, 61, 50, 48, 32, 35, 32, 120]⟩) = .ok [⟨1, 0, [97, 49], 0⟩, ⟨3, 2, [60, 61], 0⟩, ⟨2, 4, [50, 48], 20⟩, ⟨0, 10, [], 0⟩] := by decide +kernel
def Lv (W : World) (g1 g2 : Nat) : Prop := W.cell? ⟨g1, 0, none⟩ = some (.int .i64 1) ∧ W.cell? ⟨g1, 1, none⟩ = some (.int .i64 0) ∧ W.cell? ⟨g1, 2, none⟩ = some (.string ⟨#[97, 49]⟩) ∧ W.cell? ⟨g1, 3, none⟩ = some (.int .i64 0) ∧ W.cell? ⟨g1, 4, none⟩ = some (.int .i64 3) ∧ W.cell? ⟨g1, 5, none⟩ = some (.int .i64 2) ∧ W.cell? ⟨g1, 6, none⟩ = some (.string ⟨#[60, 61]⟩) ∧ W.cell? ⟨g1, 7, none⟩ = some (.int .i64 0) ∧ W.cell? ⟨g1, 8, none⟩ = some (.int .i64 2) ∧ W.cell? ⟨g1, 9, none⟩ = some (.int .i64 4) ∧ W.cell? ⟨g1, 10, none⟩ = some (.string ⟨#[50, 48]⟩) ∧ W.cell? ⟨g1, 11, none⟩ = some (.int .i64 20) ∧ W.cell? ⟨g1, 12, none⟩ = some (.int .i64 0) ∧ W.cell? ⟨g1, 13, none⟩ = some (.int .i64 10) ∧ W.cell? ⟨g1, 14, none⟩ = some (.string ⟨#[]⟩) ∧ W.cell? ⟨g1, 15, none⟩ = some (.int .i64 0) ∧ W.cell? ⟨g2, 0, none⟩ = some (.int .i64 1) ∧ W.cell? ⟨g2, 1, none⟩ = some (.int .i64 0) ∧ W.cell? ⟨g2, 2, none⟩ = some (.string ⟨#[97, 49]⟩) ∧ W.cell? ⟨g2, 3, none⟩ = some (.int .i64 0) ∧ W.cell? ⟨g2, 4, none⟩ = some (.int .i64 3) ∧ W.cell? ⟨g2, 5, none⟩ = some (.int .i64 2) ∧ W.cell? ⟨g2, 6, none⟩ = some (.string ⟨#[60, 61]⟩) ∧ W.cell? ⟨g2, 7, none⟩ = some (.int .i64 0) ∧ W.cell? ⟨g2, 8, none⟩ = some (.int .i64 2) ∧ W.cell? ⟨g2, 9, none⟩ = some (.int .i64 4) ∧ W.cell? ⟨g2, 10, none⟩ = some (.string ⟨#[50, 48]⟩) ∧ W.cell? ⟨g2, 11, none⟩ = some (.int .i64 20) ∧ W.cell? ⟨g2, 12, none⟩ = some (.int .i64 0) ∧ W.cell? ⟨g2, 13, none⟩ = some (.int .i64 10) ∧ W.cell? ⟨g2, 14, none⟩ = some (.string ⟨#[]⟩) ∧ W.cell? ⟨g2, 15, none⟩ = some (.int .i64 0)
theorem lv_up {W W' : World} {g1 g2 : Nat} (hb : Below W.heap.size W W') (h : Lv W g1 g2) : Lv W' g1 g2 :=
  ⟨cell_up2 hb h.1, cell_up2 hb h.2.1, cell_up2 hb h.2.2.1, cell_up2 hb h.2.2.2.1, cell_up2 hb h.2.2.2.2.1, cell_up2 hb h.2.2.2.2.2.1, cell_up2 hb h.2.2.2.2.2.2.1, cell_up2 hb h.2.2.2.2.2.2.2.1, cell_up2 hb h.2.2.2.2.2.2.2.2.1, cell_up2 hb h.2.2.2.2.2.2.2.2.2.1, cell_up2 hb h.2.2.2.2.2.2.2.2.2.2.1, cell_up2 hb h.2.2.2.2.2.2.2.2.2.2.2.1, cell_up2 hb h.2.2.2.2.2.2.2.2.2.2.2.2.1, cell_up2 hb h.2.2.2.2.2.2.2.2.2.2.2.2.2.1, cell_up2 hb h.2.2.2.2.2.2.2.2.2.2.2.2.2.2.1, cell_up2 hb h.2.2.2.2.2.2.2.2.2.2.2.2.2.2.2.1, cell_up2 hb h.2.2.2.2.2.2.2.2.2.2.2.2.2.2.2.2.1, cell_up2 hb h.2.2.2.2.2.2.2.2.2.2.2.2.2.2.2.2.2.1, cell_up2 hb h.2.2.2.2.2.2.2.2.2.2.2.2.2.2.2.2.2.2.1, cell_up2 hb h.2.2.2.2.2.2.2.2.2.2.2.2.2.2.2.2.2.2.2.1, cell_up2 hb h.2.2.2.2.2.2.2.2.2.2.2.2.2.2.2.2.2.2.2.2.1, cell_up2 hb h.2.2.2.2.2.2.2.2.2.2.2.2.2.2.2.2.2.2.2.2.2.1, cell_up2 hb h.2.2.2.2.2.2.2.2.2.2.2.2.2.2.2.2.2.2.2.2.2.2.1, cell_up2 hb h.2.2.2.2.2.2.2.2.2.2.2.2.2.2.2.2.2.2.2.2.2.2.2.1, cell_up2 hb h.2.2.2.2.2.2.2.2.2.2.2.2.2.2.2.2.2.2.2.2.2.2.2.2.1, cell_up2 hb h.2.2.2.2.2.2.2.2.2.2.2.2.2.2.2.2.2.2.2.2.2.2.2.2.2.1, cell_up2 hb h.2.2.2.2.2.2.2.2.2.2.2.2.2.2.2.2.2.2.2.2.2.2.2.2.2.2.1, cell_up2 hb h.2.2.2.2.2.2.2.2.2.2.2.2.2.2.2.2.2.2.2.2.2.2.2.2.2.2.2.1, cell_up2 hb h.2.2.2.2.2.2.2.2.2.2.2.2.2.2.2.2.2.2.2.2.2.2.2.2.2.2.2.2.1, cell_up2 hb h.2.2.2.2.2.2.2.2.2.2.2.2.2.2.2.2.2.2.2.2.2.2.2.2.2.2.2.2.2.1, cell_up2 hb h.2.2.2.2.2.2.2.2.2.2.2.2.2.2.2.2.2.2.2.2.2.2.2.2.2.2.2.2.2.2.1, cell_up2 hb h.2.2.2.2.2.2.2.2.2.2.2.2.2.2.2.2.2.2.2.2.2.2.2.2.2.2.2.2.2.2.2⟩
set_option maxRecDepth 100000 in
set_option maxHeartbeats 4000000 in
theorem lives_any (w : World) (hE : ErrV w) :
    Calls Tryd.prog 14 #[] w fun e w' => e = .returned (.bool true) ∧ Below w.heap.size w w' := by
  have ht := toks_any ⟨#[97, 49, 60, 61, 50, 48, 32, 35, 32, 120]⟩ (by decide) w hE
  rw [lex_ex] at ht
  have HT := Lib.hid ht
  have S1 : Hid (∀ V, Calls Tryd.prog 19 #[.agg #[.int .i64 1, .int .i64 0, .string ⟨#[97, 49]⟩, .int .i64 0], .agg #[.int .i64 1, .int .i64 0, .string ⟨#[97, 49]⟩, .int .i64 0]] V fun e w' => e = .returned (.bool true) ∧ Below V.heap.size V w') := fun V => same_eq 1 0 0 ⟨#[97, 49]⟩ V
  have S2 : Hid (∀ V, Calls Tryd.prog 19 #[.agg #[.int .i64 3, .int .i64 2, .string ⟨#[60, 61]⟩, .int .i64 0], .agg #[.int .i64 3, .int .i64 2, .string ⟨#[60, 61]⟩, .int .i64 0]] V fun e w' => e = .returned (.bool true) ∧ Below V.heap.size V w') := fun V => same_eq 3 2 0 ⟨#[60, 61]⟩ V
  have S3 : Hid (∀ V, Calls Tryd.prog 19 #[.agg #[.int .i64 2, .int .i64 4, .string ⟨#[50, 48]⟩, .int .i64 20], .agg #[.int .i64 2, .int .i64 4, .string ⟨#[50, 48]⟩, .int .i64 20]] V fun e w' => e = .returned (.bool true) ∧ Below V.heap.size V w') := fun V => same_eq 2 4 20 ⟨#[50, 48]⟩ V
  have S4 : Hid (∀ V, Calls Tryd.prog 19 #[.agg #[.int .i64 0, .int .i64 10, .string ⟨#[]⟩, .int .i64 0], .agg #[.int .i64 0, .int .i64 10, .string ⟨#[]⟩, .int .i64 0]] V fun e w' => e = .returned (.bool true) ∧ Below V.heap.size V w') := fun V => same_eq 0 10 0 ⟨#[]⟩ V
  clear ht hE
  go_enter Tryd.func14, Tryd.ntmps14
  go_wp2_with (
    go_at_call 15
    refine HT.out.mono ?_
    rintro e w1 ⟨⟨A1, c1, rfl, ht1⟩, hb1⟩
    simp only [outT, outP, outC, List.length_cons, List.length_nil, Nat.reduceAdd] at ht1 ⊢
    have HT1 := Lib.hid ht1
    have HB1 := Lib.hid hb1
    clear ht1 hb1 HT)
  obtain ⟨g1, rfl, hg1⟩ := tRow_blk HT1.out (by decide)
  obtain ⟨W2, hW2⟩ : ∃ V, w1.alloc (.cells #[.int .i64 1, .int .i64 0, .string ⟨#[97, 49]⟩, .int .i64 0, .int .i64 3, .int .i64 2, .string ⟨#[60, 61]⟩, .int .i64 0, .int .i64 2, .int .i64 4, .string ⟨#[50, 48]⟩, .int .i64 20, .int .i64 0, .int .i64 10, .string ⟨#[]⟩, .int .i64 0] 49) = V := ⟨_, rfl⟩
  rw [hW2]
  have hB2 : Below w1.heap.size w1 W2 := by rw [← hW2]; exact (Below.refl _ _).alloc (Nat.le_refl _) _
  have hk : W2.heap[w1.heap.size]? = some (.cells #[.int .i64 1, .int .i64 0, .string ⟨#[97, 49]⟩, .int .i64 0, .int .i64 3, .int .i64 2, .string ⟨#[60, 61]⟩, .int .i64 0, .int .i64 2, .int .i64 4, .string ⟨#[50, 48]⟩, .int .i64 20, .int .i64 0, .int .i64 10, .string ⟨#[]⟩, .int .i64 0] 49 (0, 0)) := by rw [← hW2]; exact World.alloc_heap_new w1 _
  have hg2 := hg1.below hB2
  obtain ⟨t00, t01, t02, t03⟩ := hg2.cells 0 _ rfl
  obtain ⟨t10, t11, t12, t13⟩ := hg2.cells 1 _ rfl
  obtain ⟨t20, t21, t22, t23⟩ := hg2.cells 2 _ rfl
  obtain ⟨t30, t31, t32, t33⟩ := hg2.cells 3 _ rfl
  have HQ : Hid (Lv W2 g1 w1.heap.size) := ⟨t00, t01, t02, t03, t10, t11, t12, t13, t20, t21, t22, t23, t30, t31, t32, t33, cell_of_row W2 _ 0 _ _ (0, 0) hk, cell_of_row W2 _ 1 _ _ (0, 0) hk, cell_of_row W2 _ 2 _ _ (0, 0) hk, cell_of_row W2 _ 3 _ _ (0, 0) hk, cell_of_row W2 _ 4 _ _ (0, 0) hk, cell_of_row W2 _ 5 _ _ (0, 0) hk, cell_of_row W2 _ 6 _ _ (0, 0) hk, cell_of_row W2 _ 7 _ _ (0, 0) hk, cell_of_row W2 _ 8 _ _ (0, 0) hk, cell_of_row W2 _ 9 _ _ (0, 0) hk, cell_of_row W2 _ 10 _ _ (0, 0) hk, cell_of_row W2 _ 11 _ _ (0, 0) hk, cell_of_row W2 _ 12 _ _ (0, 0) hk, cell_of_row W2 _ 13 _ _ (0, 0) hk, cell_of_row W2 _ 14 _ _ (0, 0) hk, cell_of_row W2 _ 15 _ _ (0, 0) hk⟩
  have HQD : Hid (Lv W2.drew g1 w1.heap.size) := HQ.out
  have HB := Lib.hid (HB1.out.trans (hB2.mono HB1.out.size))
  clear t00 t01 t02 t03 t10 t11 t12 t13 t20 t21 t22 t23 t30 t31 t32 t33 hk hg1 hg2 HT1 hW2
  go_region_held3 (fun W => W.cell? ⟨g1, 0, none⟩ = some (.int .i64 1) ∧ W.cell? ⟨g1, 1, none⟩ = some (.int .i64 0) ∧ W.cell? ⟨g1, 2, none⟩ = some (.string ⟨#[97, 49]⟩) ∧ W.cell? ⟨g1, 3, none⟩ = some (.int .i64 0) ∧ W.cell? ⟨g1, 4, none⟩ = some (.int .i64 3) ∧ W.cell? ⟨g1, 5, none⟩ = some (.int .i64 2) ∧ W.cell? ⟨g1, 6, none⟩ = some (.string ⟨#[60, 61]⟩) ∧ W.cell? ⟨g1, 7, none⟩ = some (.int .i64 0) ∧ W.cell? ⟨g1, 8, none⟩ = some (.int .i64 2) ∧ W.cell? ⟨g1, 9, none⟩ = some (.int .i64 4) ∧ W.cell? ⟨g1, 10, none⟩ = some (.string ⟨#[50, 48]⟩) ∧ W.cell? ⟨g1, 11, none⟩ = some (.int .i64 20) ∧ W.cell? ⟨g1, 12, none⟩ = some (.int .i64 0) ∧ W.cell? ⟨g1, 13, none⟩ = some (.int .i64 10) ∧ W.cell? ⟨g1, 14, none⟩ = some (.string ⟨#[]⟩) ∧ W.cell? ⟨g1, 15, none⟩ = some (.int .i64 0) ∧ W.cell? ⟨w1.heap.size, 0, none⟩ = some (.int .i64 1) ∧ W.cell? ⟨w1.heap.size, 1, none⟩ = some (.int .i64 0) ∧ W.cell? ⟨w1.heap.size, 2, none⟩ = some (.string ⟨#[97, 49]⟩) ∧ W.cell? ⟨w1.heap.size, 3, none⟩ = some (.int .i64 0) ∧ W.cell? ⟨w1.heap.size, 4, none⟩ = some (.int .i64 3) ∧ W.cell? ⟨w1.heap.size, 5, none⟩ = some (.int .i64 2) ∧ W.cell? ⟨w1.heap.size, 6, none⟩ = some (.string ⟨#[60, 61]⟩) ∧ W.cell? ⟨w1.heap.size, 7, none⟩ = some (.int .i64 0) ∧ W.cell? ⟨w1.heap.size, 8, none⟩ = some (.int .i64 2) ∧ W.cell? ⟨w1.heap.size, 9, none⟩ = some (.int .i64 4) ∧ W.cell? ⟨w1.heap.size, 10, none⟩ = some (.string ⟨#[50, 48]⟩) ∧ W.cell? ⟨w1.heap.size, 11, none⟩ = some (.int .i64 20) ∧ W.cell? ⟨w1.heap.size, 12, none⟩ = some (.int .i64 0) ∧ W.cell? ⟨w1.heap.size, 13, none⟩ = some (.int .i64 10) ∧ W.cell? ⟨w1.heap.size, 14, none⟩ = some (.string ⟨#[]⟩) ∧ W.cell? ⟨w1.heap.size, 15, none⟩ = some (.int .i64 0))
    (first | exact HQ.out | exact F1.out | exact F2.out | exact F3.out | exact F4.out)
    (first | (go_at_call 19; ((with_reducible refine (S1.out _).mono ?_); rintro e v1 ⟨rfl, hv1⟩; have F1 := Lib.hid (lv_up (show Below _ _ _ from hv1) HQD.out); clear S1)) | (go_at_call 19; ((with_reducible refine (S2.out _).mono ?_); rintro e v2 ⟨rfl, hv2⟩; have F2 := Lib.hid (lv_up (show Below _ _ _ from hv2) F1.out); clear S2)) | (go_at_call 19; ((with_reducible refine (S3.out _).mono ?_); rintro e v3 ⟨rfl, hv3⟩; have F3 := Lib.hid (lv_up (show Below _ _ _ from hv3) F2.out); clear S3)) | (go_at_call 19; ((with_reducible refine (S4.out _).mono ?_); rintro e v4 ⟨rfl, hv4⟩; have F4 := Lib.hid (lv_up (show Below _ _ _ from hv4) F3.out); clear S4)))
  all_goals
    go_wp2
    go_ret
    exact ⟨rfl, HB.out.drew.trans ((((hv1.trans (hv2.mono hv1.size)).trans (hv3.mono (hv1.trans (hv2.mono hv1.size)).size)).trans (hv4.mono ((hv1.trans (hv2.mono hv1.size)).trans (hv3.mono (hv1.trans (hv2.mono hv1.size)).size)).size)).mono HB.out.size)⟩
end Go.Proofs.YtiejhgdjkfhmoaaDoor
