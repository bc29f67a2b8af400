/-
  The contracts of TypeOf and wellTyped. Condition: the value is a tree.
-/
import Derived.Test.YtligbandpmgmaaaTyIf
import Derived.Test.YtligbandpmgmaaaTyNw
import Derived.Test.YtligbandpmgmaaaTyU
import Derived.Deep.RegionHeld3
namespace Go.Proofs.Ytligbandpmgmaaa
open Go Go.RowKit Go.Proofs Go.Shelf
attribute [local go_sem] Oper.semAt_some

theorem node_cells {W W1 : World} {k n : Int} {s : ByteArray} {A : Option Addr} {m c : Nat} (h : W.alloc (.cells #[.int .i64 k, .int .i64 n, .string s, .slice A m c] 25) = W1) : W1.cell? ⟨W.heap.size, 0, none⟩ = some (.int .i64 k) ∧ W1.cell? ⟨W.heap.size, 1, none⟩ = some (.int .i64 n) ∧ W1.cell? ⟨W.heap.size, 2, none⟩ = some (.string s) ∧ W1.cell? ⟨W.heap.size, 3, none⟩ = some (.slice A m c) := by
  have ho := World.alloc_heap_new W (.cells #[.int .i64 k, .int .i64 n, .string s, .slice A m c] 25)
  rw [h] at ho
  exact ⟨cell_of_row W1 _ 0 _ _ (0, 0) ho, cell_of_row W1 _ 1 _ _ (0, 0) ho, cell_of_row W1 _ 2 _ _ (0, 0) ho, cell_of_row W1 _ 3 _ _ (0, 0) ho⟩
set_option maxHeartbeats 4000000 in
theorem TypeOf_any (t : TY.Nd) (W : World) (hi : Nat) (v : Value) (hv : NdV W hi t v) (hh : hi ≤ W.heap.size) : Calls Try.prog 5 #[v] W fun e w' => e = .returned (.int .i64 (TY.tyOf t : Int)) ∧ Below W.heap.size W w' := by
  obtain ⟨k, n, s, l⟩ := t
  have hvo := hv.open_
  obtain ⟨A, c, vs, rfl, _⟩ := hvo
  obtain ⟨W1, hW1⟩ : ∃ U, W.alloc (.cells #[.int .i64 k, .int .i64 n, .string s, .slice A l.length c] 25) = U := ⟨_, rfl⟩
  have hb1 : Below W.heap.size W W1 := by rw [← hW1]; exact (Below.refl _ _).alloc (Nat.le_refl _) _
  have z1 : W1.heap.size = W.heap.size + 1 := by rw [← hW1, World.size_alloc]
  obtain ⟨d0, d1, d2, d3⟩ := node_cells hW1
  have HT := Lib.hid (fun (V U : World) (mu mb : Nat) (hV : Below W1.heap.size W1 V) (hr : Rul V V.heap.size mu mb) (hU : Below V.heap.size V U) => typeOf_any (mu := mu) (mb := mb) _ U V.heap.size _ (hv.under (((hb1.mono hh).trans (hV.mono (Nat.le_trans hh hb1.size))).trans (hU.mono (Nat.le_trans hh (Nat.le_trans hb1.size hV.size)))) (Nat.le_trans hh (Nat.le_trans hb1.size hV.size))) (hr.below hU) hU.size)
  have HB1 := Lib.hid hb1
  have HW1 := Lib.hid hW1
  have hlt : W.heap.size < W1.heap.size := by omega
  have B1 : Below W1.heap.size W1 W1 := Below.refl _ _
  obtain ⟨y, hy⟩ : ∃ y, TY.tyOf (.mk k n s l) = y := ⟨_, rfl⟩
  rw [hy] at HT ⊢
  clear hW1 hb1 hv z1 hy
  go_enter Try.func5, Try.ntmps5
  go_wp2_with fail
  rw [HW1.out]
  go_wp2_with fail
  go_region_held3 (fun V => V.cell? ⟨W.heap.size, 0, none⟩ = some (.int .i64 k) ∧ V.cell? ⟨W.heap.size, 1, none⟩ = some (.int .i64 n) ∧ V.cell? ⟨W.heap.size, 2, none⟩ = some (.string s) ∧ V.cell? ⟨W.heap.size, 3, none⟩ = some (.slice A l.length c))
    (first | exact ⟨d0, d1, d2, d3⟩ | exact ⟨(B3.cell (p := ⟨W.heap.size, 0, none⟩) hlt).trans d0, (B3.cell (p := ⟨W.heap.size, 1, none⟩) hlt).trans d1, (B3.cell (p := ⟨W.heap.size, 2, none⟩) hlt).trans d2, (B3.cell (p := ⟨W.heap.size, 3, none⟩) hlt).trans d3⟩ | exact ⟨(B2.cell (p := ⟨W.heap.size, 0, none⟩) hlt).trans d0, (B2.cell (p := ⟨W.heap.size, 1, none⟩) hlt).trans d1, (B2.cell (p := ⟨W.heap.size, 2, none⟩) hlt).trans d2, (B2.cell (p := ⟨W.heap.size, 3, none⟩) hlt).trans d3⟩)
    (first
      | (go_at_call 13; refine (newRules_any _).mono ?_; rintro e w2 ⟨mu, mb, rfl, hr2, hb2⟩; have B2 := B1.drew.trans hb2; have HR2 := Lib.hid hr2; clear hr2 hb2)
      | (go_at_call 14; ((with_reducible refine (HT.out w2 _ mu mb B2 HR2.out ?_).mono ?_); focus (first | exact Below.refl _ _ | exact (Below.refl _ _).drew)); rintro e w3 ⟨rfl, hb3⟩; have B3 := B2.trans (hb3.mono B2.size); clear hb3))
  all_goals
    go_wp2_with fail
    go_ret
    exact ⟨rfl, HB1.out.trans (B3.mono HB1.out.size)⟩

/-- What wellTyped does at the tree t. -/
def WAt (mu mb : Nat) (t : TY.Nd) : Prop := ∀ (W : World) (hi : Nat) (v : Value), NdV W hi t v → Rul W hi mu mb → hi ≤ W.heap.size →
  Calls Try.prog 15 #[rulesV mu mb, v] W fun e w' => e = .returned (.bool (TY.wellP t)) ∧ Below W.heap.size W w'
theorem WAt.dec {mu mb : Nat} {t : TY.Nd} (h : WAt mu mb t) {W : World} {hi : Nat} (hr : Rul W hi mu mb) (hh : hi ≤ W.heap.size) : Dec 15 #[rulesV mu mb] #[] W hi TY.wellP t := fun V x hV hx => by
  simpa using h V hi x hx (hr.below (hV.mono hh)) (Nat.le_trans hh hV.size)
set_option maxHeartbeats 2000000 in
theorem wellC_any {mu mb : Nat} (t : TY.Nd) (W : World) (hi B : Nat) (hr : Rul W hi mu mb) (hh : hi ≤ W.heap.size) (hbx : RBox W B mu mb) (hB : B < W.heap.size) : Dec 22 #[] #[.pointer (some ⟨B, 0, none⟩)] W hi (fun t => decide (TY.tyOf t = 1)) t := by
  intro V v hV hv
  obtain ⟨k, n, s, l⟩ := t
  have hvo := hv.open_
  obtain ⟨A, c, vs, rfl, _⟩ := hvo
  obtain ⟨W1, hW1⟩ : ∃ U, V.alloc (.cells #[.int .i64 k, .int .i64 n, .string s, .slice A l.length c] 25) = U := ⟨_, rfl⟩
  have hb1 : Below V.heap.size V W1 := by rw [← hW1]; exact (Below.refl _ _).alloc (Nat.le_refl _) _
  have hs := hV.size
  have hVW : Below W.heap.size W W1 := hV.trans (hb1.mono hs)
  have hc := typeOf_any (mu := mu) (mb := mb) _ W1 hi _ (hv.under (hb1.mono (by omega)) (Nat.le_refl _)) (hr.below (hVW.mono hh)) (Nat.le_trans hh hVW.size)
  obtain ⟨c0, c1⟩ := (hbx.below hB hVW).cells
  obtain ⟨d0, d1, d2, d3⟩ := node_cells hW1
  obtain ⟨y, hy⟩ : ∃ y, TY.tyOf (.mk k n s l) = y := ⟨_, rfl⟩
  show Calls _ _ _ _ fun e w' => e = .returned (.bool (decide (TY.tyOf (.mk k n s l) = 1))) ∧ Below V.heap.size V w'
  rw [hy] at hc ⊢
  have HC := Lib.hid hc
  have HB1 := Lib.hid hb1
  have HW1 := Lib.hid hW1
  have HEQ := Lib.hid (show ((y : Int) == (1 : Int)) = decide (y = 1) by rw [Bool.eq_iff_iff, beq_iff_eq, decide_eq_true_iff]; omega)
  rw [← hW1] at c0 c1 d0 d1 d2 d3
  clear hc hb1 hW1 hbx hv hr hy hV hVW
  go_enter Try.func22, Try.ntmps22
  go_wp2_with (first
    | (rw [HW1.out]; go_at_call 14; refine HC.out.mono ?_; clear HC; rintro e w2 ⟨rfl, hb2⟩))
  go_ret
  rw [HEQ.out]
  exact ⟨rfl, HB1.out.trans (hb2.mono HB1.out.size)⟩
end Go.Proofs.Ytligbandpmgmaaa
