/-
  hasUndeclared, given what Index answers. Condition: the value is a tree.
-/
import Derived.Test.YtligbandpmgmaaaTyIx
import Derived.Laws.EntriesVeiled
namespace Go.Proofs.Ytligbandpmgmaaa
open Go Go.RowKit Go.Proofs Go.Shelf
attribute [local go_sem] Oper.semAt_some

set_option maxHeartbeats 4000000 in
theorem hasUnd_any (l : List ByteArray) (Ax Ay Az : Option Addr) (mx cx my cy mz cz : Nat) (t : TY.Nd) (W : World) (hi : Nat) (v : Value) (hv : NdV W hi t v) (hI : IdxC W hi (.agg #[.slice Ax mx cx, .slice Ay my cy, .slice Az mz cz]) l) (hh : hi ≤ W.heap.size) :
    Calls Try.prog 16 #[.agg #[.slice Ax mx cx, .slice Ay my cy, .slice Az mz cz], v] W fun e w' => e = .returned (.bool (TY.undec l t)) ∧ Below W.heap.size W w' := by
  obtain ⟨k, n, s, kids⟩ := t
  have hvo := hv.open_
  obtain ⟨A, c, vs, rfl, _⟩ := hvo
  obtain ⟨W1, hW1⟩ : ∃ U, W.alloc (.cells #[.slice Ax mx cx, .slice Ay my cy, .slice Az mz cz] 36) = U := ⟨_, rfl⟩
  obtain ⟨W2, hW2⟩ : ∃ U, W1.alloc (.cells #[.int .i64 k, .int .i64 n, .string s, .slice A kids.length c] 25) = U := ⟨_, rfl⟩
  obtain ⟨W4, hW4⟩ : ∃ U, W2.alloc (.cells #[undF W.heap.size (W.heap.size + 1 + 1)] 52) = U := ⟨_, rfl⟩
  have z1 : W1.heap.size = W.heap.size + 1 := by rw [← hW1, World.size_alloc]
  have z2 : W2.heap.size = W.heap.size + 1 + 1 := by rw [← hW2, World.size_alloc, z1]
  have b1 : Below W.heap.size W W1 := by rw [← hW1]; exact (Below.refl _ _).alloc (Nat.le_refl _) _
  have b2 : Below W1.heap.size W1 W2 := by rw [← hW2]; exact (Below.refl _ _).alloc (Nat.le_refl _) _
  have b24 : Below W2.heap.size W2 W4 := by rw [← hW4]; exact (Below.refl _ _).alloc (Nat.le_refl _) _
  have bW : Below W.heap.size W W4 := (b1.trans (b2.mono (by omega))).trans (b24.mono (by omega))
  have z4 : W4.heap.size = W.heap.size + 1 + 1 + 1 := by rw [← hW4, World.size_alloc, z2]
  have hU1 : W1.heap[W.heap.size]? = some (.cells #[.slice Ax mx cx, .slice Ay my cy, .slice Az mz cz] 36 (0, 0)) := by rw [← hW1]; exact World.alloc_heap_new W _
  have hU : UBox W4 W.heap.size (.slice Ax mx cx) (.slice Ay my cy) (.slice Az mz cz) := (b24.block _ (by omega)).trans ((b2.block _ (by omega)).trans hU1)
  have hF : FBox W4 (W.heap.size + 1 + 1) (undF W.heap.size (W.heap.size + 1 + 1)) := by
    unfold FBox
    rw [← hW4, ← z2]
    exact World.alloc_heap_new W2 _
  have g0 : W4.cell? ⟨W.heap.size + 1 + 1, 0, none⟩ = some (undF W.heap.size (W.heap.size + 1 + 1)) := cell_of_row W4 _ 0 _ _ (0, 0) hF
  obtain ⟨d0, d1, d2, d3⟩ := node_cells hW2
  rw [z1] at d0 d1 d2 d3
  have e0 := (b24.cell (p := ⟨W.heap.size + 1, 0, none⟩) (by show W.heap.size + 1 < _; omega)).trans d0
  have e1 := (b24.cell (p := ⟨W.heap.size + 1, 1, none⟩) (by show W.heap.size + 1 < _; omega)).trans d1
  have e2 := (b24.cell (p := ⟨W.heap.size + 1, 2, none⟩) (by show W.heap.size + 1 < _; omega)).trans d2
  have e3 := (b24.cell (p := ⟨W.heap.size + 1, 3, none⟩) (by show W.heap.size + 1 < _; omega)).trans d3
  have hv4 := hv.under (bW.mono hh) (Nat.le_refl hi)
  have hI4 : IdxC W4 hi (.agg #[.slice Ax mx cx, .slice Ay my cy, .slice Az mz cz]) l := fun V s hV h1 h2 => hI V s ((bW.mono hh).trans hV) h1 h2
  have hc := und_any l Ax Ay Az mx cx my cy mz cz _ W4 hi W.heap.size (W.heap.size + 1 + 1) hI4 hU hF (by omega) (by omega) (by omega) W4 _ (Below.refl _ _) hv4
  have eg := enters_of Try.func23 (by kernel_rfl) rfl
  obtain ⟨q, hq⟩ : ∃ q, TY.undec l (.mk k n s kids) = q := ⟨_, rfl⟩
  rw [hq] at hc ⊢
  have HC := Lib.hid hc
  have HBW := Lib.hid bW
  have HW := Lib.hid (show ((W.alloc (.cells #[.slice Ax mx cx, .slice Ay my cy, .slice Az mz cz] 36)).alloc (.cells #[.int .i64 k, .int .i64 n, .string s, .slice A kids.length c] 25)).alloc (.cells #[undF W.heap.size (W.heap.size + 1 + 1)] 52) = W4 by rw [hW1, hW2, hW4])
  clear hW1 hW2 hW4 b1 b2 b24 bW z1 z2 z4 hU1 hU hF d0 d1 d2 d3 hv4 hI4 hc hv hI hq
  go_enter Try.func16, Try.ntmps16
  go_wp2_with (first
    | (rw [HW.out]; go_at_call 23; refine HC.out.mono ?_; clear HC; rintro e w2 ⟨rfl, hb2⟩))
  go_ret
  exact ⟨rfl, HBW.out.trans (hb2.mono HBW.out.size)⟩
end Go.Proofs.Ytligbandpmgmaaa
