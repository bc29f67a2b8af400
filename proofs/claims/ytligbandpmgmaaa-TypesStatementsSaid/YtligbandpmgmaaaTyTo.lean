/-
  The contracts of apply and typeOf. Conditions: the value is a tree, the maps hold the rules.
-/
import Derived.Test.YtligbandpmgmaaaTyT
namespace Go.Proofs.Ytligbandpmgmaaa
open Go Go.RowKit Go.Proofs Go.Shelf
attribute [local go_sem] Oper.semAt_some

set_option maxHeartbeats 2000000 in
theorem apply_any {mu mb : Nat} {k n : Int} {s : ByteArray} {l : List TY.Nd} (hl : ∀ t ∈ l, TyAt mu mb t) (W : World) (hi r : Nat) (v K : Value) (ts : List Nat) (hv : NdV W hi (.mk k n s l) v) (hr : Rul W hi mu mb) (hh : hi ≤ W.heap.size) (hK : Opr W hi K ts) (A : Option Addr) (c : Nat) (hvA : v = ndv k n s (.slice A l.length c)) :
    Calls Try.prog 20 #[rulesV mu mb, ruv K r, .slice A l.length c] W fun e w' => e = .returned (.int .i64 ((if l.map TY.tyOf = ts then r else 0 : Nat) : Int)) ∧ Below W.heap.size W w' := by
  obtain ⟨W1, hW1⟩ : ∃ V, W.alloc (.cells #[.map (some mu), .map (some mb)] 48) = V := ⟨_, rfl⟩
  obtain ⟨W2, hW2⟩ : ∃ V, W1.alloc (.cells #[K, .int .i64 (r : Int)] 59) = V := ⟨_, rfl⟩
  have z1 : W1.heap.size = W.heap.size + 1 := by rw [← hW1, World.size_alloc]
  have z2 : W2.heap.size = W.heap.size + 1 + 1 := by rw [← hW2, World.size_alloc, z1]
  have hb1 : Below W.heap.size W W1 := by rw [← hW1]; exact (Below.refl _ _).alloc (Nat.le_refl _) _
  have hb2 : Below W.heap.size W W2 := by rw [← hW2]; exact hb1.alloc (by omega) _
  have hbx : RBox W2 W.heap.size mu mb := by
    unfold RBox
    rw [← hW2, Below.heap_alloc W1 _ _ (by omega), ← hW1]
    exact World.alloc_heap_new W _
  have ho : W2.heap[W.heap.size + 1]? = some (.cells #[K, .int .i64 (r : Int)] 59 (0, 0)) := by
    rw [← hW2, ← z1]
    exact World.alloc_heap_new W1 _
  have heq := equal_any hl W2 hi W.heap.size v K ts (hv.under (hb2.mono hh) (Nat.le_refl _)) (hr.below (hb2.mono hh)) (by omega) (hK.below (hb2.mono hh)) hbx (by omega) A c hvA
  obtain ⟨A2, c2, rfl, _, _, _⟩ := hK
  have c0 : W2.cell? ⟨W.heap.size + 1, 0, none⟩ = some (.slice A2 ts.length c2) := cell_of_row W2 _ 0 _ _ (0, 0) ho
  have c1 : W2.cell? ⟨W.heap.size + 1, 1, none⟩ = some (.int .i64 (r : Int)) := cell_of_row W2 _ 1 _ _ (0, 0) ho
  have HC1 := Lib.hid c1
  rw [← hW2, ← hW1] at c0
  have HB2 := Lib.hid hb2
  have HW1 := Lib.hid hW1
  have HW2 := Lib.hid hW2
  have hs2 : W.heap.size + 1 < W2.heap.size := by omega
  clear hW1 hW2 hb1 hb2 hbx ho z1 z2 hvA hv hr hl c1
  by_cases he : l.map TY.tyOf = ts
  · rw [decide_eq_true he] at heq
    rw [if_pos he]
    have HEQ := Lib.hid heq
    clear heq he
    go_enter Try.func20, Try.ntmps20
    go_wp2_with (first
      | (rw [HW1.out, HW2.out]; go_at_call 28; refine HEQ.out.mono ?_; clear HEQ; rintro e w3 ⟨rfl, hb3⟩; have c1 := (hb3.cell (p := ⟨W.heap.size + 1, 1, none⟩) hs2).trans HC1.out; have HB3 := Lib.hid (HB2.out.trans (hb3.mono HB2.out.size)); clear hb3))
    go_ret
    exact ⟨rfl, HB3.out⟩
  · rw [decide_eq_false he] at heq
    rw [if_neg he]
    have HEQ := Lib.hid heq
    clear heq he
    go_enter Try.func20, Try.ntmps20
    go_wp2_with (first
      | (rw [HW1.out, HW2.out]; go_at_call 28; refine HEQ.out.mono ?_; clear HEQ; rintro e w3 ⟨rfl, hb3⟩; have HB3 := Lib.hid (HB2.out.trans (hb3.mono HB2.out.size)); clear hb3))
    go_ret
    exact ⟨rfl, HB3.out⟩
end Go.Proofs.Ytligbandpmgmaaa
