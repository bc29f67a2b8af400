/-
  The reference's generators of events and questions. Condition: the numbers are Go's.
-/
import Derived.Test.YtpjjckfgnflmlaaK4
import Derived.Test.YtpjjckfgnflmlaaK6
import Derived.Test.YtpjjckfgnflmlaaK8
import Derived.Test.YtpjjckfgnflmlaaK5

namespace Go.Proofs.Ytpjjckfgnflmlaa
open Go Go.RowKit Go.Proofs
attribute [local go_sem] Oper.semAt_some

theorem row8K {V : World} {g : Nat} {t : TypeId} {x0 x1 x2 x3 x4 x5 x6 x7 : Value} (h : V.heap[g]? = some (.cells #[x0, x1, x2, x3, x4, x5, x6, x7] t (0, 0))) : V.cell? ⟨g, 0, none⟩ = some x0 ∧ V.cell? ⟨g, 1, none⟩ = some x1 ∧ V.cell? ⟨g, 2, none⟩ = some x2 ∧ V.cell? ⟨g, 3, none⟩ = some x3 ∧ V.cell? ⟨g, 4, none⟩ = some x4 ∧ V.cell? ⟨g, 5, none⟩ = some x5 ∧ V.cell? ⟨g, 6, none⟩ = some x6 ∧ V.cell? ⟨g, 7, none⟩ = some x7 :=
  ⟨cell_of_row _ _ 0 _ _ (0, 0) h, cell_of_row _ _ 1 _ _ (0, 0) h, cell_of_row _ _ 2 _ _ (0, 0) h, cell_of_row _ _ 3 _ _ (0, 0) h, cell_of_row _ _ 4 _ _ (0, 0) h, cell_of_row _ _ 5 _ _ (0, 0) h, cell_of_row _ _ 6 _ _ (0, 0) h, cell_of_row _ _ 7 _ _ (0, 0) h⟩
theorem frozK {V : World} {g : Nat} {C : Array Value} {t : TypeId} (h : V.heap[g]? = some (.cells C t (0, 0))) (j : Nat) : V.frozen? ⟨g, j, none⟩ = false := by simp [World.frozen?, h]
theorem set8K {V : World} {g : Nat} {t : TypeId} {x0 x1 x2 x3 x4 x5 x6 x7 : Value} (h : V.heap[g]? = some (.cells #[x0, x1, x2, x3, x4, x5, x6, x7] t (0, 0))) (n0 n1 n2 n3 n4 n5 n6 n7 : Int) :
    ((((((((V.setCell ⟨g, 0, none⟩ (.int .i64 n0)).setCell ⟨g, 1, none⟩ (.int .i64 n1)).setCell ⟨g, 2, none⟩ (.int .i64 n2)).setCell ⟨g, 3, none⟩ (.int .i64 n3)).setCell ⟨g, 4, none⟩ (.int .i64 n4)).setCell ⟨g, 5, none⟩ (.int .i64 n5)).setCell ⟨g, 6, none⟩ (.int .i64 n6)).setCell ⟨g, 7, none⟩ (.int .i64 n7)).heap[g]? = some (.cells #[.int .i64 n0, .int .i64 n1, .int .i64 n2, .int .i64 n3, .int .i64 n4, .int .i64 n5, .int .i64 n6, .int .i64 n7] t (0, 0)) ∧ Below g V ((((((((V.setCell ⟨g, 0, none⟩ (.int .i64 n0)).setCell ⟨g, 1, none⟩ (.int .i64 n1)).setCell ⟨g, 2, none⟩ (.int .i64 n2)).setCell ⟨g, 3, none⟩ (.int .i64 n3)).setCell ⟨g, 4, none⟩ (.int .i64 n4)).setCell ⟨g, 5, none⟩ (.int .i64 n5)).setCell ⟨g, 6, none⟩ (.int .i64 n6)).setCell ⟨g, 7, none⟩ (.int .i64 n7)) := by
  refine ⟨?_, (((((((Below.refl g V).setCell (Nat.le_refl _) _).setCell (Nat.le_refl _) _).setCell (Nat.le_refl _) _).setCell (Nat.le_refl _) _).setCell (Nat.le_refl _) _).setCell (Nat.le_refl _) _).setCell (Nat.le_refl _) _ |>.setCell (Nat.le_refl _) _⟩
  simp only [World.setCell, Array.getElem?_modify]
  simp [h]
theorem arI_i64 {n m : Int} (hm : 0 < m) (hm2 : m ≤ 1099511627776) : I64 (NM.arI n m) := by
  have := NM.arI_in n m hm
  unfold I64
  omega
set_option maxHeartbeats 2000000 in
theorem small_any (n : Int) (hn : I64 n) (w : World) : Calls Try.prog 68 #[.int .i64 n] w fun e w' => e = .returned (.int .i64 (NM.smallN n)) ∧ w = w' := by
  have HA := Lib.hid (around_any n 1000000 hn (by omega) (by omega) w)
  have hk := NM.arI_in n 1000000 (by omega)
  obtain ⟨k, hkk⟩ : ∃ k, NM.arI n 1000000 = k := ⟨_, rfl⟩
  have hkk' : around n 1000000 = k := hkk
  have hs : NM.smallN n = NM.smallK k := by unfold NM.smallN; rw [hkk]
  rw [hs]
  rw [hkk'] at HA
  rw [hkk] at hk
  obtain ⟨k0, k1⟩ := hk
  clear hs hkk hkk' hn
  by_cases h : k % 40 = 39
  · have HS := Lib.hid (show NM.smallK k = 2147483647 - k / 40 % 2 by unfold NM.smallK; rw [if_pos h])
    have hb : (k % 40 == 39) = true := by simp [h]
    clear h
    go_enter Try.func68, Try.ntmps68
    go_wp2_with (go_at_call 35; refine HA.out.mono ?_; rintro e w1 ⟨rfl, rfl⟩)
    go_ret
    exact ⟨by rw [HS.out]; rfl, rfl⟩
  · have HS := Lib.hid (show NM.smallK k = k / 40 % 4 by unfold NM.smallK; rw [if_neg h])
    have hb : (k % 40 == 39) = false := by simp [h]
    clear h
    go_enter Try.func68, Try.ntmps68
    go_wp2_with (go_at_call 35; refine HA.out.mono ?_; rintro e w1 ⟨rfl, rfl⟩)
    go_ret
    exact ⟨by rw [HS.out]; rfl, rfl⟩
set_option maxHeartbeats 4000000 in
set_option maxRecDepth 100000 in
theorem causeOf_any (n : Int) (hn : I64 n) (w : World) : Calls Try.prog 69 #[.int .i64 n] w fun e w' => e = .returned (.agg #[.int .i64 (NM.arI n 1000000000 % 12), .int .i64 (NM.arI n 1000000000 / 12 % 40), .int .i64 (NM.smallN (NM.arI n 1000000000 / 480))]) ∧ Below w.heap.size w w' := by
  have HA := Lib.hid (fun V => around_any n 1000000000 hn (by omega) (by omega) V)
  have hk := NM.arI_in n 1000000000 (by omega)
  obtain ⟨k, hkk⟩ : ∃ k, NM.arI n 1000000000 = k := ⟨_, rfl⟩
  have hkk' : around n 1000000000 = k := hkk
  rw [hkk]
  rw [hkk'] at HA
  rw [hkk] at hk
  obtain ⟨k0, k1⟩ := hk
  have HS := Lib.hid (fun V => small_any (k / 480) (by unfold I64; omega) V)
  clear hkk hkk' hn
  obtain ⟨s, hs⟩ : ∃ s, NM.smallN (k / 480) = s := ⟨_, rfl⟩
  rw [hs] at HS ⊢
  clear hs
  go_enter Try.func69, Try.ntmps69
  go_wp2_with (first
    | (go_at_call 35; (with_reducible refine (HA.out _).mono ?_); rintro e w1 ⟨rfl, rfl⟩)
    | (go_at_call 68; (with_reducible refine (HS.out _).mono ?_); rintro e w2 ⟨rfl, rfl⟩))
  exact bodyPost_ret (v := .agg #[.int .i64 (k % 12), .int .i64 (k / 12 % 40), .int .i64 s]) (by simp [results, Try.results69, go_sem]) rfl ⟨rfl, one_box _ _⟩
theorem cell_set {V : World} {g j : Nat} {C : Array Value} {t : TypeId} {u : Value} (h : V.heap[g]? = some (.cells C t (0, 0))) : (V.setCell ⟨g, j, none⟩ u).heap[g]? = some (.cells (C.setIfInBounds j u) t (0, 0)) := by
  simp only [World.setCell, Array.getElem?_modify]
  simp [h]
theorem other_set {V : World} {g b j : Nat} {u : Value} (h : ¬ g = b) : (V.setCell ⟨g, j, none⟩ u).heap[b]? = V.heap[b]? := by
  simp only [World.setCell, Array.getElem?_modify]
  rw [if_neg h]
theorem setMsg {V : World} {g : Nat} {t : TypeId} {x0 x1 x2 x3 x4 x5 x6 x7 : Value} (h : V.heap[g]? = some (.cells #[x0, x1, x2, x3, x4, x5, x6, x7] t (0, 0))) (n3 n4 n5 n6 n7 : Int) :
    (((((V.setCell ⟨g, 3, none⟩ (.int .i64 n3)).setCell ⟨g, 4, none⟩ (.int .i64 n4)).setCell ⟨g, 5, none⟩ (.int .i64 n5)).setCell ⟨g, 6, none⟩ (.int .i64 n6)).setCell ⟨g, 7, none⟩ (.int .i64 n7)).heap[g]? = some (.cells #[x0, x1, x2, .int .i64 n3, .int .i64 n4, .int .i64 n5, .int .i64 n6, .int .i64 n7] t (0, 0)) ∧ Below g V (((((V.setCell ⟨g, 3, none⟩ (.int .i64 n3)).setCell ⟨g, 4, none⟩ (.int .i64 n4)).setCell ⟨g, 5, none⟩ (.int .i64 n5)).setCell ⟨g, 6, none⟩ (.int .i64 n6)).setCell ⟨g, 7, none⟩ (.int .i64 n7)) ∧ ∀ b, b ≠ g → (((((V.setCell ⟨g, 3, none⟩ (.int .i64 n3)).setCell ⟨g, 4, none⟩ (.int .i64 n4)).setCell ⟨g, 5, none⟩ (.int .i64 n5)).setCell ⟨g, 6, none⟩ (.int .i64 n6)).setCell ⟨g, 7, none⟩ (.int .i64 n7)).heap[b]? = V.heap[b]? := by
  refine ⟨cell_set (cell_set (cell_set (cell_set (cell_set h)))), (((((Below.refl g V).setCell (Nat.le_refl _) _).setCell (Nat.le_refl _) _).setCell (Nat.le_refl _) _).setCell (Nat.le_refl _) _).setCell (Nat.le_refl _) _, fun b hb => ?_⟩
  have hgb : ¬ g = b := fun e => hb e.symm
  rw [other_set hgb, other_set hgb, other_set hgb, other_set hgb, other_set hgb]
end Go.Proofs.Ytpjjckfgnflmlaa
