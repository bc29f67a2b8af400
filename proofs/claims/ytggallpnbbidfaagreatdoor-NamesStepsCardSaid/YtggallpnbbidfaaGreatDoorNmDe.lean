/-
  The comparison of events. No condition.
-/
import Derived.Test.YtggallpnbbidfaaGreatDoorNmD
namespace Go.Proofs.YtggallpnbbidfaaGreatDoor
open Go Go.RowKit Go.Proofs
attribute [local go_sem] Oper.semAt_some

theorem new_drew {V : World} {o : Obj} {g : Nat} (hg : g = V.heap.size) : ((V.alloc o).drew).heap[g]? = some o := new_at hg
set_option maxHeartbeats 4000000 in
set_option maxRecDepth 100000 in
theorem cmpEv_any (a b : NM.Ev) (w : World) : Calls Tryz.prog 22 #[evV a, evV b] w fun e w' => e = .returned (.int .i64 (NM.lexL (NM.evL a) (NM.evL b))) ∧ Below w.heap.size w w' := by
  obtain ⟨k, n, a, c, h, t, i, p⟩ := a
  obtain ⟨k', n', a', c', h', t', i', p'⟩ := b
  have e : NM.lexL (NM.evL ⟨k, n, a, ⟨c, h, t, i, p⟩⟩) (NM.evL ⟨k', n', a', ⟨c', h', t', i', p'⟩⟩) = NM.orI (NM.lexL [k, n, a] [k', n', a']) (NM.lexL (NM.msL ⟨c, h, t, i, p⟩) (NM.msL ⟨c', h', t', i', p'⟩)) := NM.lexL_append [k, n, a] [k', n', a'] _ _ rfl
  have HC := Lib.hid (show ∀ V, Calls Tryz.prog 48 #[.agg #[.int .i64 c, .int .i64 h, .int .i64 t, .int .i64 i, .int .i64 p], .agg #[.int .i64 c', .int .i64 h', .int .i64 t', .int .i64 i', .int .i64 p']] V fun e w' => e = .returned (.int .i64 (NM.lexL (NM.msL ⟨c, h, t, i, p⟩) (NM.msL ⟨c', h', t', i', p'⟩))) ∧ Below V.heap.size V w' from fun V => cmpMsg_any ⟨c, h, t, i, p⟩ ⟨c', h', t', i', p'⟩ V)
  obtain ⟨y, hy⟩ : ∃ y, NM.lexL (NM.msL ⟨c, h, t, i, p⟩) (NM.msL ⟨c', h', t', i', p'⟩) = y := ⟨_, rfl⟩
  obtain ⟨x, hx⟩ : ∃ x, NM.lexL [k, n, a] [k', n', a'] = x := ⟨_, rfl⟩
  rw [hy] at HC e
  rw [hx] at e
  have HY := Lib.hid hx
  have HR := Lib.hid e
  clear hx hy e
  obtain ⟨U, hU, hb, k1, k2, hlt⟩ := two_boxes w (.cells #[.int .i64 k, .int .i64 n, .int .i64 a, .int .i64 c, .int .i64 h, .int .i64 t, .int .i64 i, .int .i64 p] 28) (.cells #[.int .i64 k', .int .i64 n', .int .i64 a', .int .i64 c', .int .i64 h', .int .i64 t', .int .i64 i', .int .i64 p'] 28)
  have hl0 : w.heap.size < U.heap.size := by omega
  have HK := Lib.hid (show ∀ V, Below U.heap.size U V → V.cell? ⟨w.heap.size, 0, none⟩ = some (.int .i64 k) ∧ V.cell? ⟨w.heap.size, 1, none⟩ = some (.int .i64 n) ∧ V.cell? ⟨w.heap.size, 2, none⟩ = some (.int .i64 a) ∧ V.cell? ⟨w.heap.size, 3, none⟩ = some (.int .i64 c) ∧ V.cell? ⟨w.heap.size, 4, none⟩ = some (.int .i64 h) ∧ V.cell? ⟨w.heap.size, 5, none⟩ = some (.int .i64 t) ∧ V.cell? ⟨w.heap.size, 6, none⟩ = some (.int .i64 i) ∧ V.cell? ⟨w.heap.size, 7, none⟩ = some (.int .i64 p) ∧ V.cell? ⟨w.heap.size + 1, 0, none⟩ = some (.int .i64 k') ∧ V.cell? ⟨w.heap.size + 1, 1, none⟩ = some (.int .i64 n') ∧ V.cell? ⟨w.heap.size + 1, 2, none⟩ = some (.int .i64 a') ∧ V.cell? ⟨w.heap.size + 1, 3, none⟩ = some (.int .i64 c') ∧ V.cell? ⟨w.heap.size + 1, 4, none⟩ = some (.int .i64 h') ∧ V.cell? ⟨w.heap.size + 1, 5, none⟩ = some (.int .i64 t') ∧ V.cell? ⟨w.heap.size + 1, 6, none⟩ = some (.int .i64 i') ∧ V.cell? ⟨w.heap.size + 1, 7, none⟩ = some (.int .i64 p') from by
    intro V B
    obtain ⟨a0, a1, a2, a3, a4, a5, a6, a7⟩ := row8 k1
    obtain ⟨b0, b1, b2, b3, b4, b5, b6, b7⟩ := row8 k2
    exact ⟨(B.cell (p := ⟨w.heap.size, 0, none⟩) hl0).trans a0, (B.cell (p := ⟨w.heap.size, 1, none⟩) hl0).trans a1, (B.cell (p := ⟨w.heap.size, 2, none⟩) hl0).trans a2, (B.cell (p := ⟨w.heap.size, 3, none⟩) hl0).trans a3, (B.cell (p := ⟨w.heap.size, 4, none⟩) hl0).trans a4, (B.cell (p := ⟨w.heap.size, 5, none⟩) hl0).trans a5, (B.cell (p := ⟨w.heap.size, 6, none⟩) hl0).trans a6, (B.cell (p := ⟨w.heap.size, 7, none⟩) hl0).trans a7, (B.cell (p := ⟨w.heap.size + 1, 0, none⟩) hlt).trans b0, (B.cell (p := ⟨w.heap.size + 1, 1, none⟩) hlt).trans b1, (B.cell (p := ⟨w.heap.size + 1, 2, none⟩) hlt).trans b2, (B.cell (p := ⟨w.heap.size + 1, 3, none⟩) hlt).trans b3, (B.cell (p := ⟨w.heap.size + 1, 4, none⟩) hlt).trans b4, (B.cell (p := ⟨w.heap.size + 1, 5, none⟩) hlt).trans b5, (B.cell (p := ⟨w.heap.size + 1, 6, none⟩) hlt).trans b6, (B.cell (p := ⟨w.heap.size + 1, 7, none⟩) hlt).trans b7⟩)
  have HU := Lib.hid hU
  have HB := Lib.hid hb
  clear hU hb k1 k2
  have B : Below U.heap.size U U := Below.refl _ _
  go_enter Tryz.func22, Tryz.ntmps22
  go_wp2_with fail
  rw [HU.out]
  clear HU
  go_region_held3 (fun V => V.cell? ⟨w.heap.size, 0, none⟩ = some (.int .i64 k) ∧ V.cell? ⟨w.heap.size, 1, none⟩ = some (.int .i64 n) ∧ V.cell? ⟨w.heap.size, 2, none⟩ = some (.int .i64 a) ∧ V.cell? ⟨w.heap.size, 3, none⟩ = some (.int .i64 c) ∧ V.cell? ⟨w.heap.size, 4, none⟩ = some (.int .i64 h) ∧ V.cell? ⟨w.heap.size, 5, none⟩ = some (.int .i64 t) ∧ V.cell? ⟨w.heap.size, 6, none⟩ = some (.int .i64 i) ∧ V.cell? ⟨w.heap.size, 7, none⟩ = some (.int .i64 p) ∧ V.cell? ⟨w.heap.size + 1, 0, none⟩ = some (.int .i64 k') ∧ V.cell? ⟨w.heap.size + 1, 1, none⟩ = some (.int .i64 n') ∧ V.cell? ⟨w.heap.size + 1, 2, none⟩ = some (.int .i64 a') ∧ V.cell? ⟨w.heap.size + 1, 3, none⟩ = some (.int .i64 c') ∧ V.cell? ⟨w.heap.size + 1, 4, none⟩ = some (.int .i64 h') ∧ V.cell? ⟨w.heap.size + 1, 5, none⟩ = some (.int .i64 t') ∧ V.cell? ⟨w.heap.size + 1, 6, none⟩ = some (.int .i64 i') ∧ V.cell? ⟨w.heap.size + 1, 7, none⟩ = some (.int .i64 p'))
    (first | exact HK.out _ B | exact HK.out _ (B.alloc B.size _) | exact HK.out _ B.drew | exact HK.out _ (B.drew.alloc B.size _))
    (first
      | (go_at_call 48; ((with_reducible refine (HC.out _).mono ?_); rintro e w5 ⟨rfl, hb⟩); (first | have B := B.trans (hb.mono B.size) | have B := B.drew.trans (hb.mono B.size)); clear hb)
      | (go_at_call 47; (first | ((first | refine (numbers_three (new_at (by simp))).mono ?_ | refine (numbers_three (new_drew (by simp))).mono ?_); rintro e w5 ⟨rfl, hb⟩; rw [HY.out]; (first | (have B := (B.alloc B.size _).trans (hb.mono (by have := B.size; simp; try omega))) | (have B := (B.drew.alloc B.size _).trans (hb.mono (by have := B.size; simp; try omega))) | (have B := (B.alloc B.size _).drew.trans (hb.mono (by have := B.size; simp; try omega)))); clear hb) | (refine (numbers_three K1.out).mono ?_; rintro e w5 ⟨rfl, hb⟩; rw [HY.out]; have B := B.trans (hb.mono B.size); clear hb)))
      | (go_at_call 21; ((first | refine (or_below (new_at (by simp))).mono ?_ | refine (or_below (new_drew (by simp))).mono ?_); rintro e w5 ⟨rfl, hb⟩); (first | (have B := (B.alloc B.size _).trans (hb.mono (by have := B.size; simp; try omega))) | (have B := (B.drew.alloc B.size _).trans (hb.mono (by have := B.size; simp; try omega))) | (have B := (B.alloc B.size _).drew.trans (hb.mono (by have := B.size; simp; try omega)))); clear hb))
  all_goals
    go_wp2_with fail
    go_ret
    exact ⟨by rw [HR.out]; rfl, HB.out.trans (B.mono HB.out.size)⟩
end Go.Proofs.YtggallpnbbidfaaGreatDoor
