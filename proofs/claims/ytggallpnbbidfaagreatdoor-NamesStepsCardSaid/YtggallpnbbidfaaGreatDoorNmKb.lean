/-
  The reference's generators of events and questions: events with a message. Condition: the numbers are Go's.
-/
import Derived.Test.YtggallpnbbidfaaGreatDoorNmK
import Derived.Deep.DeepCutAuto
namespace Go.Proofs.YtggallpnbbidfaaGreatDoor
open Go Go.RowKit Go.Proofs
attribute [local go_sem] Oper.semAt_some

set_option maxHeartbeats 1000000 in
set_option maxRecDepth 100000 in
theorem eventOf_3 (n m k c h t i p : Int) (k0 : 0 ≤ k) (k1 : k < 1000000000) (hkd : k % 7 = 2) (w : World)
    (HA : Hid (∀ V, Calls Tryz.prog 7 #[.int .i64 n, .int .i64 1000000000] V fun e w' => e = .returned (.int .i64 k) ∧ V = w'))
    (HC : Hid (∀ V, Calls Tryz.prog 28 #[.int .i64 m] V fun e w' => e = .returned (.agg #[.int .i64 c, .int .i64 h, .int .i64 t]) ∧ Below V.heap.size V w'))
    (H1 : Hid (∀ V, Calls Tryz.prog 27 #[.int .i64 (k / 84)] V fun e w' => e = .returned (.int .i64 i) ∧ V = w'))
    (H2 : Hid (∀ V, Calls Tryz.prog 27 #[.int .i64 (k / 336)] V fun e w' => e = .returned (.int .i64 p) ∧ V = w')) :
    Calls Tryz.prog 11 #[.int .i64 n, .int .i64 m] w fun e w' => e = .returned (.agg #[.int .i64 3, .int .i64 (k / 7 % 12), .int .i64 0, .int .i64 c, .int .i64 h, .int .i64 t, .int .i64 i, .int .i64 p]) ∧ Below w.heap.size w w' := by
  obtain ⟨U, hU, hb, k1_, k2_, hlt⟩ := two_boxes w (.cells #[.int .i64 0, .int .i64 0, .int .i64 0, .int .i64 0, .int .i64 0, .int .i64 0, .int .i64 0, .int .i64 0] 28) (.cells #[.int .i64 3, .int .i64 (k / 7 % 12), .int .i64 0, .int .i64 0, .int .i64 0, .int .i64 0, .int .i64 0, .int .i64 0] 28)
  have HU := Lib.hid hU
  have HB := Lib.hid hb
  have HK1 := Lib.hid k1_
  have HK2 := Lib.hid k2_
  clear hb k1_ k2_ hU
  go_enter Tryz.func11, Tryz.ntmps11
  go_wp2_with (first
    | (go_at_call 7; (with_reducible refine (HA.out _).mono ?_); rintro e w1 ⟨rfl, rfl⟩))
  rw [HU.out]
  clear HU
  refine (HC.out _).mono ?_
  rintro e w5 ⟨rfl, hb5⟩
  have r5 := (hb5.block _ (heap_lt HK1.out)).trans HK1.out
  have ee := (hb5.block _ (heap_lt HK2.out)).trans HK2.out
  obtain ⟨e0, e1, e2, e3, e4, e5, e6, e7⟩ := row8 ee
  have g3 := froz ee 3
  have g4 := froz ee 4
  have g5 := froz ee 5
  have g6 := froz ee 6
  have g7 := froz ee 7
  obtain ⟨sM, bM, oM⟩ := setMsg ee c h t i p
  have rM := (oM w.heap.size (by omega)).trans r5
  obtain ⟨M, hM⟩ : ∃ M, (((((w5.setCell ⟨w.heap.size + 1, 3, none⟩ (.int .i64 c)).setCell ⟨w.heap.size + 1, 4, none⟩ (.int .i64 h)).setCell ⟨w.heap.size + 1, 5, none⟩ (.int .i64 t)).setCell ⟨w.heap.size + 1, 6, none⟩ (.int .i64 i)).setCell ⟨w.heap.size + 1, 7, none⟩ (.int .i64 p)) = M := ⟨_, rfl⟩
  rw [hM] at sM bM rM
  obtain ⟨q0, q1, q2, q3, q4, q5, q6, q7⟩ := row8 rM
  obtain ⟨m0, m1, m2, m3, m4, m5, m6, m7⟩ := row8 sM
  have f0 := froz rM 0
  have f1 := froz rM 1
  have f2 := froz rM 2
  have f3 := froz rM 3
  have f4 := froz rM 4
  have f5 := froz rM 5
  have f6 := froz rM 6
  have f7 := froz rM 7
  obtain ⟨s8, b8⟩ := set8 rM 3 (k / 7 % 12) 0 c h t i p
  have HB8 := Lib.hid (HB.out.trans ((hb5.mono (by omega)).trans ((bM.mono (by omega)).trans b8)))
  have HS8 := Lib.hid s8
  clear hb5 r5 ee sM bM oM rM s8 b8 HK1 HK2
  go_wp2_with (first
    | (go_at_call 27; (with_reducible refine (H1.out _).mono ?_); rintro e w2 ⟨rfl, rfl⟩)
    | (go_at_call 27; (with_reducible refine (H2.out _).mono ?_); rintro e w2 ⟨rfl, rfl⟩))
  clear q0 q1 q2 q3 q4 q5 q6 q7 e0 e1 e2 e3 e4 e5 e6 e7 m0 m1 m2 m3 m4 m5 m6 m7 f0 f1 f2 f3 f4 f5 f6 f7 g3 g4 g5 g6 g7 hM
  obtain ⟨q0, q1, q2, q3, q4, q5, q6, q7⟩ := row8 HS8.out
  obtain ⟨V8, hV8⟩ : ∃ V, ((((((((M.setCell ⟨w.heap.size, 0, none⟩ (.int .i64 3)).setCell ⟨w.heap.size, 1, none⟩ (.int .i64 (k / 7 % 12))).setCell ⟨w.heap.size, 2, none⟩ (.int .i64 0)).setCell ⟨w.heap.size, 3, none⟩ (.int .i64 c)).setCell ⟨w.heap.size, 4, none⟩ (.int .i64 h)).setCell ⟨w.heap.size, 5, none⟩ (.int .i64 t)).setCell ⟨w.heap.size, 6, none⟩ (.int .i64 i)).setCell ⟨w.heap.size, 7, none⟩ (.int .i64 p)) = V := ⟨_, rfl⟩
  rw [hV8] at HB8 q0 q1 q2 q3 q4 q5 q6 q7 ⊢
  exact bodyPost_ret (v := .agg #[.int .i64 3, .int .i64 (k / 7 % 12), .int .i64 0, .int .i64 c, .int .i64 h, .int .i64 t, .int .i64 i, .int .i64 p]) (by simp [results, Tryz.results11, go_sem, *]) rfl ⟨rfl, HB8.out⟩
set_option maxHeartbeats 1000000 in
set_option maxRecDepth 100000 in
theorem eventOf_5 (n m k c h t i p : Int) (k0 : 0 ≤ k) (k1 : k < 1000000000) (hkd : k % 7 = 4) (w : World)
    (HA : Hid (∀ V, Calls Tryz.prog 7 #[.int .i64 n, .int .i64 1000000000] V fun e w' => e = .returned (.int .i64 k) ∧ V = w'))
    (HC : Hid (∀ V, Calls Tryz.prog 28 #[.int .i64 m] V fun e w' => e = .returned (.agg #[.int .i64 c, .int .i64 h, .int .i64 t]) ∧ Below V.heap.size V w'))
    (H1 : Hid (∀ V, Calls Tryz.prog 27 #[.int .i64 (k / 84)] V fun e w' => e = .returned (.int .i64 i) ∧ V = w'))
    (H2 : Hid (∀ V, Calls Tryz.prog 27 #[.int .i64 (k / 336)] V fun e w' => e = .returned (.int .i64 p) ∧ V = w')) :
    Calls Tryz.prog 11 #[.int .i64 n, .int .i64 m] w fun e w' => e = .returned (.agg #[.int .i64 5, .int .i64 (k / 7 % 12), .int .i64 0, .int .i64 c, .int .i64 h, .int .i64 t, .int .i64 i, .int .i64 p]) ∧ Below w.heap.size w w' := by
  obtain ⟨U, hU, hb, k1_, k2_, hlt⟩ := two_boxes w (.cells #[.int .i64 0, .int .i64 0, .int .i64 0, .int .i64 0, .int .i64 0, .int .i64 0, .int .i64 0, .int .i64 0] 28) (.cells #[.int .i64 5, .int .i64 (k / 7 % 12), .int .i64 0, .int .i64 0, .int .i64 0, .int .i64 0, .int .i64 0, .int .i64 0] 28)
  have HU := Lib.hid hU
  have HB := Lib.hid hb
  have HK1 := Lib.hid k1_
  have HK2 := Lib.hid k2_
  clear hb k1_ k2_ hU
  go_enter Tryz.func11, Tryz.ntmps11
  go_wp2_with (first
    | (go_at_call 7; (with_reducible refine (HA.out _).mono ?_); rintro e w1 ⟨rfl, rfl⟩))
  rw [HU.out]
  clear HU
  refine (HC.out _).mono ?_
  rintro e w5 ⟨rfl, hb5⟩
  have r5 := (hb5.block _ (heap_lt HK1.out)).trans HK1.out
  have ee := (hb5.block _ (heap_lt HK2.out)).trans HK2.out
  obtain ⟨e0, e1, e2, e3, e4, e5, e6, e7⟩ := row8 ee
  have g3 := froz ee 3
  have g4 := froz ee 4
  have g5 := froz ee 5
  have g6 := froz ee 6
  have g7 := froz ee 7
  obtain ⟨sM, bM, oM⟩ := setMsg ee c h t i p
  have rM := (oM w.heap.size (by omega)).trans r5
  obtain ⟨M, hM⟩ : ∃ M, (((((w5.setCell ⟨w.heap.size + 1, 3, none⟩ (.int .i64 c)).setCell ⟨w.heap.size + 1, 4, none⟩ (.int .i64 h)).setCell ⟨w.heap.size + 1, 5, none⟩ (.int .i64 t)).setCell ⟨w.heap.size + 1, 6, none⟩ (.int .i64 i)).setCell ⟨w.heap.size + 1, 7, none⟩ (.int .i64 p)) = M := ⟨_, rfl⟩
  rw [hM] at sM bM rM
  obtain ⟨q0, q1, q2, q3, q4, q5, q6, q7⟩ := row8 rM
  obtain ⟨m0, m1, m2, m3, m4, m5, m6, m7⟩ := row8 sM
  have f0 := froz rM 0
  have f1 := froz rM 1
  have f2 := froz rM 2
  have f3 := froz rM 3
  have f4 := froz rM 4
  have f5 := froz rM 5
  have f6 := froz rM 6
  have f7 := froz rM 7
  obtain ⟨s8, b8⟩ := set8 rM 5 (k / 7 % 12) 0 c h t i p
  have HB8 := Lib.hid (HB.out.trans ((hb5.mono (by omega)).trans ((bM.mono (by omega)).trans b8)))
  have HS8 := Lib.hid s8
  clear hb5 r5 ee sM bM oM rM s8 b8 HK1 HK2
  go_wp2_with (first
    | (go_at_call 27; (with_reducible refine (H1.out _).mono ?_); rintro e w2 ⟨rfl, rfl⟩)
    | (go_at_call 27; (with_reducible refine (H2.out _).mono ?_); rintro e w2 ⟨rfl, rfl⟩))
  clear q0 q1 q2 q3 q4 q5 q6 q7 e0 e1 e2 e3 e4 e5 e6 e7 m0 m1 m2 m3 m4 m5 m6 m7 f0 f1 f2 f3 f4 f5 f6 f7 g3 g4 g5 g6 g7 hM
  obtain ⟨q0, q1, q2, q3, q4, q5, q6, q7⟩ := row8 HS8.out
  obtain ⟨V8, hV8⟩ : ∃ V, ((((((((M.setCell ⟨w.heap.size, 0, none⟩ (.int .i64 5)).setCell ⟨w.heap.size, 1, none⟩ (.int .i64 (k / 7 % 12))).setCell ⟨w.heap.size, 2, none⟩ (.int .i64 0)).setCell ⟨w.heap.size, 3, none⟩ (.int .i64 c)).setCell ⟨w.heap.size, 4, none⟩ (.int .i64 h)).setCell ⟨w.heap.size, 5, none⟩ (.int .i64 t)).setCell ⟨w.heap.size, 6, none⟩ (.int .i64 i)).setCell ⟨w.heap.size, 7, none⟩ (.int .i64 p)) = V := ⟨_, rfl⟩
  rw [hV8] at HB8 q0 q1 q2 q3 q4 q5 q6 q7 ⊢
  exact bodyPost_ret (v := .agg #[.int .i64 5, .int .i64 (k / 7 % 12), .int .i64 0, .int .i64 c, .int .i64 h, .int .i64 t, .int .i64 i, .int .i64 p]) (by simp [results, Tryz.results11, go_sem, *]) rfl ⟨rfl, HB8.out⟩
set_option maxHeartbeats 1000000 in
set_option maxRecDepth 100000 in
theorem eventOf_6 (n m k c h t i p : Int) (k0 : 0 ≤ k) (k1 : k < 1000000000) (hkd : k % 7 = 5) (w : World)
    (HA : Hid (∀ V, Calls Tryz.prog 7 #[.int .i64 n, .int .i64 1000000000] V fun e w' => e = .returned (.int .i64 k) ∧ V = w'))
    (HC : Hid (∀ V, Calls Tryz.prog 28 #[.int .i64 m] V fun e w' => e = .returned (.agg #[.int .i64 c, .int .i64 h, .int .i64 t]) ∧ Below V.heap.size V w'))
    (H1 : Hid (∀ V, Calls Tryz.prog 27 #[.int .i64 (k / 84)] V fun e w' => e = .returned (.int .i64 i) ∧ V = w'))
    (H2 : Hid (∀ V, Calls Tryz.prog 27 #[.int .i64 (k / 336)] V fun e w' => e = .returned (.int .i64 p) ∧ V = w')) :
    Calls Tryz.prog 11 #[.int .i64 n, .int .i64 m] w fun e w' => e = .returned (.agg #[.int .i64 6, .int .i64 (k / 7 % 12), .int .i64 0, .int .i64 c, .int .i64 h, .int .i64 t, .int .i64 i, .int .i64 p]) ∧ Below w.heap.size w w' := by
  obtain ⟨U, hU, hb, k1_, k2_, hlt⟩ := two_boxes w (.cells #[.int .i64 0, .int .i64 0, .int .i64 0, .int .i64 0, .int .i64 0, .int .i64 0, .int .i64 0, .int .i64 0] 28) (.cells #[.int .i64 6, .int .i64 (k / 7 % 12), .int .i64 0, .int .i64 0, .int .i64 0, .int .i64 0, .int .i64 0, .int .i64 0] 28)
  have HU := Lib.hid hU
  have HB := Lib.hid hb
  have HK1 := Lib.hid k1_
  have HK2 := Lib.hid k2_
  clear hb k1_ k2_ hU
  go_enter Tryz.func11, Tryz.ntmps11
  go_wp2_with (first
    | (go_at_call 7; (with_reducible refine (HA.out _).mono ?_); rintro e w1 ⟨rfl, rfl⟩))
  rw [HU.out]
  clear HU
  refine (HC.out _).mono ?_
  rintro e w5 ⟨rfl, hb5⟩
  have r5 := (hb5.block _ (heap_lt HK1.out)).trans HK1.out
  have ee := (hb5.block _ (heap_lt HK2.out)).trans HK2.out
  obtain ⟨e0, e1, e2, e3, e4, e5, e6, e7⟩ := row8 ee
  have g3 := froz ee 3
  have g4 := froz ee 4
  have g5 := froz ee 5
  have g6 := froz ee 6
  have g7 := froz ee 7
  obtain ⟨sM, bM, oM⟩ := setMsg ee c h t i p
  have rM := (oM w.heap.size (by omega)).trans r5
  obtain ⟨M, hM⟩ : ∃ M, (((((w5.setCell ⟨w.heap.size + 1, 3, none⟩ (.int .i64 c)).setCell ⟨w.heap.size + 1, 4, none⟩ (.int .i64 h)).setCell ⟨w.heap.size + 1, 5, none⟩ (.int .i64 t)).setCell ⟨w.heap.size + 1, 6, none⟩ (.int .i64 i)).setCell ⟨w.heap.size + 1, 7, none⟩ (.int .i64 p)) = M := ⟨_, rfl⟩
  rw [hM] at sM bM rM
  obtain ⟨q0, q1, q2, q3, q4, q5, q6, q7⟩ := row8 rM
  obtain ⟨m0, m1, m2, m3, m4, m5, m6, m7⟩ := row8 sM
  have f0 := froz rM 0
  have f1 := froz rM 1
  have f2 := froz rM 2
  have f3 := froz rM 3
  have f4 := froz rM 4
  have f5 := froz rM 5
  have f6 := froz rM 6
  have f7 := froz rM 7
  obtain ⟨s8, b8⟩ := set8 rM 6 (k / 7 % 12) 0 c h t i p
  have HB8 := Lib.hid (HB.out.trans ((hb5.mono (by omega)).trans ((bM.mono (by omega)).trans b8)))
  have HS8 := Lib.hid s8
  clear hb5 r5 ee sM bM oM rM s8 b8 HK1 HK2
  go_wp2_with (first
    | (go_at_call 27; (with_reducible refine (H1.out _).mono ?_); rintro e w2 ⟨rfl, rfl⟩)
    | (go_at_call 27; (with_reducible refine (H2.out _).mono ?_); rintro e w2 ⟨rfl, rfl⟩))
  clear q0 q1 q2 q3 q4 q5 q6 q7 e0 e1 e2 e3 e4 e5 e6 e7 m0 m1 m2 m3 m4 m5 m6 m7 f0 f1 f2 f3 f4 f5 f6 f7 g3 g4 g5 g6 g7 hM
  obtain ⟨q0, q1, q2, q3, q4, q5, q6, q7⟩ := row8 HS8.out
  obtain ⟨V8, hV8⟩ : ∃ V, ((((((((M.setCell ⟨w.heap.size, 0, none⟩ (.int .i64 6)).setCell ⟨w.heap.size, 1, none⟩ (.int .i64 (k / 7 % 12))).setCell ⟨w.heap.size, 2, none⟩ (.int .i64 0)).setCell ⟨w.heap.size, 3, none⟩ (.int .i64 c)).setCell ⟨w.heap.size, 4, none⟩ (.int .i64 h)).setCell ⟨w.heap.size, 5, none⟩ (.int .i64 t)).setCell ⟨w.heap.size, 6, none⟩ (.int .i64 i)).setCell ⟨w.heap.size, 7, none⟩ (.int .i64 p)) = V := ⟨_, rfl⟩
  rw [hV8] at HB8 q0 q1 q2 q3 q4 q5 q6 q7 ⊢
  exact bodyPost_ret (v := .agg #[.int .i64 6, .int .i64 (k / 7 % 12), .int .i64 0, .int .i64 c, .int .i64 h, .int .i64 t, .int .i64 i, .int .i64 p]) (by simp [results, Tryz.results11, go_sem, *]) rfl ⟨rfl, HB8.out⟩
end Go.Proofs.YtggallpnbbidfaaGreatDoor
