/-
  The reference's generators of events and questions: events with an argument, or none. Condition: the numbers are Go's.
  The reference's generators of events and questions: events with a message. Condition: the numbers are Go's.
  The reference's generators of events and questions: events together. Condition: the numbers are Go's.
-/
import Derived.Test.YtiokiecnglmbnaaK8
import Derived.Deep.DeepCutAuto

namespace Go.Proofs.Ytiokiecnglmbnaa
open Go Go.RowKit Go.Proofs
attribute [local go_sem] Oper.semAt_some

set_option maxHeartbeats 1000000 in
set_option maxRecDepth 100000 in
theorem eventOf_1 (n m k s : Int) (k0 : 0 ≤ k) (k1 : k < 1000000000) (hkd : k % 7 = 0) (w : World)
    (HA : Hid (∀ V, Calls Try.prog 35 #[.int .i64 n, .int .i64 1000000000] V fun e w' => e = .returned (.int .i64 k) ∧ V = w'))
    (HS : Hid (∀ V, Calls Try.prog 68 #[.int .i64 m] V fun e w' => e = .returned (.int .i64 s) ∧ V = w')) :
    Calls Try.prog 43 #[.int .i64 n, .int .i64 m] w fun e w' => e = .returned (.agg #[.int .i64 1, .int .i64 (k / 7 % 12), .int .i64 s, .int .i64 0, .int .i64 0, .int .i64 0, .int .i64 0, .int .i64 0]) ∧ Below w.heap.size w w' := by
  obtain ⟨U, hU, hb, k1_, k2_, hlt⟩ := two_boxes w (.cells #[.int .i64 0, .int .i64 0, .int .i64 0, .int .i64 0, .int .i64 0, .int .i64 0, .int .i64 0, .int .i64 0] 47) (.cells #[.int .i64 1, .int .i64 (k / 7 % 12), .int .i64 s, .int .i64 0, .int .i64 0, .int .i64 0, .int .i64 0, .int .i64 0] 47)
  obtain ⟨q0, q1, q2, q3, q4, q5, q6, q7⟩ := row8K k1_
  obtain ⟨e0, e1, e2, e3, e4, e5, e6, e7⟩ := row8K k2_
  have f0 := frozK k1_ 0
  have f1 := frozK k1_ 1
  have f2 := frozK k1_ 2
  have f3 := frozK k1_ 3
  have f4 := frozK k1_ 4
  have f5 := frozK k1_ 5
  have f6 := frozK k1_ 6
  have f7 := frozK k1_ 7
  obtain ⟨s8, b8⟩ := set8K k1_ 1 (k / 7 % 12) s 0 0 0 0 0
  have HB8 := Lib.hid (hb.trans b8)
  have HS8 := Lib.hid s8
  clear hb k1_ k2_ s8 b8
  go_enter Try.func43, Try.ntmps43
  go_wp2_with (first
    | (go_at_call 35; (with_reducible refine (HA.out _).mono ?_); rintro e w1 ⟨rfl, rfl⟩)
    | (go_at_call 68; (with_reducible refine (HS.out _).mono ?_); rintro e w2 ⟨rfl, rfl⟩))
  clear q0 q1 q2 q3 q4 q5 q6 q7 e0 e1 e2 e3 e4 e5 e6 e7 f0 f1 f2 f3 f4 f5 f6 f7 hU
  obtain ⟨q0, q1, q2, q3, q4, q5, q6, q7⟩ := row8K HS8.out
  obtain ⟨V8, hV8⟩ : ∃ V, ((((((((U.setCell ⟨w.heap.size, 0, none⟩ (.int .i64 1)).setCell ⟨w.heap.size, 1, none⟩ (.int .i64 (k / 7 % 12))).setCell ⟨w.heap.size, 2, none⟩ (.int .i64 s)).setCell ⟨w.heap.size, 3, none⟩ (.int .i64 0)).setCell ⟨w.heap.size, 4, none⟩ (.int .i64 0)).setCell ⟨w.heap.size, 5, none⟩ (.int .i64 0)).setCell ⟨w.heap.size, 6, none⟩ (.int .i64 0)).setCell ⟨w.heap.size, 7, none⟩ (.int .i64 0)) = V := ⟨_, rfl⟩
  rw [hV8] at HB8 q0 q1 q2 q3 q4 q5 q6 q7 ⊢
  exact bodyPost_ret (v := .agg #[.int .i64 1, .int .i64 (k / 7 % 12), .int .i64 s, .int .i64 0, .int .i64 0, .int .i64 0, .int .i64 0, .int .i64 0]) (by simp [results, Try.results43, go_sem, *]) rfl ⟨rfl, HB8.out⟩
set_option maxHeartbeats 1000000 in
set_option maxRecDepth 100000 in
theorem eventOf_2 (n m k s : Int) (k0 : 0 ≤ k) (k1 : k < 1000000000) (hkd : k % 7 = 1) (w : World)
    (HA : Hid (∀ V, Calls Try.prog 35 #[.int .i64 n, .int .i64 1000000000] V fun e w' => e = .returned (.int .i64 k) ∧ V = w'))
    (HS : Hid (∀ V, Calls Try.prog 68 #[.int .i64 m] V fun e w' => e = .returned (.int .i64 s) ∧ V = w')) :
    Calls Try.prog 43 #[.int .i64 n, .int .i64 m] w fun e w' => e = .returned (.agg #[.int .i64 2, .int .i64 (k / 7 % 12), .int .i64 s, .int .i64 0, .int .i64 0, .int .i64 0, .int .i64 0, .int .i64 0]) ∧ Below w.heap.size w w' := by
  obtain ⟨U, hU, hb, k1_, k2_, hlt⟩ := two_boxes w (.cells #[.int .i64 0, .int .i64 0, .int .i64 0, .int .i64 0, .int .i64 0, .int .i64 0, .int .i64 0, .int .i64 0] 47) (.cells #[.int .i64 2, .int .i64 (k / 7 % 12), .int .i64 s, .int .i64 0, .int .i64 0, .int .i64 0, .int .i64 0, .int .i64 0] 47)
  obtain ⟨q0, q1, q2, q3, q4, q5, q6, q7⟩ := row8K k1_
  obtain ⟨e0, e1, e2, e3, e4, e5, e6, e7⟩ := row8K k2_
  have f0 := frozK k1_ 0
  have f1 := frozK k1_ 1
  have f2 := frozK k1_ 2
  have f3 := frozK k1_ 3
  have f4 := frozK k1_ 4
  have f5 := frozK k1_ 5
  have f6 := frozK k1_ 6
  have f7 := frozK k1_ 7
  obtain ⟨s8, b8⟩ := set8K k1_ 2 (k / 7 % 12) s 0 0 0 0 0
  have HB8 := Lib.hid (hb.trans b8)
  have HS8 := Lib.hid s8
  clear hb k1_ k2_ s8 b8
  go_enter Try.func43, Try.ntmps43
  go_wp2_with (first
    | (go_at_call 35; (with_reducible refine (HA.out _).mono ?_); rintro e w1 ⟨rfl, rfl⟩)
    | (go_at_call 68; (with_reducible refine (HS.out _).mono ?_); rintro e w2 ⟨rfl, rfl⟩))
  clear q0 q1 q2 q3 q4 q5 q6 q7 e0 e1 e2 e3 e4 e5 e6 e7 f0 f1 f2 f3 f4 f5 f6 f7 hU
  obtain ⟨q0, q1, q2, q3, q4, q5, q6, q7⟩ := row8K HS8.out
  obtain ⟨V8, hV8⟩ : ∃ V, ((((((((U.setCell ⟨w.heap.size, 0, none⟩ (.int .i64 2)).setCell ⟨w.heap.size, 1, none⟩ (.int .i64 (k / 7 % 12))).setCell ⟨w.heap.size, 2, none⟩ (.int .i64 s)).setCell ⟨w.heap.size, 3, none⟩ (.int .i64 0)).setCell ⟨w.heap.size, 4, none⟩ (.int .i64 0)).setCell ⟨w.heap.size, 5, none⟩ (.int .i64 0)).setCell ⟨w.heap.size, 6, none⟩ (.int .i64 0)).setCell ⟨w.heap.size, 7, none⟩ (.int .i64 0)) = V := ⟨_, rfl⟩
  rw [hV8] at HB8 q0 q1 q2 q3 q4 q5 q6 q7 ⊢
  exact bodyPost_ret (v := .agg #[.int .i64 2, .int .i64 (k / 7 % 12), .int .i64 s, .int .i64 0, .int .i64 0, .int .i64 0, .int .i64 0, .int .i64 0]) (by simp [results, Try.results43, go_sem, *]) rfl ⟨rfl, HB8.out⟩
set_option maxHeartbeats 1000000 in
set_option maxRecDepth 100000 in
theorem eventOf_4 (n m k s : Int) (k0 : 0 ≤ k) (k1 : k < 1000000000) (hkd : k % 7 = 3) (w : World)
    (HA : Hid (∀ V, Calls Try.prog 35 #[.int .i64 n, .int .i64 1000000000] V fun e w' => e = .returned (.int .i64 k) ∧ V = w'))
    (HS : Hid (∀ V, Calls Try.prog 68 #[.int .i64 m] V fun e w' => e = .returned (.int .i64 s) ∧ V = w')) :
    Calls Try.prog 43 #[.int .i64 n, .int .i64 m] w fun e w' => e = .returned (.agg #[.int .i64 4, .int .i64 (k / 7 % 12), .int .i64 s, .int .i64 0, .int .i64 0, .int .i64 0, .int .i64 0, .int .i64 0]) ∧ Below w.heap.size w w' := by
  obtain ⟨U, hU, hb, k1_, k2_, hlt⟩ := two_boxes w (.cells #[.int .i64 0, .int .i64 0, .int .i64 0, .int .i64 0, .int .i64 0, .int .i64 0, .int .i64 0, .int .i64 0] 47) (.cells #[.int .i64 4, .int .i64 (k / 7 % 12), .int .i64 s, .int .i64 0, .int .i64 0, .int .i64 0, .int .i64 0, .int .i64 0] 47)
  obtain ⟨q0, q1, q2, q3, q4, q5, q6, q7⟩ := row8K k1_
  obtain ⟨e0, e1, e2, e3, e4, e5, e6, e7⟩ := row8K k2_
  have f0 := frozK k1_ 0
  have f1 := frozK k1_ 1
  have f2 := frozK k1_ 2
  have f3 := frozK k1_ 3
  have f4 := frozK k1_ 4
  have f5 := frozK k1_ 5
  have f6 := frozK k1_ 6
  have f7 := frozK k1_ 7
  obtain ⟨s8, b8⟩ := set8K k1_ 4 (k / 7 % 12) s 0 0 0 0 0
  have HB8 := Lib.hid (hb.trans b8)
  have HS8 := Lib.hid s8
  clear hb k1_ k2_ s8 b8
  go_enter Try.func43, Try.ntmps43
  go_wp2_with (first
    | (go_at_call 35; (with_reducible refine (HA.out _).mono ?_); rintro e w1 ⟨rfl, rfl⟩)
    | (go_at_call 68; (with_reducible refine (HS.out _).mono ?_); rintro e w2 ⟨rfl, rfl⟩))
  clear q0 q1 q2 q3 q4 q5 q6 q7 e0 e1 e2 e3 e4 e5 e6 e7 f0 f1 f2 f3 f4 f5 f6 f7 hU
  obtain ⟨q0, q1, q2, q3, q4, q5, q6, q7⟩ := row8K HS8.out
  obtain ⟨V8, hV8⟩ : ∃ V, ((((((((U.setCell ⟨w.heap.size, 0, none⟩ (.int .i64 4)).setCell ⟨w.heap.size, 1, none⟩ (.int .i64 (k / 7 % 12))).setCell ⟨w.heap.size, 2, none⟩ (.int .i64 s)).setCell ⟨w.heap.size, 3, none⟩ (.int .i64 0)).setCell ⟨w.heap.size, 4, none⟩ (.int .i64 0)).setCell ⟨w.heap.size, 5, none⟩ (.int .i64 0)).setCell ⟨w.heap.size, 6, none⟩ (.int .i64 0)).setCell ⟨w.heap.size, 7, none⟩ (.int .i64 0)) = V := ⟨_, rfl⟩
  rw [hV8] at HB8 q0 q1 q2 q3 q4 q5 q6 q7 ⊢
  exact bodyPost_ret (v := .agg #[.int .i64 4, .int .i64 (k / 7 % 12), .int .i64 s, .int .i64 0, .int .i64 0, .int .i64 0, .int .i64 0, .int .i64 0]) (by simp [results, Try.results43, go_sem, *]) rfl ⟨rfl, HB8.out⟩
set_option maxHeartbeats 1000000 in
set_option maxRecDepth 100000 in
theorem eventOf_7 (n m k : Int) (k0 : 0 ≤ k) (k1 : k < 1000000000) (hkd : k % 7 = 6) (w : World)
    (HA : Hid (∀ V, Calls Try.prog 35 #[.int .i64 n, .int .i64 1000000000] V fun e w' => e = .returned (.int .i64 k) ∧ V = w')) :
    Calls Try.prog 43 #[.int .i64 n, .int .i64 m] w fun e w' => e = .returned (.agg #[.int .i64 7, .int .i64 (k / 7 % 12), .int .i64 0, .int .i64 0, .int .i64 0, .int .i64 0, .int .i64 0, .int .i64 0]) ∧ Below w.heap.size w w' := by
  obtain ⟨U, hU, hb, k1_, k2_, hlt⟩ := two_boxes w (.cells #[.int .i64 0, .int .i64 0, .int .i64 0, .int .i64 0, .int .i64 0, .int .i64 0, .int .i64 0, .int .i64 0] 47) (.cells #[.int .i64 7, .int .i64 (k / 7 % 12), .int .i64 0, .int .i64 0, .int .i64 0, .int .i64 0, .int .i64 0, .int .i64 0] 47)
  have HU := Lib.hid hU
  obtain ⟨s8, b8⟩ := set8K k1_ 7 (k / 7 % 12) 0 0 0 0 0 0
  have HB8 := Lib.hid (hb.trans b8)
  have HS8 := Lib.hid s8
  have HK1 := Lib.hid k1_
  have HK2 := Lib.hid k2_
  clear hb k1_ k2_ s8 b8 hU
  go_enter Try.func43, Try.ntmps43
  go_upto_region 12 with (first
    | (go_at_call 35; (with_reducible refine (HA.out _).mono ?_); rintro e w1 ⟨rfl, rfl⟩))
  rw [HU.out]
  clear HU
  obtain ⟨q0, q1, q2, q3, q4, q5, q6, q7⟩ := row8K HK1.out
  obtain ⟨e0, e1, e2, e3, e4, e5, e6, e7⟩ := row8K HK2.out
  have f0 := frozK HK1.out 0
  have f1 := frozK HK1.out 1
  have f2 := frozK HK1.out 2
  have f3 := frozK HK1.out 3
  have f4 := frozK HK1.out 4
  have f5 := frozK HK1.out 5
  have f6 := frozK HK1.out 6
  have f7 := frozK HK1.out 7
  go_wp2_with fail
  clear q0 q1 q2 q3 q4 q5 q6 q7 e0 e1 e2 e3 e4 e5 e6 e7 f0 f1 f2 f3 f4 f5 f6 f7
  obtain ⟨q0, q1, q2, q3, q4, q5, q6, q7⟩ := row8K HS8.out
  obtain ⟨V8, hV8⟩ : ∃ V, ((((((((U.setCell ⟨w.heap.size, 0, none⟩ (.int .i64 7)).setCell ⟨w.heap.size, 1, none⟩ (.int .i64 (k / 7 % 12))).setCell ⟨w.heap.size, 2, none⟩ (.int .i64 0)).setCell ⟨w.heap.size, 3, none⟩ (.int .i64 0)).setCell ⟨w.heap.size, 4, none⟩ (.int .i64 0)).setCell ⟨w.heap.size, 5, none⟩ (.int .i64 0)).setCell ⟨w.heap.size, 6, none⟩ (.int .i64 0)).setCell ⟨w.heap.size, 7, none⟩ (.int .i64 0)) = V := ⟨_, rfl⟩
  rw [hV8] at HB8 q0 q1 q2 q3 q4 q5 q6 q7 ⊢
  exact bodyPost_ret (v := .agg #[.int .i64 7, .int .i64 (k / 7 % 12), .int .i64 0, .int .i64 0, .int .i64 0, .int .i64 0, .int .i64 0, .int .i64 0]) (by simp [results, Try.results43, go_sem, *]) rfl ⟨rfl, HB8.out⟩
end Go.Proofs.Ytiokiecnglmbnaa

namespace Go.Proofs.Ytiokiecnglmbnaa
open Go Go.RowKit Go.Proofs
attribute [local go_sem] Oper.semAt_some

set_option maxHeartbeats 1000000 in
set_option maxRecDepth 100000 in
theorem eventOf_3 (n m k c h t i p : Int) (k0 : 0 ≤ k) (k1 : k < 1000000000) (hkd : k % 7 = 2) (w : World)
    (HA : Hid (∀ V, Calls Try.prog 35 #[.int .i64 n, .int .i64 1000000000] V fun e w' => e = .returned (.int .i64 k) ∧ V = w'))
    (HC : Hid (∀ V, Calls Try.prog 69 #[.int .i64 m] V fun e w' => e = .returned (.agg #[.int .i64 c, .int .i64 h, .int .i64 t]) ∧ Below V.heap.size V w'))
    (H1 : Hid (∀ V, Calls Try.prog 68 #[.int .i64 (k / 84)] V fun e w' => e = .returned (.int .i64 i) ∧ V = w'))
    (H2 : Hid (∀ V, Calls Try.prog 68 #[.int .i64 (k / 336)] V fun e w' => e = .returned (.int .i64 p) ∧ V = w')) :
    Calls Try.prog 43 #[.int .i64 n, .int .i64 m] w fun e w' => e = .returned (.agg #[.int .i64 3, .int .i64 (k / 7 % 12), .int .i64 0, .int .i64 c, .int .i64 h, .int .i64 t, .int .i64 i, .int .i64 p]) ∧ Below w.heap.size w w' := by
  obtain ⟨U, hU, hb, k1_, k2_, hlt⟩ := two_boxes w (.cells #[.int .i64 0, .int .i64 0, .int .i64 0, .int .i64 0, .int .i64 0, .int .i64 0, .int .i64 0, .int .i64 0] 47) (.cells #[.int .i64 3, .int .i64 (k / 7 % 12), .int .i64 0, .int .i64 0, .int .i64 0, .int .i64 0, .int .i64 0, .int .i64 0] 47)
  have HU := Lib.hid hU
  have HB := Lib.hid hb
  have HK1 := Lib.hid k1_
  have HK2 := Lib.hid k2_
  clear hb k1_ k2_ hU
  go_enter Try.func43, Try.ntmps43
  go_wp2_with (first
    | (go_at_call 35; (with_reducible refine (HA.out _).mono ?_); rintro e w1 ⟨rfl, rfl⟩))
  rw [HU.out]
  clear HU
  refine (HC.out _).mono ?_
  rintro e w5 ⟨rfl, hb5⟩
  have r5 := (hb5.block _ (heap_lt HK1.out)).trans HK1.out
  have ee := (hb5.block _ (heap_lt HK2.out)).trans HK2.out
  obtain ⟨e0, e1, e2, e3, e4, e5, e6, e7⟩ := row8K ee
  have g3 := frozK ee 3
  have g4 := frozK ee 4
  have g5 := frozK ee 5
  have g6 := frozK ee 6
  have g7 := frozK ee 7
  obtain ⟨sM, bM, oM⟩ := setMsg ee c h t i p
  have rM := (oM w.heap.size (by omega)).trans r5
  obtain ⟨M, hM⟩ : ∃ M, (((((w5.setCell ⟨w.heap.size + 1, 3, none⟩ (.int .i64 c)).setCell ⟨w.heap.size + 1, 4, none⟩ (.int .i64 h)).setCell ⟨w.heap.size + 1, 5, none⟩ (.int .i64 t)).setCell ⟨w.heap.size + 1, 6, none⟩ (.int .i64 i)).setCell ⟨w.heap.size + 1, 7, none⟩ (.int .i64 p)) = M := ⟨_, rfl⟩
  rw [hM] at sM bM rM
  obtain ⟨q0, q1, q2, q3, q4, q5, q6, q7⟩ := row8K rM
  obtain ⟨m0, m1, m2, m3, m4, m5, m6, m7⟩ := row8K sM
  have f0 := frozK rM 0
  have f1 := frozK rM 1
  have f2 := frozK rM 2
  have f3 := frozK rM 3
  have f4 := frozK rM 4
  have f5 := frozK rM 5
  have f6 := frozK rM 6
  have f7 := frozK rM 7
  obtain ⟨s8, b8⟩ := set8K rM 3 (k / 7 % 12) 0 c h t i p
  have HB8 := Lib.hid (HB.out.trans ((hb5.mono (by omega)).trans ((bM.mono (by omega)).trans b8)))
  have HS8 := Lib.hid s8
  clear hb5 r5 ee sM bM oM rM s8 b8 HK1 HK2
  go_wp2_with (first
    | (go_at_call 68; (with_reducible refine (H1.out _).mono ?_); rintro e w2 ⟨rfl, rfl⟩)
    | (go_at_call 68; (with_reducible refine (H2.out _).mono ?_); rintro e w2 ⟨rfl, rfl⟩))
  clear q0 q1 q2 q3 q4 q5 q6 q7 e0 e1 e2 e3 e4 e5 e6 e7 m0 m1 m2 m3 m4 m5 m6 m7 f0 f1 f2 f3 f4 f5 f6 f7 g3 g4 g5 g6 g7 hM
  obtain ⟨q0, q1, q2, q3, q4, q5, q6, q7⟩ := row8K HS8.out
  obtain ⟨V8, hV8⟩ : ∃ V, ((((((((M.setCell ⟨w.heap.size, 0, none⟩ (.int .i64 3)).setCell ⟨w.heap.size, 1, none⟩ (.int .i64 (k / 7 % 12))).setCell ⟨w.heap.size, 2, none⟩ (.int .i64 0)).setCell ⟨w.heap.size, 3, none⟩ (.int .i64 c)).setCell ⟨w.heap.size, 4, none⟩ (.int .i64 h)).setCell ⟨w.heap.size, 5, none⟩ (.int .i64 t)).setCell ⟨w.heap.size, 6, none⟩ (.int .i64 i)).setCell ⟨w.heap.size, 7, none⟩ (.int .i64 p)) = V := ⟨_, rfl⟩
  rw [hV8] at HB8 q0 q1 q2 q3 q4 q5 q6 q7 ⊢
  exact bodyPost_ret (v := .agg #[.int .i64 3, .int .i64 (k / 7 % 12), .int .i64 0, .int .i64 c, .int .i64 h, .int .i64 t, .int .i64 i, .int .i64 p]) (by simp [results, Try.results43, go_sem, *]) rfl ⟨rfl, HB8.out⟩
set_option maxHeartbeats 1000000 in
set_option maxRecDepth 100000 in
theorem eventOf_5 (n m k c h t i p : Int) (k0 : 0 ≤ k) (k1 : k < 1000000000) (hkd : k % 7 = 4) (w : World)
    (HA : Hid (∀ V, Calls Try.prog 35 #[.int .i64 n, .int .i64 1000000000] V fun e w' => e = .returned (.int .i64 k) ∧ V = w'))
    (HC : Hid (∀ V, Calls Try.prog 69 #[.int .i64 m] V fun e w' => e = .returned (.agg #[.int .i64 c, .int .i64 h, .int .i64 t]) ∧ Below V.heap.size V w'))
    (H1 : Hid (∀ V, Calls Try.prog 68 #[.int .i64 (k / 84)] V fun e w' => e = .returned (.int .i64 i) ∧ V = w'))
    (H2 : Hid (∀ V, Calls Try.prog 68 #[.int .i64 (k / 336)] V fun e w' => e = .returned (.int .i64 p) ∧ V = w')) :
    Calls Try.prog 43 #[.int .i64 n, .int .i64 m] w fun e w' => e = .returned (.agg #[.int .i64 5, .int .i64 (k / 7 % 12), .int .i64 0, .int .i64 c, .int .i64 h, .int .i64 t, .int .i64 i, .int .i64 p]) ∧ Below w.heap.size w w' := by
  obtain ⟨U, hU, hb, k1_, k2_, hlt⟩ := two_boxes w (.cells #[.int .i64 0, .int .i64 0, .int .i64 0, .int .i64 0, .int .i64 0, .int .i64 0, .int .i64 0, .int .i64 0] 47) (.cells #[.int .i64 5, .int .i64 (k / 7 % 12), .int .i64 0, .int .i64 0, .int .i64 0, .int .i64 0, .int .i64 0, .int .i64 0] 47)
  have HU := Lib.hid hU
  have HB := Lib.hid hb
  have HK1 := Lib.hid k1_
  have HK2 := Lib.hid k2_
  clear hb k1_ k2_ hU
  go_enter Try.func43, Try.ntmps43
  go_wp2_with (first
    | (go_at_call 35; (with_reducible refine (HA.out _).mono ?_); rintro e w1 ⟨rfl, rfl⟩))
  rw [HU.out]
  clear HU
  refine (HC.out _).mono ?_
  rintro e w5 ⟨rfl, hb5⟩
  have r5 := (hb5.block _ (heap_lt HK1.out)).trans HK1.out
  have ee := (hb5.block _ (heap_lt HK2.out)).trans HK2.out
  obtain ⟨e0, e1, e2, e3, e4, e5, e6, e7⟩ := row8K ee
  have g3 := frozK ee 3
  have g4 := frozK ee 4
  have g5 := frozK ee 5
  have g6 := frozK ee 6
  have g7 := frozK ee 7
  obtain ⟨sM, bM, oM⟩ := setMsg ee c h t i p
  have rM := (oM w.heap.size (by omega)).trans r5
  obtain ⟨M, hM⟩ : ∃ M, (((((w5.setCell ⟨w.heap.size + 1, 3, none⟩ (.int .i64 c)).setCell ⟨w.heap.size + 1, 4, none⟩ (.int .i64 h)).setCell ⟨w.heap.size + 1, 5, none⟩ (.int .i64 t)).setCell ⟨w.heap.size + 1, 6, none⟩ (.int .i64 i)).setCell ⟨w.heap.size + 1, 7, none⟩ (.int .i64 p)) = M := ⟨_, rfl⟩
  rw [hM] at sM bM rM
  obtain ⟨q0, q1, q2, q3, q4, q5, q6, q7⟩ := row8K rM
  obtain ⟨m0, m1, m2, m3, m4, m5, m6, m7⟩ := row8K sM
  have f0 := frozK rM 0
  have f1 := frozK rM 1
  have f2 := frozK rM 2
  have f3 := frozK rM 3
  have f4 := frozK rM 4
  have f5 := frozK rM 5
  have f6 := frozK rM 6
  have f7 := frozK rM 7
  obtain ⟨s8, b8⟩ := set8K rM 5 (k / 7 % 12) 0 c h t i p
  have HB8 := Lib.hid (HB.out.trans ((hb5.mono (by omega)).trans ((bM.mono (by omega)).trans b8)))
  have HS8 := Lib.hid s8
  clear hb5 r5 ee sM bM oM rM s8 b8 HK1 HK2
  go_wp2_with (first
    | (go_at_call 68; (with_reducible refine (H1.out _).mono ?_); rintro e w2 ⟨rfl, rfl⟩)
    | (go_at_call 68; (with_reducible refine (H2.out _).mono ?_); rintro e w2 ⟨rfl, rfl⟩))
  clear q0 q1 q2 q3 q4 q5 q6 q7 e0 e1 e2 e3 e4 e5 e6 e7 m0 m1 m2 m3 m4 m5 m6 m7 f0 f1 f2 f3 f4 f5 f6 f7 g3 g4 g5 g6 g7 hM
  obtain ⟨q0, q1, q2, q3, q4, q5, q6, q7⟩ := row8K HS8.out
  obtain ⟨V8, hV8⟩ : ∃ V, ((((((((M.setCell ⟨w.heap.size, 0, none⟩ (.int .i64 5)).setCell ⟨w.heap.size, 1, none⟩ (.int .i64 (k / 7 % 12))).setCell ⟨w.heap.size, 2, none⟩ (.int .i64 0)).setCell ⟨w.heap.size, 3, none⟩ (.int .i64 c)).setCell ⟨w.heap.size, 4, none⟩ (.int .i64 h)).setCell ⟨w.heap.size, 5, none⟩ (.int .i64 t)).setCell ⟨w.heap.size, 6, none⟩ (.int .i64 i)).setCell ⟨w.heap.size, 7, none⟩ (.int .i64 p)) = V := ⟨_, rfl⟩
  rw [hV8] at HB8 q0 q1 q2 q3 q4 q5 q6 q7 ⊢
  exact bodyPost_ret (v := .agg #[.int .i64 5, .int .i64 (k / 7 % 12), .int .i64 0, .int .i64 c, .int .i64 h, .int .i64 t, .int .i64 i, .int .i64 p]) (by simp [results, Try.results43, go_sem, *]) rfl ⟨rfl, HB8.out⟩
set_option maxHeartbeats 1000000 in
set_option maxRecDepth 100000 in
theorem eventOf_6 (n m k c h t i p : Int) (k0 : 0 ≤ k) (k1 : k < 1000000000) (hkd : k % 7 = 5) (w : World)
    (HA : Hid (∀ V, Calls Try.prog 35 #[.int .i64 n, .int .i64 1000000000] V fun e w' => e = .returned (.int .i64 k) ∧ V = w'))
    (HC : Hid (∀ V, Calls Try.prog 69 #[.int .i64 m] V fun e w' => e = .returned (.agg #[.int .i64 c, .int .i64 h, .int .i64 t]) ∧ Below V.heap.size V w'))
    (H1 : Hid (∀ V, Calls Try.prog 68 #[.int .i64 (k / 84)] V fun e w' => e = .returned (.int .i64 i) ∧ V = w'))
    (H2 : Hid (∀ V, Calls Try.prog 68 #[.int .i64 (k / 336)] V fun e w' => e = .returned (.int .i64 p) ∧ V = w')) :
    Calls Try.prog 43 #[.int .i64 n, .int .i64 m] w fun e w' => e = .returned (.agg #[.int .i64 6, .int .i64 (k / 7 % 12), .int .i64 0, .int .i64 c, .int .i64 h, .int .i64 t, .int .i64 i, .int .i64 p]) ∧ Below w.heap.size w w' := by
  obtain ⟨U, hU, hb, k1_, k2_, hlt⟩ := two_boxes w (.cells #[.int .i64 0, .int .i64 0, .int .i64 0, .int .i64 0, .int .i64 0, .int .i64 0, .int .i64 0, .int .i64 0] 47) (.cells #[.int .i64 6, .int .i64 (k / 7 % 12), .int .i64 0, .int .i64 0, .int .i64 0, .int .i64 0, .int .i64 0, .int .i64 0] 47)
  have HU := Lib.hid hU
  have HB := Lib.hid hb
  have HK1 := Lib.hid k1_
  have HK2 := Lib.hid k2_
  clear hb k1_ k2_ hU
  go_enter Try.func43, Try.ntmps43
  go_wp2_with (first
    | (go_at_call 35; (with_reducible refine (HA.out _).mono ?_); rintro e w1 ⟨rfl, rfl⟩))
  rw [HU.out]
  clear HU
  refine (HC.out _).mono ?_
  rintro e w5 ⟨rfl, hb5⟩
  have r5 := (hb5.block _ (heap_lt HK1.out)).trans HK1.out
  have ee := (hb5.block _ (heap_lt HK2.out)).trans HK2.out
  obtain ⟨e0, e1, e2, e3, e4, e5, e6, e7⟩ := row8K ee
  have g3 := frozK ee 3
  have g4 := frozK ee 4
  have g5 := frozK ee 5
  have g6 := frozK ee 6
  have g7 := frozK ee 7
  obtain ⟨sM, bM, oM⟩ := setMsg ee c h t i p
  have rM := (oM w.heap.size (by omega)).trans r5
  obtain ⟨M, hM⟩ : ∃ M, (((((w5.setCell ⟨w.heap.size + 1, 3, none⟩ (.int .i64 c)).setCell ⟨w.heap.size + 1, 4, none⟩ (.int .i64 h)).setCell ⟨w.heap.size + 1, 5, none⟩ (.int .i64 t)).setCell ⟨w.heap.size + 1, 6, none⟩ (.int .i64 i)).setCell ⟨w.heap.size + 1, 7, none⟩ (.int .i64 p)) = M := ⟨_, rfl⟩
  rw [hM] at sM bM rM
  obtain ⟨q0, q1, q2, q3, q4, q5, q6, q7⟩ := row8K rM
  obtain ⟨m0, m1, m2, m3, m4, m5, m6, m7⟩ := row8K sM
  have f0 := frozK rM 0
  have f1 := frozK rM 1
  have f2 := frozK rM 2
  have f3 := frozK rM 3
  have f4 := frozK rM 4
  have f5 := frozK rM 5
  have f6 := frozK rM 6
  have f7 := frozK rM 7
  obtain ⟨s8, b8⟩ := set8K rM 6 (k / 7 % 12) 0 c h t i p
  have HB8 := Lib.hid (HB.out.trans ((hb5.mono (by omega)).trans ((bM.mono (by omega)).trans b8)))
  have HS8 := Lib.hid s8
  clear hb5 r5 ee sM bM oM rM s8 b8 HK1 HK2
  go_wp2_with (first
    | (go_at_call 68; (with_reducible refine (H1.out _).mono ?_); rintro e w2 ⟨rfl, rfl⟩)
    | (go_at_call 68; (with_reducible refine (H2.out _).mono ?_); rintro e w2 ⟨rfl, rfl⟩))
  clear q0 q1 q2 q3 q4 q5 q6 q7 e0 e1 e2 e3 e4 e5 e6 e7 m0 m1 m2 m3 m4 m5 m6 m7 f0 f1 f2 f3 f4 f5 f6 f7 g3 g4 g5 g6 g7 hM
  obtain ⟨q0, q1, q2, q3, q4, q5, q6, q7⟩ := row8K HS8.out
  obtain ⟨V8, hV8⟩ : ∃ V, ((((((((M.setCell ⟨w.heap.size, 0, none⟩ (.int .i64 6)).setCell ⟨w.heap.size, 1, none⟩ (.int .i64 (k / 7 % 12))).setCell ⟨w.heap.size, 2, none⟩ (.int .i64 0)).setCell ⟨w.heap.size, 3, none⟩ (.int .i64 c)).setCell ⟨w.heap.size, 4, none⟩ (.int .i64 h)).setCell ⟨w.heap.size, 5, none⟩ (.int .i64 t)).setCell ⟨w.heap.size, 6, none⟩ (.int .i64 i)).setCell ⟨w.heap.size, 7, none⟩ (.int .i64 p)) = V := ⟨_, rfl⟩
  rw [hV8] at HB8 q0 q1 q2 q3 q4 q5 q6 q7 ⊢
  exact bodyPost_ret (v := .agg #[.int .i64 6, .int .i64 (k / 7 % 12), .int .i64 0, .int .i64 c, .int .i64 h, .int .i64 t, .int .i64 i, .int .i64 p]) (by simp [results, Try.results43, go_sem, *]) rfl ⟨rfl, HB8.out⟩
end Go.Proofs.Ytiokiecnglmbnaa

namespace Go.Proofs.Ytiokiecnglmbnaa
open Go Go.RowKit Go.Proofs
attribute [local go_sem] Oper.semAt_some

theorem eventOf_any (n m : Int) (hn : I64 n) (hm : I64 m) (w : World) : Calls Try.prog 43 #[.int .i64 n, .int .i64 m] w fun e w' => e = .returned (evV (NM.evOf n m)) ∧ Below w.heap.size w w' := by
  have HA := Lib.hid (fun V => around_any n 1000000000 hn (by omega) (by omega) V)
  have hk := NM.arI_in n 1000000000 (by omega)
  have HS := Lib.hid (fun V => small_any m hm V)
  have HC := Lib.hid (fun V => causeOf_any m hm V)
  unfold NM.evOf
  obtain ⟨k, hkk⟩ : ∃ k, NM.arI n 1000000000 = k := ⟨_, rfl⟩
  have hkk' : around n 1000000000 = k := hkk
  rw [hkk]
  rw [hkk'] at HA
  rw [hkk] at hk
  obtain ⟨k0, k1⟩ := hk
  have H1 := Lib.hid (fun V => small_any (k / 84) (by unfold I64; omega) V)
  have H2 := Lib.hid (fun V => small_any (k / 336) (by unfold I64; omega) V)
  have hc : k % 7 = 0 ∨ k % 7 = 1 ∨ k % 7 = 2 ∨ k % 7 = 3 ∨ k % 7 = 4 ∨ k % 7 = 5 ∨ k % 7 = 6 := by omega
  unfold NM.evK
  rcases hc with h | h | h | h | h | h | h
  · rw [h]; exact eventOf_1 n m k _ k0 k1 h w HA HS
  · rw [h]; exact eventOf_2 n m k _ k0 k1 h w HA HS
  · rw [h]; exact eventOf_3 n m k _ _ _ _ _ k0 k1 h w HA HC H1 H2
  · rw [h]; exact eventOf_4 n m k _ k0 k1 h w HA HS
  · rw [h]; exact eventOf_5 n m k _ _ _ _ _ k0 k1 h w HA HC H1 H2
  · rw [h]; exact eventOf_6 n m k _ _ _ _ _ k0 k1 h w HA HC H1 H2
  · rw [h]; exact eventOf_7 n m k k0 k1 h w HA
end Go.Proofs.Ytiokiecnglmbnaa
