/-
  The reference's generators of events and questions: events with an argument, or none. Condition: the numbers are Go's.
-/
import Derived.Test.YtggallpnbbidfaaGreatDoorNmK
import Derived.Deep.DeepCutAuto
namespace Go.Proofs.YtggallpnbbidfaaGreatDoor
open Go Go.RowKit Go.Proofs
attribute [local go_sem] Oper.semAt_some

set_option maxHeartbeats 1000000 in
set_option maxRecDepth 100000 in
theorem eventOf_1 (n m k s : Int) (k0 : 0 ≤ k) (k1 : k < 1000000000) (hkd : k % 7 = 0) (w : World)
    (HA : Hid (∀ V, Calls Tryz.prog 7 #[.int .i64 n, .int .i64 1000000000] V fun e w' => e = .returned (.int .i64 k) ∧ V = w'))
    (HS : Hid (∀ V, Calls Tryz.prog 27 #[.int .i64 m] V fun e w' => e = .returned (.int .i64 s) ∧ V = w')) :
    Calls Tryz.prog 11 #[.int .i64 n, .int .i64 m] w fun e w' => e = .returned (.agg #[.int .i64 1, .int .i64 (k / 7 % 12), .int .i64 s, .int .i64 0, .int .i64 0, .int .i64 0, .int .i64 0, .int .i64 0]) ∧ Below w.heap.size w w' := by
  obtain ⟨U, hU, hb, k1_, k2_, hlt⟩ := two_boxes w (.cells #[.int .i64 0, .int .i64 0, .int .i64 0, .int .i64 0, .int .i64 0, .int .i64 0, .int .i64 0, .int .i64 0] 28) (.cells #[.int .i64 1, .int .i64 (k / 7 % 12), .int .i64 s, .int .i64 0, .int .i64 0, .int .i64 0, .int .i64 0, .int .i64 0] 28)
  obtain ⟨q0, q1, q2, q3, q4, q5, q6, q7⟩ := row8 k1_
  obtain ⟨e0, e1, e2, e3, e4, e5, e6, e7⟩ := row8 k2_
  have f0 := froz k1_ 0
  have f1 := froz k1_ 1
  have f2 := froz k1_ 2
  have f3 := froz k1_ 3
  have f4 := froz k1_ 4
  have f5 := froz k1_ 5
  have f6 := froz k1_ 6
  have f7 := froz k1_ 7
  obtain ⟨s8, b8⟩ := set8 k1_ 1 (k / 7 % 12) s 0 0 0 0 0
  have HB8 := Lib.hid (hb.trans b8)
  have HS8 := Lib.hid s8
  clear hb k1_ k2_ s8 b8
  go_enter Tryz.func11, Tryz.ntmps11
  go_wp2_with (first
    | (go_at_call 7; (with_reducible refine (HA.out _).mono ?_); rintro e w1 ⟨rfl, rfl⟩)
    | (go_at_call 27; (with_reducible refine (HS.out _).mono ?_); rintro e w2 ⟨rfl, rfl⟩))
  clear q0 q1 q2 q3 q4 q5 q6 q7 e0 e1 e2 e3 e4 e5 e6 e7 f0 f1 f2 f3 f4 f5 f6 f7 hU
  obtain ⟨q0, q1, q2, q3, q4, q5, q6, q7⟩ := row8 HS8.out
  obtain ⟨V8, hV8⟩ : ∃ V, ((((((((U.setCell ⟨w.heap.size, 0, none⟩ (.int .i64 1)).setCell ⟨w.heap.size, 1, none⟩ (.int .i64 (k / 7 % 12))).setCell ⟨w.heap.size, 2, none⟩ (.int .i64 s)).setCell ⟨w.heap.size, 3, none⟩ (.int .i64 0)).setCell ⟨w.heap.size, 4, none⟩ (.int .i64 0)).setCell ⟨w.heap.size, 5, none⟩ (.int .i64 0)).setCell ⟨w.heap.size, 6, none⟩ (.int .i64 0)).setCell ⟨w.heap.size, 7, none⟩ (.int .i64 0)) = V := ⟨_, rfl⟩
  rw [hV8] at HB8 q0 q1 q2 q3 q4 q5 q6 q7 ⊢
  exact bodyPost_ret (v := .agg #[.int .i64 1, .int .i64 (k / 7 % 12), .int .i64 s, .int .i64 0, .int .i64 0, .int .i64 0, .int .i64 0, .int .i64 0]) (by simp [results, Tryz.results11, go_sem, *]) rfl ⟨rfl, HB8.out⟩
set_option maxHeartbeats 1000000 in
set_option maxRecDepth 100000 in
theorem eventOf_2 (n m k s : Int) (k0 : 0 ≤ k) (k1 : k < 1000000000) (hkd : k % 7 = 1) (w : World)
    (HA : Hid (∀ V, Calls Tryz.prog 7 #[.int .i64 n, .int .i64 1000000000] V fun e w' => e = .returned (.int .i64 k) ∧ V = w'))
    (HS : Hid (∀ V, Calls Tryz.prog 27 #[.int .i64 m] V fun e w' => e = .returned (.int .i64 s) ∧ V = w')) :
    Calls Tryz.prog 11 #[.int .i64 n, .int .i64 m] w fun e w' => e = .returned (.agg #[.int .i64 2, .int .i64 (k / 7 % 12), .int .i64 s, .int .i64 0, .int .i64 0, .int .i64 0, .int .i64 0, .int .i64 0]) ∧ Below w.heap.size w w' := by
  obtain ⟨U, hU, hb, k1_, k2_, hlt⟩ := two_boxes w (.cells #[.int .i64 0, .int .i64 0, .int .i64 0, .int .i64 0, .int .i64 0, .int .i64 0, .int .i64 0, .int .i64 0] 28) (.cells #[.int .i64 2, .int .i64 (k / 7 % 12), .int .i64 s, .int .i64 0, .int .i64 0, .int .i64 0, .int .i64 0, .int .i64 0] 28)
  obtain ⟨q0, q1, q2, q3, q4, q5, q6, q7⟩ := row8 k1_
  obtain ⟨e0, e1, e2, e3, e4, e5, e6, e7⟩ := row8 k2_
  have f0 := froz k1_ 0
  have f1 := froz k1_ 1
  have f2 := froz k1_ 2
  have f3 := froz k1_ 3
  have f4 := froz k1_ 4
  have f5 := froz k1_ 5
  have f6 := froz k1_ 6
  have f7 := froz k1_ 7
  obtain ⟨s8, b8⟩ := set8 k1_ 2 (k / 7 % 12) s 0 0 0 0 0
  have HB8 := Lib.hid (hb.trans b8)
  have HS8 := Lib.hid s8
  clear hb k1_ k2_ s8 b8
  go_enter Tryz.func11, Tryz.ntmps11
  go_wp2_with (first
    | (go_at_call 7; (with_reducible refine (HA.out _).mono ?_); rintro e w1 ⟨rfl, rfl⟩)
    | (go_at_call 27; (with_reducible refine (HS.out _).mono ?_); rintro e w2 ⟨rfl, rfl⟩))
  clear q0 q1 q2 q3 q4 q5 q6 q7 e0 e1 e2 e3 e4 e5 e6 e7 f0 f1 f2 f3 f4 f5 f6 f7 hU
  obtain ⟨q0, q1, q2, q3, q4, q5, q6, q7⟩ := row8 HS8.out
  obtain ⟨V8, hV8⟩ : ∃ V, ((((((((U.setCell ⟨w.heap.size, 0, none⟩ (.int .i64 2)).setCell ⟨w.heap.size, 1, none⟩ (.int .i64 (k / 7 % 12))).setCell ⟨w.heap.size, 2, none⟩ (.int .i64 s)).setCell ⟨w.heap.size, 3, none⟩ (.int .i64 0)).setCell ⟨w.heap.size, 4, none⟩ (.int .i64 0)).setCell ⟨w.heap.size, 5, none⟩ (.int .i64 0)).setCell ⟨w.heap.size, 6, none⟩ (.int .i64 0)).setCell ⟨w.heap.size, 7, none⟩ (.int .i64 0)) = V := ⟨_, rfl⟩
  rw [hV8] at HB8 q0 q1 q2 q3 q4 q5 q6 q7 ⊢
  exact bodyPost_ret (v := .agg #[.int .i64 2, .int .i64 (k / 7 % 12), .int .i64 s, .int .i64 0, .int .i64 0, .int .i64 0, .int .i64 0, .int .i64 0]) (by simp [results, Tryz.results11, go_sem, *]) rfl ⟨rfl, HB8.out⟩
set_option maxHeartbeats 1000000 in
set_option maxRecDepth 100000 in
theorem eventOf_4 (n m k s : Int) (k0 : 0 ≤ k) (k1 : k < 1000000000) (hkd : k % 7 = 3) (w : World)
    (HA : Hid (∀ V, Calls Tryz.prog 7 #[.int .i64 n, .int .i64 1000000000] V fun e w' => e = .returned (.int .i64 k) ∧ V = w'))
    (HS : Hid (∀ V, Calls Tryz.prog 27 #[.int .i64 m] V fun e w' => e = .returned (.int .i64 s) ∧ V = w')) :
    Calls Tryz.prog 11 #[.int .i64 n, .int .i64 m] w fun e w' => e = .returned (.agg #[.int .i64 4, .int .i64 (k / 7 % 12), .int .i64 s, .int .i64 0, .int .i64 0, .int .i64 0, .int .i64 0, .int .i64 0]) ∧ Below w.heap.size w w' := by
  obtain ⟨U, hU, hb, k1_, k2_, hlt⟩ := two_boxes w (.cells #[.int .i64 0, .int .i64 0, .int .i64 0, .int .i64 0, .int .i64 0, .int .i64 0, .int .i64 0, .int .i64 0] 28) (.cells #[.int .i64 4, .int .i64 (k / 7 % 12), .int .i64 s, .int .i64 0, .int .i64 0, .int .i64 0, .int .i64 0, .int .i64 0] 28)
  obtain ⟨q0, q1, q2, q3, q4, q5, q6, q7⟩ := row8 k1_
  obtain ⟨e0, e1, e2, e3, e4, e5, e6, e7⟩ := row8 k2_
  have f0 := froz k1_ 0
  have f1 := froz k1_ 1
  have f2 := froz k1_ 2
  have f3 := froz k1_ 3
  have f4 := froz k1_ 4
  have f5 := froz k1_ 5
  have f6 := froz k1_ 6
  have f7 := froz k1_ 7
  obtain ⟨s8, b8⟩ := set8 k1_ 4 (k / 7 % 12) s 0 0 0 0 0
  have HB8 := Lib.hid (hb.trans b8)
  have HS8 := Lib.hid s8
  clear hb k1_ k2_ s8 b8
  go_enter Tryz.func11, Tryz.ntmps11
  go_wp2_with (first
    | (go_at_call 7; (with_reducible refine (HA.out _).mono ?_); rintro e w1 ⟨rfl, rfl⟩)
    | (go_at_call 27; (with_reducible refine (HS.out _).mono ?_); rintro e w2 ⟨rfl, rfl⟩))
  clear q0 q1 q2 q3 q4 q5 q6 q7 e0 e1 e2 e3 e4 e5 e6 e7 f0 f1 f2 f3 f4 f5 f6 f7 hU
  obtain ⟨q0, q1, q2, q3, q4, q5, q6, q7⟩ := row8 HS8.out
  obtain ⟨V8, hV8⟩ : ∃ V, ((((((((U.setCell ⟨w.heap.size, 0, none⟩ (.int .i64 4)).setCell ⟨w.heap.size, 1, none⟩ (.int .i64 (k / 7 % 12))).setCell ⟨w.heap.size, 2, none⟩ (.int .i64 s)).setCell ⟨w.heap.size, 3, none⟩ (.int .i64 0)).setCell ⟨w.heap.size, 4, none⟩ (.int .i64 0)).setCell ⟨w.heap.size, 5, none⟩ (.int .i64 0)).setCell ⟨w.heap.size, 6, none⟩ (.int .i64 0)).setCell ⟨w.heap.size, 7, none⟩ (.int .i64 0)) = V := ⟨_, rfl⟩
  rw [hV8] at HB8 q0 q1 q2 q3 q4 q5 q6 q7 ⊢
  exact bodyPost_ret (v := .agg #[.int .i64 4, .int .i64 (k / 7 % 12), .int .i64 s, .int .i64 0, .int .i64 0, .int .i64 0, .int .i64 0, .int .i64 0]) (by simp [results, Tryz.results11, go_sem, *]) rfl ⟨rfl, HB8.out⟩
set_option maxHeartbeats 1000000 in
set_option maxRecDepth 100000 in
theorem eventOf_7 (n m k : Int) (k0 : 0 ≤ k) (k1 : k < 1000000000) (hkd : k % 7 = 6) (w : World)
    (HA : Hid (∀ V, Calls Tryz.prog 7 #[.int .i64 n, .int .i64 1000000000] V fun e w' => e = .returned (.int .i64 k) ∧ V = w')) :
    Calls Tryz.prog 11 #[.int .i64 n, .int .i64 m] w fun e w' => e = .returned (.agg #[.int .i64 7, .int .i64 (k / 7 % 12), .int .i64 0, .int .i64 0, .int .i64 0, .int .i64 0, .int .i64 0, .int .i64 0]) ∧ Below w.heap.size w w' := by
  obtain ⟨U, hU, hb, k1_, k2_, hlt⟩ := two_boxes w (.cells #[.int .i64 0, .int .i64 0, .int .i64 0, .int .i64 0, .int .i64 0, .int .i64 0, .int .i64 0, .int .i64 0] 28) (.cells #[.int .i64 7, .int .i64 (k / 7 % 12), .int .i64 0, .int .i64 0, .int .i64 0, .int .i64 0, .int .i64 0, .int .i64 0] 28)
  have HU := Lib.hid hU
  obtain ⟨s8, b8⟩ := set8 k1_ 7 (k / 7 % 12) 0 0 0 0 0 0
  have HB8 := Lib.hid (hb.trans b8)
  have HS8 := Lib.hid s8
  have HK1 := Lib.hid k1_
  have HK2 := Lib.hid k2_
  clear hb k1_ k2_ s8 b8 hU
  go_enter Tryz.func11, Tryz.ntmps11
  go_upto_region 12 with (first
    | (go_at_call 7; (with_reducible refine (HA.out _).mono ?_); rintro e w1 ⟨rfl, rfl⟩))
  rw [HU.out]
  clear HU
  obtain ⟨q0, q1, q2, q3, q4, q5, q6, q7⟩ := row8 HK1.out
  obtain ⟨e0, e1, e2, e3, e4, e5, e6, e7⟩ := row8 HK2.out
  have f0 := froz HK1.out 0
  have f1 := froz HK1.out 1
  have f2 := froz HK1.out 2
  have f3 := froz HK1.out 3
  have f4 := froz HK1.out 4
  have f5 := froz HK1.out 5
  have f6 := froz HK1.out 6
  have f7 := froz HK1.out 7
  go_wp2_with fail
  clear q0 q1 q2 q3 q4 q5 q6 q7 e0 e1 e2 e3 e4 e5 e6 e7 f0 f1 f2 f3 f4 f5 f6 f7
  obtain ⟨q0, q1, q2, q3, q4, q5, q6, q7⟩ := row8 HS8.out
  obtain ⟨V8, hV8⟩ : ∃ V, ((((((((U.setCell ⟨w.heap.size, 0, none⟩ (.int .i64 7)).setCell ⟨w.heap.size, 1, none⟩ (.int .i64 (k / 7 % 12))).setCell ⟨w.heap.size, 2, none⟩ (.int .i64 0)).setCell ⟨w.heap.size, 3, none⟩ (.int .i64 0)).setCell ⟨w.heap.size, 4, none⟩ (.int .i64 0)).setCell ⟨w.heap.size, 5, none⟩ (.int .i64 0)).setCell ⟨w.heap.size, 6, none⟩ (.int .i64 0)).setCell ⟨w.heap.size, 7, none⟩ (.int .i64 0)) = V := ⟨_, rfl⟩
  rw [hV8] at HB8 q0 q1 q2 q3 q4 q5 q6 q7 ⊢
  exact bodyPost_ret (v := .agg #[.int .i64 7, .int .i64 (k / 7 % 12), .int .i64 0, .int .i64 0, .int .i64 0, .int .i64 0, .int .i64 0, .int .i64 0]) (by simp [results, Tryz.results11, go_sem, *]) rfl ⟨rfl, HB8.out⟩
end Go.Proofs.YtggallpnbbidfaaGreatDoor
