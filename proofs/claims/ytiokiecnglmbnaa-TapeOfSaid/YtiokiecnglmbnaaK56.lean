/-
  The reference's generators of events and questions: together. Condition: the numbers are Go's.
-/
import Derived.Test.YtiokiecnglmbnaaK26
import Derived.Test.YtiokiecnglmbnaaK55
import Derived.Deep.DeepCutAuto

namespace Go.Proofs.Ytiokiecnglmbnaa
open Go Go.RowKit Go.Proofs
attribute [local go_sem] Oper.semAt_some

set_option maxHeartbeats 1000000 in
set_option maxRecDepth 100000 in
theorem questionOf_plain (n m k c h t i : Int) (k0 : 0 ≤ k) (k1 : k < 1000000000) (hkd : (1 + k % 3 == 3) = false) (w : World)
    (HA : Hid (∀ V, Calls Try.prog 35 #[.int .i64 n, .int .i64 1000000000] V fun e w' => e = .returned (.int .i64 k) ∧ V = w'))
    (HC : Hid (∀ V, Calls Try.prog 69 #[.int .i64 m] V fun e w' => e = .returned (.agg #[.int .i64 c, .int .i64 h, .int .i64 t]) ∧ Below V.heap.size V w'))
    (H1 : Hid (∀ V, Calls Try.prog 68 #[.int .i64 (k / 3)] V fun e w' => e = .returned (.int .i64 i) ∧ V = w')) :
    Calls Try.prog 51 #[.int .i64 n, .int .i64 m] w fun e w' => e = .returned (.agg #[.int .i64 c, .int .i64 h, .int .i64 t, .int .i64 (1 + k % 3), .int .i64 i]) ∧ Below w.heap.size w w' := by
  obtain ⟨W0, hW0⟩ : ∃ U, w.alloc (.cells #[.int .i64 0, .int .i64 0, .int .i64 0, .int .i64 0, .int .i64 0] 30) = U := ⟨_, rfl⟩
  have hb0 : Below w.heap.size w W0 := hW0 ▸ one_box w _
  have k0_ : W0.heap[w.heap.size]? = some (.cells #[.int .i64 0, .int .i64 0, .int .i64 0, .int .i64 0, .int .i64 0] 30 (0, 0)) := by rw [← hW0]; exact new_at rfl
  have HB0 := Lib.hid hb0
  have HK0 := Lib.hid k0_
  clear hb0 k0_
  go_enter Try.func51, Try.ntmps51
  go_wp2_with (first
    | (go_at_call 35; (with_reducible refine (HA.out _).mono ?_); rintro e w1 ⟨rfl, rfl⟩))
  clear hW0
  refine (HC.out _).mono ?_
  rintro e w5 ⟨rfl, hb5⟩
  obtain ⟨U, hU⟩ : ∃ U, w5.alloc (.cells #[.int .i64 c, .int .i64 h, .int .i64 t, .int .i64 (1 + k % 3), .int .i64 i] 30) = U := ⟨_, rfl⟩
  have hbU : Below w5.heap.size w5 U := hU ▸ one_box w5 _
  have k2 : U.heap[w5.heap.size]? = some (.cells #[.int .i64 c, .int .i64 h, .int .i64 t, .int .i64 (1 + k % 3), .int .i64 i] 30 (0, 0)) := by rw [← hU]; exact new_at rfl
  have h01 := heap_lt HK0.out
  have rU := (hbU.block _ (Nat.lt_of_lt_of_le h01 hb5.size)).trans ((hb5.block _ h01).trans HK0.out)
  obtain ⟨q0, q1, q2, q3, q4⟩ := row5 rU
  obtain ⟨e0, e1, e2, e3, e4⟩ := row5 k2
  have f0 := frozK rU 0
  have f1 := frozK rU 1
  have f2 := frozK rU 2
  have f3 := frozK rU 3
  have f4 := frozK rU 4
  obtain ⟨s8, b8⟩ := set5 rU c h t (1 + k % 3) i
  have HB8 := Lib.hid ((HB0.out.trans ((hb5.trans (hbU.mono hb5.size)).mono HB0.out.size)).trans b8)
  have HS8 := Lib.hid s8
  clear hb5 hbU k2 rU s8 b8 h01 HB0 HK0
  go_wp2_with (first
    | (go_at_call 68; (with_reducible refine (H1.out _).mono ?_); rintro e w2 ⟨rfl, rfl⟩))
  clear q0 q1 q2 q3 q4 e0 e1 e2 e3 e4 f0 f1 f2 f3 f4 hU
  obtain ⟨q0, q1, q2, q3, q4⟩ := row5 HS8.out
  obtain ⟨V8, hV8⟩ : ∃ V, (((((U.setCell ⟨w.heap.size, 0, none⟩ (.int .i64 c)).setCell ⟨w.heap.size, 1, none⟩ (.int .i64 h)).setCell ⟨w.heap.size, 2, none⟩ (.int .i64 t)).setCell ⟨w.heap.size, 3, none⟩ (.int .i64 (1 + k % 3))).setCell ⟨w.heap.size, 4, none⟩ (.int .i64 i)) = V := ⟨_, rfl⟩
  rw [hV8] at HB8 q0 q1 q2 q3 q4 ⊢
  exact bodyPost_ret (v := .agg #[.int .i64 c, .int .i64 h, .int .i64 t, .int .i64 (1 + k % 3), .int .i64 i]) (by simp [results, Try.results51, go_sem, *]) rfl ⟨rfl, HB8.out⟩
set_option maxHeartbeats 1000000 in
set_option maxRecDepth 100000 in
theorem questionOf_keep (n m k c h t i : Int) (k0 : 0 ≤ k) (k1 : k < 1000000000) (hkd : k % 3 = 2) (w : World)
    (HA : Hid (∀ V, Calls Try.prog 35 #[.int .i64 n, .int .i64 1000000000] V fun e w' => e = .returned (.int .i64 k) ∧ V = w'))
    (HC : Hid (∀ V, Calls Try.prog 69 #[.int .i64 m] V fun e w' => e = .returned (.agg #[.int .i64 c, .int .i64 h, .int .i64 t]) ∧ Below V.heap.size V w'))
    (H1 : Hid (∀ V, Calls Try.prog 68 #[.int .i64 (k / 3)] V fun e w' => e = .returned (.int .i64 i) ∧ V = w')) :
    Calls Try.prog 51 #[.int .i64 n, .int .i64 m] w fun e w' => e = .returned (.agg #[.int .i64 c, .int .i64 40, .int .i64 t, .int .i64 3, .int .i64 i]) ∧ Below w.heap.size w w' := by
  obtain ⟨W0, hW0⟩ : ∃ U, w.alloc (.cells #[.int .i64 0, .int .i64 0, .int .i64 0, .int .i64 0, .int .i64 0] 30) = U := ⟨_, rfl⟩
  have hb0 : Below w.heap.size w W0 := hW0 ▸ one_box w _
  have k0_ : W0.heap[w.heap.size]? = some (.cells #[.int .i64 0, .int .i64 0, .int .i64 0, .int .i64 0, .int .i64 0] 30 (0, 0)) := by rw [← hW0]; exact new_at rfl
  have HB0 := Lib.hid hb0
  have HK0 := Lib.hid k0_
  clear hb0 k0_
  go_enter Try.func51, Try.ntmps51
  go_wp2_with (first
    | (go_at_call 35; (with_reducible refine (HA.out _).mono ?_); rintro e w1 ⟨rfl, rfl⟩))
  clear hW0
  refine (HC.out _).mono ?_
  rintro e w5 ⟨rfl, hb5⟩
  obtain ⟨U, hU⟩ : ∃ U, w5.alloc (.cells #[.int .i64 c, .int .i64 40, .int .i64 t, .int .i64 3, .int .i64 i] 30) = U := ⟨_, rfl⟩
  have hbU : Below w5.heap.size w5 U := hU ▸ one_box w5 _
  have k2 : U.heap[w5.heap.size]? = some (.cells #[.int .i64 c, .int .i64 40, .int .i64 t, .int .i64 3, .int .i64 i] 30 (0, 0)) := by rw [← hU]; exact new_at rfl
  have h01 := heap_lt HK0.out
  have rU := (hbU.block _ (Nat.lt_of_lt_of_le h01 hb5.size)).trans ((hb5.block _ h01).trans HK0.out)
  obtain ⟨q0, q1, q2, q3, q4⟩ := row5 rU
  obtain ⟨e0, e1, e2, e3, e4⟩ := row5 k2
  have f0 := frozK rU 0
  have f1 := frozK rU 1
  have f2 := frozK rU 2
  have f3 := frozK rU 3
  have f4 := frozK rU 4
  obtain ⟨s8, b8⟩ := set5 rU c 40 t 3 i
  have HB8 := Lib.hid ((HB0.out.trans ((hb5.trans (hbU.mono hb5.size)).mono HB0.out.size)).trans b8)
  have HS8 := Lib.hid s8
  clear hb5 hbU k2 rU s8 b8 h01 HB0 HK0
  go_wp2_with (first
    | (go_at_call 68; (with_reducible refine (H1.out _).mono ?_); rintro e w2 ⟨rfl, rfl⟩))
  clear q0 q1 q2 q3 q4 e0 e1 e2 e3 e4 f0 f1 f2 f3 f4 hU
  obtain ⟨q0, q1, q2, q3, q4⟩ := row5 HS8.out
  obtain ⟨V8, hV8⟩ : ∃ V, (((((U.setCell ⟨w.heap.size, 0, none⟩ (.int .i64 c)).setCell ⟨w.heap.size, 1, none⟩ (.int .i64 40)).setCell ⟨w.heap.size, 2, none⟩ (.int .i64 t)).setCell ⟨w.heap.size, 3, none⟩ (.int .i64 3)).setCell ⟨w.heap.size, 4, none⟩ (.int .i64 i)) = V := ⟨_, rfl⟩
  rw [hV8] at HB8 q0 q1 q2 q3 q4 ⊢
  exact bodyPost_ret (v := .agg #[.int .i64 c, .int .i64 40, .int .i64 t, .int .i64 3, .int .i64 i]) (by simp [results, Try.results51, go_sem, *]) rfl ⟨rfl, HB8.out⟩
theorem questionOf_any (n m : Int) (hn : I64 n) (hm : I64 m) (w : World) : Calls Try.prog 51 #[.int .i64 n, .int .i64 m] w fun e w' => e = .returned (quV (NM.quOf n m)) ∧ Below w.heap.size w w' := by
  have HA := Lib.hid (fun V => around_any n 1000000000 hn (by omega) (by omega) V)
  have hk := NM.arI_in n 1000000000 (by omega)
  have HC := Lib.hid (fun V => causeOf_any m hm V)
  unfold NM.quOf
  obtain ⟨k, hkk⟩ : ∃ k, NM.arI n 1000000000 = k := ⟨_, rfl⟩
  have hkk' : around n 1000000000 = k := hkk
  rw [hkk]
  rw [hkk'] at HA
  rw [hkk] at hk
  obtain ⟨k0, k1⟩ := hk
  have H1 := Lib.hid (fun V => small_any (k / 3) (by unfold I64; omega) V)
  unfold NM.quK
  by_cases h : k % 3 = 2
  · rw [h]
    exact questionOf_keep n m k _ _ _ _ k0 k1 h w HA HC H1
  · rw [if_neg (by omega)]
    exact questionOf_plain n m k _ _ _ _ k0 k1 (by simp; omega) w HA HC H1
end Go.Proofs.Ytiokiecnglmbnaa
