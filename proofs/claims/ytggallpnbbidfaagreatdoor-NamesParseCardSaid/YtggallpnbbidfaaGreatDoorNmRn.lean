/-
  The reference's tests and texts of events and questions that are not well-formed: false, and the empty text. No condition.
-/
import Derived.Test.YtggallpnbbidfaaGreatDoorNmRw
import Derived.Test.YtggallpnbbidfaaGreatDoorNmRe
import Derived.Test.YtggallpnbbidfaaGreatDoorNmRq
namespace Go.Proofs.YtggallpnbbidfaaGreatDoor
open Go Go.RowKit Go.Proofs
attribute [local go_sem] Oper.semAt_some

set_option maxHeartbeats 2000000 in
theorem refCause_f0 (c h t m : Int) (w : World) (d0 : decide (c ≥ 0) = false) : Calls Tryz.prog 59 #[.agg #[.int .i64 c, .int .i64 h, .int .i64 t], .int .i64 m] w fun e w' => e = .returned (.bool false) ∧ Below w.heap.size w w' := by
  obtain ⟨U, hU⟩ : ∃ U, w.alloc (.cells #[.int .i64 c, .int .i64 h, .int .i64 t] 24) = U := ⟨_, rfl⟩
  have hb : Below w.heap.size w U := hU ▸ one_box w _
  have hlt : w.heap.size < U.heap.size := by rw [← hU]; simp
  have k1 : U.heap[w.heap.size]? = some (.cells #[.int .i64 c, .int .i64 h, .int .i64 t] 24 (0, 0)) := by rw [← hU]; exact new_at rfl
  have HK := Lib.hid (fun (V : World) (hV : Below U.heap.size U V) => row3 ((hV.block _ hlt).trans k1))
  obtain ⟨x0, x1, x2⟩ := row3 k1
  have HB := Lib.hid hb
  clear k1 hb
  go_enter Tryz.func59, Tryz.ntmps59
  go_wp2_with fail
  go_ret
  exact ⟨rfl, HB.out⟩
set_option maxHeartbeats 2000000 in
theorem refCause_f1 (c h t m : Int) (w : World) (d0 : decide (c ≥ 0) = true) (d1 : decide (c < 12) = false) : Calls Tryz.prog 59 #[.agg #[.int .i64 c, .int .i64 h, .int .i64 t], .int .i64 m] w fun e w' => e = .returned (.bool false) ∧ Below w.heap.size w w' := by
  obtain ⟨U, hU⟩ : ∃ U, w.alloc (.cells #[.int .i64 c, .int .i64 h, .int .i64 t] 24) = U := ⟨_, rfl⟩
  have hb : Below w.heap.size w U := hU ▸ one_box w _
  have hlt : w.heap.size < U.heap.size := by rw [← hU]; simp
  have k1 : U.heap[w.heap.size]? = some (.cells #[.int .i64 c, .int .i64 h, .int .i64 t] 24 (0, 0)) := by rw [← hU]; exact new_at rfl
  have HK := Lib.hid (fun (V : World) (hV : Below U.heap.size U V) => row3 ((hV.block _ hlt).trans k1))
  obtain ⟨x0, x1, x2⟩ := row3 k1
  have HB := Lib.hid hb
  clear k1 hb
  go_enter Tryz.func59, Tryz.ntmps59
  go_wp2_with fail
  go_ret
  exact ⟨rfl, HB.out⟩
set_option maxHeartbeats 2000000 in
theorem refCause_f2 (c h t m : Int) (w : World) (d0 : decide (c ≥ 0) = true) (d1 : decide (c < 12) = true) (d2 : decide (h ≥ 0) = false) : Calls Tryz.prog 59 #[.agg #[.int .i64 c, .int .i64 h, .int .i64 t], .int .i64 m] w fun e w' => e = .returned (.bool false) ∧ Below w.heap.size w w' := by
  obtain ⟨U, hU⟩ : ∃ U, w.alloc (.cells #[.int .i64 c, .int .i64 h, .int .i64 t] 24) = U := ⟨_, rfl⟩
  have hb : Below w.heap.size w U := hU ▸ one_box w _
  have hlt : w.heap.size < U.heap.size := by rw [← hU]; simp
  have k1 : U.heap[w.heap.size]? = some (.cells #[.int .i64 c, .int .i64 h, .int .i64 t] 24 (0, 0)) := by rw [← hU]; exact new_at rfl
  have HK := Lib.hid (fun (V : World) (hV : Below U.heap.size U V) => row3 ((hV.block _ hlt).trans k1))
  obtain ⟨x0, x1, x2⟩ := row3 k1
  have HB := Lib.hid hb
  clear k1 hb
  go_enter Tryz.func59, Tryz.ntmps59
  go_wp2_with fail
  go_ret
  exact ⟨rfl, HB.out⟩
set_option maxHeartbeats 2000000 in
theorem refCause_f3 (c h t m : Int) (w : World) (d0 : decide (c ≥ 0) = true) (d1 : decide (c < 12) = true) (d2 : decide (h ≥ 0) = true) (d3 : decide (h < m) = false) : Calls Tryz.prog 59 #[.agg #[.int .i64 c, .int .i64 h, .int .i64 t], .int .i64 m] w fun e w' => e = .returned (.bool false) ∧ Below w.heap.size w w' := by
  obtain ⟨U, hU⟩ : ∃ U, w.alloc (.cells #[.int .i64 c, .int .i64 h, .int .i64 t] 24) = U := ⟨_, rfl⟩
  have hb : Below w.heap.size w U := hU ▸ one_box w _
  have hlt : w.heap.size < U.heap.size := by rw [← hU]; simp
  have k1 : U.heap[w.heap.size]? = some (.cells #[.int .i64 c, .int .i64 h, .int .i64 t] 24 (0, 0)) := by rw [← hU]; exact new_at rfl
  have HK := Lib.hid (fun (V : World) (hV : Below U.heap.size U V) => row3 ((hV.block _ hlt).trans k1))
  obtain ⟨x0, x1, x2⟩ := row3 k1
  have HB := Lib.hid hb
  clear k1 hb
  go_enter Tryz.func59, Tryz.ntmps59
  go_wp2_with fail
  go_ret
  exact ⟨rfl, HB.out⟩
set_option maxHeartbeats 2000000 in
theorem refCause_f4 (c h t m : Int) (w : World) (d0 : decide (c ≥ 0) = true) (d1 : decide (c < 12) = true) (d2 : decide (h ≥ 0) = true) (d3 : decide (h < m) = true) (hn : NM.upTo t NM.big = false) : Calls Tryz.prog 59 #[.agg #[.int .i64 c, .int .i64 h, .int .i64 t], .int .i64 m] w fun e w' => e = .returned (.bool false) ∧ Below w.heap.size w w' := by
  have HN := Lib.hid (fun V => number_any t V)
  rw [hn] at HN
  obtain ⟨U, hU⟩ : ∃ U, w.alloc (.cells #[.int .i64 c, .int .i64 h, .int .i64 t] 24) = U := ⟨_, rfl⟩
  have hb : Below w.heap.size w U := hU ▸ one_box w _
  have hlt : w.heap.size < U.heap.size := by rw [← hU]; simp
  have k1 : U.heap[w.heap.size]? = some (.cells #[.int .i64 c, .int .i64 h, .int .i64 t] 24 (0, 0)) := by rw [← hU]; exact new_at rfl
  have HK := Lib.hid (fun (V : World) (hV : Below U.heap.size U V) => row3 ((hV.block _ hlt).trans k1))
  obtain ⟨x0, x1, x2⟩ := row3 k1
  have HB := Lib.hid hb
  clear k1 hb
  go_enter Tryz.func59, Tryz.ntmps59
  go_wp2_with (go_at_call 58; refine (HN.out _).mono ?_; rintro e w1 ⟨rfl, rfl⟩)
  go_ret
  exact ⟨rfl, HB.out⟩
theorem refCause_no (c h t m : Int) (w : World) (h1 : NM.okC c h t (m - 1) = false) : Calls Tryz.prog 59 #[.agg #[.int .i64 c, .int .i64 h, .int .i64 t], .int .i64 m] w fun e w' => e = .returned (.bool false) ∧ Below w.heap.size w w' := by
  by_cases d0 : c ≥ 0
  · by_cases d1 : c < 12
    · by_cases d2 : h ≥ 0
      · by_cases d3 : h < m
        · have hn : NM.upTo t NM.big = false := by
            cases hq : NM.upTo t NM.big with
            | false => rfl
            | true =>
              rw [NM.okC_iff.2 ⟨⟨by omega, by omega⟩, ⟨by omega, by omega⟩, NM.upTo_iff.1 hq⟩] at h1
              cases h1
          exact refCause_f4 c h t m w (decide_eq_true d0) (decide_eq_true d1) (decide_eq_true d2) (decide_eq_true d3) hn
        · exact refCause_f3 c h t m w (decide_eq_true d0) (decide_eq_true d1) (decide_eq_true d2) (decide_eq_false d3)
      · exact refCause_f2 c h t m w (decide_eq_true d0) (decide_eq_true d1) (decide_eq_false d2)
    · exact refCause_f1 c h t m w (decide_eq_true d0) (decide_eq_false d1)
  · exact refCause_f0 c h t m w (decide_eq_false d0)
set_option maxHeartbeats 2000000 in
theorem well_n0 (k n a c h t i p : Int) (w : World) (d0 : decide (n < 0) = true) : Calls Tryz.prog 34 #[.agg #[.int .i64 k, .int .i64 n, .int .i64 a, .int .i64 c, .int .i64 h, .int .i64 t, .int .i64 i, .int .i64 p]] w fun e w' => e = .returned (.bool false) ∧ Below w.heap.size w w' := by
  obtain ⟨U, hU⟩ : ∃ U, w.alloc (.cells #[.int .i64 k, .int .i64 n, .int .i64 a, .int .i64 c, .int .i64 h, .int .i64 t, .int .i64 i, .int .i64 p] 28) = U := ⟨_, rfl⟩
  have hb : Below w.heap.size w U := hU ▸ one_box w _
  have hlt : w.heap.size < U.heap.size := by rw [← hU]; simp
  have k1 : U.heap[w.heap.size]? = some (.cells #[.int .i64 k, .int .i64 n, .int .i64 a, .int .i64 c, .int .i64 h, .int .i64 t, .int .i64 i, .int .i64 p] 28 (0, 0)) := by rw [← hU]; exact new_at rfl
  have HK := Lib.hid (fun (V : World) (hV : Below U.heap.size U V) => row8 ((hV.block _ hlt).trans k1))
  obtain ⟨x0, x1, x2, x3, x4, x5, x6, x7⟩ := row8 k1
  have HB := Lib.hid hb
  clear k1 hb
  go_enter Tryz.func34, Tryz.ntmps34
  go_wp2_with (fail)
  go_ret
  exact ⟨rfl, HB.out⟩
set_option maxHeartbeats 2000000 in
theorem well_n1 (k n a c h t i p : Int) (w : World) (d0 : decide (n < 0) = false) (d1 : decide (n > 11) = true) : Calls Tryz.prog 34 #[.agg #[.int .i64 k, .int .i64 n, .int .i64 a, .int .i64 c, .int .i64 h, .int .i64 t, .int .i64 i, .int .i64 p]] w fun e w' => e = .returned (.bool false) ∧ Below w.heap.size w w' := by
  obtain ⟨U, hU⟩ : ∃ U, w.alloc (.cells #[.int .i64 k, .int .i64 n, .int .i64 a, .int .i64 c, .int .i64 h, .int .i64 t, .int .i64 i, .int .i64 p] 28) = U := ⟨_, rfl⟩
  have hb : Below w.heap.size w U := hU ▸ one_box w _
  have hlt : w.heap.size < U.heap.size := by rw [← hU]; simp
  have k1 : U.heap[w.heap.size]? = some (.cells #[.int .i64 k, .int .i64 n, .int .i64 a, .int .i64 c, .int .i64 h, .int .i64 t, .int .i64 i, .int .i64 p] 28 (0, 0)) := by rw [← hU]; exact new_at rfl
  have HK := Lib.hid (fun (V : World) (hV : Below U.heap.size U V) => row8 ((hV.block _ hlt).trans k1))
  obtain ⟨x0, x1, x2, x3, x4, x5, x6, x7⟩ := row8 k1
  have HB := Lib.hid hb
  clear k1 hb
  go_enter Tryz.func34, Tryz.ntmps34
  go_wp2_with (fail)
  go_ret
  exact ⟨rfl, HB.out⟩
set_option maxHeartbeats 2000000 in
theorem well_k (k n a c h t i p : Int) (w : World) (hn : 0 ≤ n ∧ n ≤ 11) (hk : k ≠ 1 ∧ k ≠ 2 ∧ k ≠ 3 ∧ k ≠ 4 ∧ k ≠ 5 ∧ k ≠ 6 ∧ k ≠ 7) : Calls Tryz.prog 34 #[.agg #[.int .i64 k, .int .i64 n, .int .i64 a, .int .i64 c, .int .i64 h, .int .i64 t, .int .i64 i, .int .i64 p]] w fun e w' => e = .returned (.bool false) ∧ Below w.heap.size w w' := by
  have d0 : decide (n < 0) = false := decide_eq_false (by omega)
  have d1 : decide (n > 11) = false := decide_eq_false (by omega)
  clear hn
  obtain ⟨k1_, k2_, k3_, k4_, k5_, k6_, k7_⟩ := hk
  have e1 : (k == 1) = false := by simpa using k1_
  have e2 : (k == 2) = false := by simpa using k2_
  have e3 : (k == 3) = false := by simpa using k3_
  have e4 : (k == 4) = false := by simpa using k4_
  have e5 : (k == 5) = false := by simpa using k5_
  have e6 : (k == 6) = false := by simpa using k6_
  have e7 : (k == 7) = false := by simpa using k7_
  clear k1_ k2_ k3_ k4_ k5_ k6_ k7_
  obtain ⟨U, hU⟩ : ∃ U, w.alloc (.cells #[.int .i64 k, .int .i64 n, .int .i64 a, .int .i64 c, .int .i64 h, .int .i64 t, .int .i64 i, .int .i64 p] 28) = U := ⟨_, rfl⟩
  have hb : Below w.heap.size w U := hU ▸ one_box w _
  have hlt : w.heap.size < U.heap.size := by rw [← hU]; simp
  have k1 : U.heap[w.heap.size]? = some (.cells #[.int .i64 k, .int .i64 n, .int .i64 a, .int .i64 c, .int .i64 h, .int .i64 t, .int .i64 i, .int .i64 p] 28 (0, 0)) := by rw [← hU]; exact new_at rfl
  have HK := Lib.hid (fun (V : World) (hV : Below U.heap.size U V) => row8 ((hV.block _ hlt).trans k1))
  obtain ⟨x0, x1, x2, x3, x4, x5, x6, x7⟩ := row8 k1
  have HB := Lib.hid hb
  clear k1 hb
  go_enter Tryz.func34, Tryz.ntmps34
  go_wp2_with (fail)
  go_ret
  exact ⟨rfl, HB.out⟩
set_option maxHeartbeats 2000000 in
theorem well_a0 (k n a c h t i p : Int) (w : World) (hk : k = 1 ∨ k = 2 ∨ k = 4) (hn : 0 ≤ n ∧ n ≤ 11) (ha : NM.upTo a NM.big = false) : Calls Tryz.prog 34 #[.agg #[.int .i64 k, .int .i64 n, .int .i64 a, .int .i64 c, .int .i64 h, .int .i64 t, .int .i64 i, .int .i64 p]] w fun e w' => e = .returned (.bool false) ∧ Below w.heap.size w w' := by
  have HN := Lib.hid (fun V => number_any a V)
  rw [ha] at HN
  clear ha
  have d0 : decide (n < 0) = false := decide_eq_false (by omega)
  have d1 : decide (n > 11) = false := decide_eq_false (by omega)
  clear hn
  obtain ⟨U, hU⟩ : ∃ U, w.alloc (.cells #[.int .i64 k, .int .i64 n, .int .i64 a, .int .i64 c, .int .i64 h, .int .i64 t, .int .i64 i, .int .i64 p] 28) = U := ⟨_, rfl⟩
  have hb : Below w.heap.size w U := hU ▸ one_box w _
  have hlt : w.heap.size < U.heap.size := by rw [← hU]; simp
  have k1 : U.heap[w.heap.size]? = some (.cells #[.int .i64 k, .int .i64 n, .int .i64 a, .int .i64 c, .int .i64 h, .int .i64 t, .int .i64 i, .int .i64 p] 28 (0, 0)) := by rw [← hU]; exact new_at rfl
  have HK := Lib.hid (fun (V : World) (hV : Below U.heap.size U V) => row8 ((hV.block _ hlt).trans k1))
  obtain ⟨x0, x1, x2, x3, x4, x5, x6, x7⟩ := row8 k1
  have HB := Lib.hid hb
  clear k1 hb
  rcases hk with rfl | rfl | rfl
  all_goals
    go_enter Tryz.func34, Tryz.ntmps34
    go_wp2_with ((go_at_call 58; (with_reducible refine (HN.out _).mono ?_); rintro e w1 ⟨rfl, rfl⟩))
    go_ret
    exact ⟨rfl, HB.out⟩
set_option maxHeartbeats 2000000 in
theorem well_a1 (k n a c h t i p : Int) (w : World) (hk : k = 1 ∨ k = 2 ∨ k = 4) (hn : 0 ≤ n ∧ n ≤ 11) (ha : NM.upTo a NM.big = true) (hq : ∀ V, (binOp .eql 26 (.agg #[.int .i64 c, .int .i64 h, .int .i64 t, .int .i64 i, .int .i64 p]) (.agg #[.int .i64 0, .int .i64 0, .int .i64 0, .int .i64 0, .int .i64 0])).run Tryz.prog V = .ok (.bool false) V) : Calls Tryz.prog 34 #[.agg #[.int .i64 k, .int .i64 n, .int .i64 a, .int .i64 c, .int .i64 h, .int .i64 t, .int .i64 i, .int .i64 p]] w fun e w' => e = .returned (.bool false) ∧ Below w.heap.size w w' := by
  have HN := Lib.hid (fun V => number_any a V)
  rw [ha] at HN
  clear ha
  have d0 : decide (n < 0) = false := decide_eq_false (by omega)
  have d1 : decide (n > 11) = false := decide_eq_false (by omega)
  clear hn
  obtain ⟨U, hU⟩ : ∃ U, w.alloc (.cells #[.int .i64 k, .int .i64 n, .int .i64 a, .int .i64 c, .int .i64 h, .int .i64 t, .int .i64 i, .int .i64 p] 28) = U := ⟨_, rfl⟩
  have hb : Below w.heap.size w U := hU ▸ one_box w _
  have hlt : w.heap.size < U.heap.size := by rw [← hU]; simp
  have k1 : U.heap[w.heap.size]? = some (.cells #[.int .i64 k, .int .i64 n, .int .i64 a, .int .i64 c, .int .i64 h, .int .i64 t, .int .i64 i, .int .i64 p] 28 (0, 0)) := by rw [← hU]; exact new_at rfl
  have HK := Lib.hid (fun (V : World) (hV : Below U.heap.size U V) => row8 ((hV.block _ hlt).trans k1))
  obtain ⟨x0, x1, x2, x3, x4, x5, x6, x7⟩ := row8 k1
  have HB := Lib.hid hb
  clear k1 hb
  rcases hk with rfl | rfl | rfl
  all_goals
    go_enter Tryz.func34, Tryz.ntmps34
    go_wp2_with ((go_at_call 58; (with_reducible refine (HN.out _).mono ?_); rintro e w1 ⟨rfl, rfl⟩))
    go_ret
    exact ⟨rfl, HB.out⟩
set_option maxHeartbeats 2000000 in
theorem well_b0 (n a c h t i p : Int) (w : World) (hn : 0 ≤ n ∧ n ≤ 11) (ha : (a == 0) = false) : Calls Tryz.prog 34 #[.agg #[.int .i64 7, .int .i64 n, .int .i64 a, .int .i64 c, .int .i64 h, .int .i64 t, .int .i64 i, .int .i64 p]] w fun e w' => e = .returned (.bool false) ∧ Below w.heap.size w w' := by
  have d0 : decide (n < 0) = false := decide_eq_false (by omega)
  have d1 : decide (n > 11) = false := decide_eq_false (by omega)
  clear hn
  obtain ⟨U, hU⟩ : ∃ U, w.alloc (.cells #[.int .i64 7, .int .i64 n, .int .i64 a, .int .i64 c, .int .i64 h, .int .i64 t, .int .i64 i, .int .i64 p] 28) = U := ⟨_, rfl⟩
  have hb : Below w.heap.size w U := hU ▸ one_box w _
  have hlt : w.heap.size < U.heap.size := by rw [← hU]; simp
  have k1 : U.heap[w.heap.size]? = some (.cells #[.int .i64 7, .int .i64 n, .int .i64 a, .int .i64 c, .int .i64 h, .int .i64 t, .int .i64 i, .int .i64 p] 28 (0, 0)) := by rw [← hU]; exact new_at rfl
  have HK := Lib.hid (fun (V : World) (hV : Below U.heap.size U V) => row8 ((hV.block _ hlt).trans k1))
  obtain ⟨x0, x1, x2, x3, x4, x5, x6, x7⟩ := row8 k1
  have HB := Lib.hid hb
  clear k1 hb
  go_enter Tryz.func34, Tryz.ntmps34
  go_wp2_with (fail)
  go_ret
  exact ⟨rfl, HB.out⟩
set_option maxHeartbeats 2000000 in
theorem well_b1 (n c h t i p : Int) (w : World) (hn : 0 ≤ n ∧ n ≤ 11) (hq : ∀ V, (binOp .eql 26 (.agg #[.int .i64 c, .int .i64 h, .int .i64 t, .int .i64 i, .int .i64 p]) (.agg #[.int .i64 0, .int .i64 0, .int .i64 0, .int .i64 0, .int .i64 0])).run Tryz.prog V = .ok (.bool false) V) : Calls Tryz.prog 34 #[.agg #[.int .i64 7, .int .i64 n, .int .i64 0, .int .i64 c, .int .i64 h, .int .i64 t, .int .i64 i, .int .i64 p]] w fun e w' => e = .returned (.bool false) ∧ Below w.heap.size w w' := by
  have d0 : decide (n < 0) = false := decide_eq_false (by omega)
  have d1 : decide (n > 11) = false := decide_eq_false (by omega)
  clear hn
  obtain ⟨U, hU⟩ : ∃ U, w.alloc (.cells #[.int .i64 7, .int .i64 n, .int .i64 0, .int .i64 c, .int .i64 h, .int .i64 t, .int .i64 i, .int .i64 p] 28) = U := ⟨_, rfl⟩
  have hb : Below w.heap.size w U := hU ▸ one_box w _
  have hlt : w.heap.size < U.heap.size := by rw [← hU]; simp
  have k1 : U.heap[w.heap.size]? = some (.cells #[.int .i64 7, .int .i64 n, .int .i64 0, .int .i64 c, .int .i64 h, .int .i64 t, .int .i64 i, .int .i64 p] 28 (0, 0)) := by rw [← hU]; exact new_at rfl
  have HK := Lib.hid (fun (V : World) (hV : Below U.heap.size U V) => row8 ((hV.block _ hlt).trans k1))
  obtain ⟨x0, x1, x2, x3, x4, x5, x6, x7⟩ := row8 k1
  have HB := Lib.hid hb
  clear k1 hb
  go_enter Tryz.func34, Tryz.ntmps34
  go_wp2_with (fail)
  go_ret
  exact ⟨rfl, HB.out⟩
set_option maxHeartbeats 2000000 in
theorem well_m0 (k n a c h t i p : Int) (w : World) (hk : k = 3 ∨ k = 5 ∨ k = 6) (hn : 0 ≤ n ∧ n ≤ 11) (ha : (a == 0) = false) : Calls Tryz.prog 34 #[.agg #[.int .i64 k, .int .i64 n, .int .i64 a, .int .i64 c, .int .i64 h, .int .i64 t, .int .i64 i, .int .i64 p]] w fun e w' => e = .returned (.bool false) ∧ Below w.heap.size w w' := by
  have d0 : decide (n < 0) = false := decide_eq_false (by omega)
  have d1 : decide (n > 11) = false := decide_eq_false (by omega)
  clear hn
  obtain ⟨U, hU⟩ : ∃ U, w.alloc (.cells #[.int .i64 k, .int .i64 n, .int .i64 a, .int .i64 c, .int .i64 h, .int .i64 t, .int .i64 i, .int .i64 p] 28) = U := ⟨_, rfl⟩
  have hb : Below w.heap.size w U := hU ▸ one_box w _
  have hlt : w.heap.size < U.heap.size := by rw [← hU]; simp
  have k1 : U.heap[w.heap.size]? = some (.cells #[.int .i64 k, .int .i64 n, .int .i64 a, .int .i64 c, .int .i64 h, .int .i64 t, .int .i64 i, .int .i64 p] 28 (0, 0)) := by rw [← hU]; exact new_at rfl
  have HK := Lib.hid (fun (V : World) (hV : Below U.heap.size U V) => row8 ((hV.block _ hlt).trans k1))
  obtain ⟨x0, x1, x2, x3, x4, x5, x6, x7⟩ := row8 k1
  have HB := Lib.hid hb
  clear k1 hb
  rcases hk with rfl | rfl | rfl
  all_goals
    go_enter Tryz.func34, Tryz.ntmps34
    go_wp2_with (fail)
    go_ret
    exact ⟨rfl, HB.out⟩
set_option maxHeartbeats 2000000 in
theorem well_m1 (k n c h t i p : Int) (w : World) (hk : k = 3 ∨ k = 5 ∨ k = 6) (hn : 0 ≤ n ∧ n ≤ 11) (hc : NM.okC c h t 39 = false) : Calls Tryz.prog 34 #[.agg #[.int .i64 k, .int .i64 n, .int .i64 0, .int .i64 c, .int .i64 h, .int .i64 t, .int .i64 i, .int .i64 p]] w fun e w' => e = .returned (.bool false) ∧ Below w.heap.size w w' := by
  have HC := Lib.hid (fun V => refCause_no c h t 40 V hc)
  clear hc
  have d0 : decide (n < 0) = false := decide_eq_false (by omega)
  have d1 : decide (n > 11) = false := decide_eq_false (by omega)
  clear hn
  obtain ⟨U, hU⟩ : ∃ U, w.alloc (.cells #[.int .i64 k, .int .i64 n, .int .i64 0, .int .i64 c, .int .i64 h, .int .i64 t, .int .i64 i, .int .i64 p] 28) = U := ⟨_, rfl⟩
  have hb : Below w.heap.size w U := hU ▸ one_box w _
  have hlt : w.heap.size < U.heap.size := by rw [← hU]; simp
  have k1 : U.heap[w.heap.size]? = some (.cells #[.int .i64 k, .int .i64 n, .int .i64 0, .int .i64 c, .int .i64 h, .int .i64 t, .int .i64 i, .int .i64 p] 28 (0, 0)) := by rw [← hU]; exact new_at rfl
  have HK := Lib.hid (fun (V : World) (hV : Below U.heap.size U V) => row8 ((hV.block _ hlt).trans k1))
  obtain ⟨x0, x1, x2, x3, x4, x5, x6, x7⟩ := row8 k1
  have HB := Lib.hid hb
  clear k1 hb
  rcases hk with rfl | rfl | rfl
  all_goals
    go_enter Tryz.func34, Tryz.ntmps34
    go_wp2_with ((go_at_call 59; (with_reducible refine (HC.out _).mono ?_); rintro e w2 ⟨rfl, hb2⟩; obtain ⟨c0, c1, c2, c3, c4, c5, c6, c7⟩ := HK.out w2 hb2; have HB2 := Lib.hid hb2; clear hb2))
    go_ret
    exact ⟨rfl, HB.out.trans (HB2.out.mono HB.out.size)⟩
set_option maxHeartbeats 2000000 in
theorem well_m2 (k n c h t i p : Int) (w : World) (hk : k = 3 ∨ k = 5 ∨ k = 6) (hn : 0 ≤ n ∧ n ≤ 11) (hc : NM.okC c h t 39 = true) (hi : NM.upTo i NM.big = false) : Calls Tryz.prog 34 #[.agg #[.int .i64 k, .int .i64 n, .int .i64 0, .int .i64 c, .int .i64 h, .int .i64 t, .int .i64 i, .int .i64 p]] w fun e w' => e = .returned (.bool false) ∧ Below w.heap.size w w' := by
  have HC := Lib.hid (fun V => refCause_any c h t 40 V hc)
  have HI := Lib.hid (fun V => number_any i V)
  rw [hi] at HI
  clear hc hi
  have d0 : decide (n < 0) = false := decide_eq_false (by omega)
  have d1 : decide (n > 11) = false := decide_eq_false (by omega)
  clear hn
  obtain ⟨U, hU⟩ : ∃ U, w.alloc (.cells #[.int .i64 k, .int .i64 n, .int .i64 0, .int .i64 c, .int .i64 h, .int .i64 t, .int .i64 i, .int .i64 p] 28) = U := ⟨_, rfl⟩
  have hb : Below w.heap.size w U := hU ▸ one_box w _
  have hlt : w.heap.size < U.heap.size := by rw [← hU]; simp
  have k1 : U.heap[w.heap.size]? = some (.cells #[.int .i64 k, .int .i64 n, .int .i64 0, .int .i64 c, .int .i64 h, .int .i64 t, .int .i64 i, .int .i64 p] 28 (0, 0)) := by rw [← hU]; exact new_at rfl
  have HK := Lib.hid (fun (V : World) (hV : Below U.heap.size U V) => row8 ((hV.block _ hlt).trans k1))
  obtain ⟨x0, x1, x2, x3, x4, x5, x6, x7⟩ := row8 k1
  have HB := Lib.hid hb
  clear k1 hb
  rcases hk with rfl | rfl | rfl
  all_goals
    go_enter Tryz.func34, Tryz.ntmps34
    go_wp2_with (first | (go_at_call 59; (with_reducible refine (HC.out _).mono ?_); rintro e w2 ⟨rfl, hb2⟩; obtain ⟨c0, c1, c2, c3, c4, c5, c6, c7⟩ := HK.out w2 hb2; have HB2 := Lib.hid hb2; clear hb2) | (go_at_call 58; (with_reducible refine (HI.out _).mono ?_); rintro e w1 ⟨rfl, rfl⟩))
    go_ret
    exact ⟨rfl, HB.out.trans (HB2.out.mono HB.out.size)⟩
set_option maxHeartbeats 2000000 in
theorem well_m3 (k n c h t i p : Int) (w : World) (hk : k = 3 ∨ k = 5 ∨ k = 6) (hn : 0 ≤ n ∧ n ≤ 11) (hc : NM.okC c h t 39 = true) (hi : NM.upTo i NM.big = true) (hp : NM.upTo p NM.big = false) : Calls Tryz.prog 34 #[.agg #[.int .i64 k, .int .i64 n, .int .i64 0, .int .i64 c, .int .i64 h, .int .i64 t, .int .i64 i, .int .i64 p]] w fun e w' => e = .returned (.bool false) ∧ Below w.heap.size w w' := by
  have HC := Lib.hid (fun V => refCause_any c h t 40 V hc)
  have HI := Lib.hid (fun V => number_any i V)
  have HP := Lib.hid (fun V => number_any p V)
  rw [hi] at HI
  rw [hp] at HP
  clear hc hi hp
  have d0 : decide (n < 0) = false := decide_eq_false (by omega)
  have d1 : decide (n > 11) = false := decide_eq_false (by omega)
  clear hn
  obtain ⟨U, hU⟩ : ∃ U, w.alloc (.cells #[.int .i64 k, .int .i64 n, .int .i64 0, .int .i64 c, .int .i64 h, .int .i64 t, .int .i64 i, .int .i64 p] 28) = U := ⟨_, rfl⟩
  have hb : Below w.heap.size w U := hU ▸ one_box w _
  have hlt : w.heap.size < U.heap.size := by rw [← hU]; simp
  have k1 : U.heap[w.heap.size]? = some (.cells #[.int .i64 k, .int .i64 n, .int .i64 0, .int .i64 c, .int .i64 h, .int .i64 t, .int .i64 i, .int .i64 p] 28 (0, 0)) := by rw [← hU]; exact new_at rfl
  have HK := Lib.hid (fun (V : World) (hV : Below U.heap.size U V) => row8 ((hV.block _ hlt).trans k1))
  obtain ⟨x0, x1, x2, x3, x4, x5, x6, x7⟩ := row8 k1
  have HB := Lib.hid hb
  clear k1 hb
  rcases hk with rfl | rfl | rfl
  all_goals
    go_enter Tryz.func34, Tryz.ntmps34
    go_wp2_with (first | (go_at_call 59; (with_reducible refine (HC.out _).mono ?_); rintro e w2 ⟨rfl, hb2⟩; obtain ⟨c0, c1, c2, c3, c4, c5, c6, c7⟩ := HK.out w2 hb2; have HB2 := Lib.hid hb2; clear hb2) | ((go_at_call 58; (with_reducible refine (HI.out _).mono ?_); rintro e w3 ⟨rfl, rfl⟩); clear HI) | (go_at_call 58; (with_reducible refine (HP.out _).mono ?_); rintro e w4 ⟨rfl, rfl⟩))
    go_ret
    exact ⟨rfl, HB.out.trans (HB2.out.mono HB.out.size)⟩
theorem eqM_no {c h t i p : Int} (hm : (⟨c, h, t, i, p⟩ : NM.Ms) ≠ NM.m0) (V : World) : (binOp .eql 26 (.agg #[.int .i64 c, .int .i64 h, .int .i64 t, .int .i64 i, .int .i64 p]) (.agg #[.int .i64 0, .int .i64 0, .int .i64 0, .int .i64 0, .int .i64 0])).run Tryz.prog V = .ok (.bool false) V := by
  have := eqM_any ⟨c, h, t, i, p⟩ NM.m0 V
  rw [decide_eq_false hm] at this
  exact this
theorem fits_arg {k n a : Int} {m : NM.Ms} (hA : NM.argK k = true) (hM : NM.msgK k = false) (hw : NM.word k ≠ []) (hn : 0 ≤ n ∧ n ≤ 11) (ha : NM.Nn a) (hm : m = NM.m0) : NM.fits ⟨k, n, a, m⟩ = true := by
  subst hm
  exact NM.fits_iff.2 ⟨hw, by unfold NM.written; simp [hA, hM], hn, ha, NM.okM_zero⟩
theorem fits_msg {k n : Int} {m : NM.Ms} (hA : NM.argK k = false) (hM : NM.msgK k = true) (hw : NM.word k ≠ []) (hn : 0 ≤ n ∧ n ≤ 11) (hm : NM.okM m = true) : NM.fits ⟨k, n, 0, m⟩ = true :=
  NM.fits_iff.2 ⟨hw, by unfold NM.written; simp [hA, hM], hn, ⟨Int.le_refl _, by show (0 : Int) ≤ NM.big; decide⟩, hm⟩
theorem fits_bare {k n : Int} (hA : NM.argK k = false) (hM : NM.msgK k = false) (hw : NM.word k ≠ []) (hn : 0 ≤ n ∧ n ≤ 11) : NM.fits ⟨k, n, 0, NM.m0⟩ = true :=
  NM.fits_iff.2 ⟨hw, by unfold NM.written; simp [hA, hM], hn, ⟨Int.le_refl _, by show (0 : Int) ≤ NM.big; decide⟩, NM.okM_zero⟩
theorem bool_no {b : Bool} (h : b = true → False) : b = false := by cases b; rfl; exact (h rfl).elim
theorem well_no (k n a c h t i p : Int) (w : World) (hf : NM.fits ⟨k, n, a, ⟨c, h, t, i, p⟩⟩ = false) : Calls Tryz.prog 34 #[.agg #[.int .i64 k, .int .i64 n, .int .i64 a, .int .i64 c, .int .i64 h, .int .i64 t, .int .i64 i, .int .i64 p]] w fun e w' => e = .returned (.bool false) ∧ Below w.heap.size w w' := by
  by_cases n0 : n < 0
  · exact well_n0 k n a c h t i p w (decide_eq_true n0)
  by_cases n1 : n > 11
  · exact well_n1 k n a c h t i p w (decide_eq_false n0) (decide_eq_true n1)
  have hn : 0 ≤ n ∧ n ≤ 11 := by omega
  have hno : NM.fits ⟨k, n, a, ⟨c, h, t, i, p⟩⟩ = true → False := fun e => by rw [hf] at e; cases e
  by_cases kA : k = 1 ∨ k = 2 ∨ k = 4
  · have hA : NM.argK k = true ∧ NM.msgK k = false ∧ NM.word k ≠ [] := by rcases kA with rfl | rfl | rfl <;> decide
    cases ha : NM.upTo a NM.big with
    | false => exact well_a0 k n a c h t i p w kA hn ha
    | true => exact well_a1 k n a c h t i p w kA hn ha (eqM_no fun e => hno (fits_arg hA.1 hA.2.1 hA.2.2 hn (NM.upTo_iff.1 ha) e))
  by_cases kM : k = 3 ∨ k = 5 ∨ k = 6
  · have hA : NM.argK k = false ∧ NM.msgK k = true ∧ NM.word k ≠ [] := by rcases kM with rfl | rfl | rfl <;> decide
    by_cases ha : a = 0
    · subst ha
      cases hc : NM.okC c h t 39 with
      | false => exact well_m1 k n c h t i p w kM hn hc
      | true =>
        cases hi : NM.upTo i NM.big with
        | false => exact well_m2 k n c h t i p w kM hn hc hi
        | true => exact well_m3 k n c h t i p w kM hn hc hi (bool_no fun hp => hno (fits_msg hA.1 hA.2.1 hA.2.2 hn (NM.okM_iff.2 ⟨NM.okC_iff.1 hc, NM.upTo_iff.1 hi, NM.upTo_iff.1 hp⟩)))
    · exact well_m0 k n a c h t i p w kM hn (by simpa using ha)
  by_cases kB : k = 7
  · subst kB
    by_cases ha : a = 0
    · subst ha
      exact well_b1 n c h t i p w hn (eqM_no fun e => hno (by rw [e]; exact fits_bare (by decide) (by decide) (by decide) hn))
    · exact well_b0 n a c h t i p w hn (by simpa using ha)
  exact well_k k n a c h t i p w hn ⟨by omega, by omega, by omega, by omega, by omega, by omega, by omega⟩
set_option maxHeartbeats 2000000 in
theorem wq_0 (c h t k i : Int) (w : World) (d0 : decide (k ≥ 1) = false) : Calls Tryz.prog 42 #[.agg #[.int .i64 c, .int .i64 h, .int .i64 t, .int .i64 k, .int .i64 i]] w fun e w' => e = .returned (.bool false) ∧ Below w.heap.size w w' := by
  obtain ⟨U, hU⟩ : ∃ U, w.alloc (.cells #[.int .i64 c, .int .i64 h, .int .i64 t, .int .i64 k, .int .i64 i] 36) = U := ⟨_, rfl⟩
  have hb : Below w.heap.size w U := hU ▸ one_box w _
  have hlt : w.heap.size < U.heap.size := by rw [← hU]; simp
  have k1 : U.heap[w.heap.size]? = some (.cells #[.int .i64 c, .int .i64 h, .int .i64 t, .int .i64 k, .int .i64 i] 36 (0, 0)) := by rw [← hU]; exact new_at rfl
  have HK := Lib.hid (fun (V : World) (hV : Below U.heap.size U V) => row5 ((hV.block _ hlt).trans k1))
  obtain ⟨x0, x1, x2, x3, x4⟩ := row5 k1
  have HB := Lib.hid hb
  clear k1 hb
  go_enter Tryz.func42, Tryz.ntmps42
  go_wp2_with (fail)
  go_ret
  exact ⟨rfl, HB.out⟩
set_option maxHeartbeats 2000000 in
theorem wq_1 (c h t k i : Int) (w : World) (d0 : decide (k ≥ 1) = true) (d1 : decide (k ≤ 3) = false) : Calls Tryz.prog 42 #[.agg #[.int .i64 c, .int .i64 h, .int .i64 t, .int .i64 k, .int .i64 i]] w fun e w' => e = .returned (.bool false) ∧ Below w.heap.size w w' := by
  obtain ⟨U, hU⟩ : ∃ U, w.alloc (.cells #[.int .i64 c, .int .i64 h, .int .i64 t, .int .i64 k, .int .i64 i] 36) = U := ⟨_, rfl⟩
  have hb : Below w.heap.size w U := hU ▸ one_box w _
  have hlt : w.heap.size < U.heap.size := by rw [← hU]; simp
  have k1 : U.heap[w.heap.size]? = some (.cells #[.int .i64 c, .int .i64 h, .int .i64 t, .int .i64 k, .int .i64 i] 36 (0, 0)) := by rw [← hU]; exact new_at rfl
  have HK := Lib.hid (fun (V : World) (hV : Below U.heap.size U V) => row5 ((hV.block _ hlt).trans k1))
  obtain ⟨x0, x1, x2, x3, x4⟩ := row5 k1
  have HB := Lib.hid hb
  clear k1 hb
  go_enter Tryz.func42, Tryz.ntmps42
  go_wp2_with (fail)
  go_ret
  exact ⟨rfl, HB.out⟩
set_option maxHeartbeats 2000000 in
theorem wq_2 (c h t k i : Int) (w : World) (d0 : decide (k ≥ 1) = true) (d1 : decide (k ≤ 3) = true) (hc : NM.okC c h t 40 = false) : Calls Tryz.prog 42 #[.agg #[.int .i64 c, .int .i64 h, .int .i64 t, .int .i64 k, .int .i64 i]] w fun e w' => e = .returned (.bool false) ∧ Below w.heap.size w w' := by
  have HC := Lib.hid (fun V => refCause_no c h t 41 V hc)
  clear hc
  obtain ⟨U, hU⟩ : ∃ U, w.alloc (.cells #[.int .i64 c, .int .i64 h, .int .i64 t, .int .i64 k, .int .i64 i] 36) = U := ⟨_, rfl⟩
  have hb : Below w.heap.size w U := hU ▸ one_box w _
  have hlt : w.heap.size < U.heap.size := by rw [← hU]; simp
  have k1 : U.heap[w.heap.size]? = some (.cells #[.int .i64 c, .int .i64 h, .int .i64 t, .int .i64 k, .int .i64 i] 36 (0, 0)) := by rw [← hU]; exact new_at rfl
  have HK := Lib.hid (fun (V : World) (hV : Below U.heap.size U V) => row5 ((hV.block _ hlt).trans k1))
  obtain ⟨x0, x1, x2, x3, x4⟩ := row5 k1
  have HB := Lib.hid hb
  clear k1 hb
  go_enter Tryz.func42, Tryz.ntmps42
  go_wp2_with ((go_at_call 59; (with_reducible refine (HC.out _).mono ?_); rintro e w2 ⟨rfl, hb2⟩; obtain ⟨c0, c1, c2, c3, c4⟩ := HK.out w2 hb2; have HB2 := Lib.hid hb2; clear hb2))
  go_ret
  exact ⟨rfl, HB.out.trans (HB2.out.mono HB.out.size)⟩
set_option maxHeartbeats 2000000 in
theorem wq_3 (c h t k i : Int) (w : World) (d0 : decide (k ≥ 1) = true) (d1 : decide (k ≤ 3) = true) (hc : NM.okC c h t 40 = true) (hi : NM.upTo i NM.big = false) : Calls Tryz.prog 42 #[.agg #[.int .i64 c, .int .i64 h, .int .i64 t, .int .i64 k, .int .i64 i]] w fun e w' => e = .returned (.bool false) ∧ Below w.heap.size w w' := by
  have HC := Lib.hid (fun V => refCause_any c h t 41 V hc)
  have HI := Lib.hid (fun V => number_any i V)
  rw [hi] at HI
  clear hc hi
  obtain ⟨U, hU⟩ : ∃ U, w.alloc (.cells #[.int .i64 c, .int .i64 h, .int .i64 t, .int .i64 k, .int .i64 i] 36) = U := ⟨_, rfl⟩
  have hb : Below w.heap.size w U := hU ▸ one_box w _
  have hlt : w.heap.size < U.heap.size := by rw [← hU]; simp
  have k1 : U.heap[w.heap.size]? = some (.cells #[.int .i64 c, .int .i64 h, .int .i64 t, .int .i64 k, .int .i64 i] 36 (0, 0)) := by rw [← hU]; exact new_at rfl
  have HK := Lib.hid (fun (V : World) (hV : Below U.heap.size U V) => row5 ((hV.block _ hlt).trans k1))
  obtain ⟨x0, x1, x2, x3, x4⟩ := row5 k1
  have HB := Lib.hid hb
  clear k1 hb
  go_enter Tryz.func42, Tryz.ntmps42
  go_wp2_with (first | (go_at_call 59; (with_reducible refine (HC.out _).mono ?_); rintro e w2 ⟨rfl, hb2⟩; obtain ⟨c0, c1, c2, c3, c4⟩ := HK.out w2 hb2; have HB2 := Lib.hid hb2; clear hb2) | (go_at_call 58; (with_reducible refine (HI.out _).mono ?_); rintro e w1 ⟨rfl, rfl⟩))
  go_ret
  exact ⟨rfl, HB.out.trans (HB2.out.mono HB.out.size)⟩
theorem wq_no (c h t k i : Int) (w : World) (hf : NM.okQ ⟨c, h, t, k, i⟩ = false) : Calls Tryz.prog 42 #[.agg #[.int .i64 c, .int .i64 h, .int .i64 t, .int .i64 k, .int .i64 i]] w fun e w' => e = .returned (.bool false) ∧ Below w.heap.size w w' := by
  by_cases d0 : k ≥ 1
  · by_cases d1 : k ≤ 3
    · cases hc : NM.okC c h t 40 with
      | false => exact wq_2 c h t k i w (decide_eq_true d0) (decide_eq_true d1) hc
      | true =>
        refine wq_3 c h t k i w (decide_eq_true d0) (decide_eq_true d1) hc (bool_no fun hi => ?_)
        rw [NM.okQ_iff.2 ⟨NM.qword_kind (by omega) d1, NM.okC_iff.1 hc, NM.upTo_iff.1 hi⟩] at hf
        cases hf
    · exact wq_1 c h t k i w (decide_eq_true d0) (decide_eq_false d1)
  · exact wq_0 c h t k i w (decide_eq_false d0)
theorem refEvent_no (k n a c h t i p : Int) (w : World) (hf : NM.fits ⟨k, n, a, ⟨c, h, t, i, p⟩⟩ = false) : Calls Tryz.prog 14 #[.agg #[.int .i64 k, .int .i64 n, .int .i64 a, .int .i64 c, .int .i64 h, .int .i64 t, .int .i64 i, .int .i64 p]] w fun e w' => e = .returned (.string (NM.bs [])) ∧ Below w.heap.size w w' := by
  have HW := Lib.hid (fun V => well_no k n a c h t i p V hf)
  clear hf
  obtain ⟨U, hU⟩ : ∃ U, w.alloc (.cells #[.int .i64 k, .int .i64 n, .int .i64 a, .int .i64 c, .int .i64 h, .int .i64 t, .int .i64 i, .int .i64 p] 28) = U := ⟨_, rfl⟩
  have hb : Below w.heap.size w U := hU ▸ one_box w _
  have hlt : w.heap.size < U.heap.size := by rw [← hU]; simp
  have k1 : U.heap[w.heap.size]? = some (.cells #[.int .i64 k, .int .i64 n, .int .i64 a, .int .i64 c, .int .i64 h, .int .i64 t, .int .i64 i, .int .i64 p] 28 (0, 0)) := by rw [← hU]; exact new_at rfl
  have HK := Lib.hid (fun (V : World) (hV : Below U.heap.size U V) => row8 ((hV.block _ hlt).trans k1))
  obtain ⟨x0, x1, x2, x3, x4, x5, x6, x7⟩ := row8 k1
  have HB := Lib.hid hb
  clear k1 hb
  go_enter Tryz.func14, Tryz.ntmps14
  go_wp2_with (go_at_call 34; refine (HW.out _).mono ?_; rintro e w2 ⟨rfl, hb2⟩; have HB2 := Lib.hid hb2; clear hb2)
  go_ret
  exact ⟨rfl, HB.out.trans (HB2.out.mono HB.out.size)⟩
theorem refQuestion_no (c h t k i : Int) (w : World) (hf : NM.okQ ⟨c, h, t, k, i⟩ = false) : Calls Tryz.prog 16 #[.agg #[.int .i64 c, .int .i64 h, .int .i64 t, .int .i64 k, .int .i64 i]] w fun e w' => e = .returned (.string (NM.bs [])) ∧ Below w.heap.size w w' := by
  have HW := Lib.hid (fun V => wq_no c h t k i V hf)
  clear hf
  obtain ⟨U, hU⟩ : ∃ U, w.alloc (.cells #[.int .i64 c, .int .i64 h, .int .i64 t, .int .i64 k, .int .i64 i] 36) = U := ⟨_, rfl⟩
  have hb : Below w.heap.size w U := hU ▸ one_box w _
  have hlt : w.heap.size < U.heap.size := by rw [← hU]; simp
  have k1 : U.heap[w.heap.size]? = some (.cells #[.int .i64 c, .int .i64 h, .int .i64 t, .int .i64 k, .int .i64 i] 36 (0, 0)) := by rw [← hU]; exact new_at rfl
  have HK := Lib.hid (fun (V : World) (hV : Below U.heap.size U V) => row5 ((hV.block _ hlt).trans k1))
  obtain ⟨x0, x1, x2, x3, x4⟩ := row5 k1
  have HB := Lib.hid hb
  clear k1 hb
  go_enter Tryz.func16, Tryz.ntmps16
  go_wp2_with (go_at_call 42; refine (HW.out _).mono ?_; rintro e w2 ⟨rfl, hb2⟩; have HB2 := Lib.hid hb2; clear hb2)
  go_ret
  exact ⟨rfl, HB.out.trans (HB2.out.mono HB.out.size)⟩
theorem refEvent_all (e : NM.Ev) (w : World) : Calls Tryz.prog 14 #[evV e] w fun x w' => x = .returned (.string (NM.bs (NM.evT e))) ∧ Below w.heap.size w w' := by
  cases hf : NM.fits e with
  | true => exact refEvent_any e w hf
  | false =>
    obtain ⟨k, n, a, ⟨c, h, t, i, p⟩⟩ := e
    have : NM.evT ⟨k, n, a, ⟨c, h, t, i, p⟩⟩ = [] := by unfold NM.evT; rw [hf]; rfl
    rw [this]
    exact refEvent_no k n a c h t i p w hf
theorem refQuestion_all (q : NM.Qu) (w : World) : Calls Tryz.prog 16 #[quV q] w fun x w' => x = .returned (.string (NM.bs (NM.quT q))) ∧ Below w.heap.size w w' := by
  cases hf : NM.okQ q with
  | true => exact refQuestion_any q w hf
  | false =>
    obtain ⟨c, h, t, k, i⟩ := q
    have : NM.quT ⟨c, h, t, k, i⟩ = [] := by unfold NM.quT; rw [hf]; rfl
    rw [this]
    exact refQuestion_no c h t k i w hf
end Go.Proofs.YtggallpnbbidfaaGreatDoor
