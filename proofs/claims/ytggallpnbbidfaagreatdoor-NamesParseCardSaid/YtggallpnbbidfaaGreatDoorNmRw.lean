/-
  The reference's test of a cause and of an event: an event that fits is well formed.
-/
import Derived.Test.YtggallpnbbidfaaGreatDoorNmRd
import Derived.Test.YtggallpnbbidfaaGreatDoorNmY
namespace Go.Proofs.YtggallpnbbidfaaGreatDoor
open Go Go.RowKit Go.Proofs
attribute [local go_sem] Oper.semAt_some

set_option maxHeartbeats 2000000 in
theorem refCause_any (c h t m : Int) (w : World) (h1 : NM.okC c h t (m - 1) = true) : Calls Tryz.prog 59 #[.agg #[.int .i64 c, .int .i64 h, .int .i64 t], .int .i64 m] w fun e w' => e = .returned (.bool true) ∧ Below w.heap.size w w' := by
  obtain ⟨⟨c0, c1⟩, ⟨c2, c3⟩, c4⟩ := NM.okC_iff.1 h1
  have HN := Lib.hid (fun V => number_any t V)
  rw [show NM.upTo t NM.big = true from NM.upTo_iff.2 c4] at HN
  have d0 : decide (c ≥ 0) = true := decide_eq_true c0
  have d1 : decide (c < 12) = true := decide_eq_true (by omega)
  have d2 : decide (h ≥ 0) = true := decide_eq_true c2
  have d3 : decide (h < m) = true := decide_eq_true (by omega)
  clear h1 c0 c1 c2 c3 c4
  obtain ⟨U, hU⟩ : ∃ U, w.alloc (.cells #[.int .i64 c, .int .i64 h, .int .i64 t] 24) = U := ⟨_, rfl⟩
  have hb : Below w.heap.size w U := hU ▸ one_box w _
  have k1 : U.heap[w.heap.size]? = some (.cells #[.int .i64 c, .int .i64 h, .int .i64 t] 24 (0, 0)) := by rw [← hU]; exact new_at rfl
  obtain ⟨a0, a1, a2⟩ := row3 k1
  have HB := Lib.hid hb
  clear k1 hb
  go_enter Tryz.func59, Tryz.ntmps59
  go_wp2_with (go_at_call 58; refine (HN.out _).mono ?_; rintro e w1 ⟨rfl, rfl⟩)
  go_ret
  exact ⟨rfl, HB.out⟩
theorem eqM_zero (V : World) : (binOp .eql 26 (.agg #[.int .i64 0, .int .i64 0, .int .i64 0, .int .i64 0, .int .i64 0]) (.agg #[.int .i64 0, .int .i64 0, .int .i64 0, .int .i64 0, .int .i64 0])).run Tryz.prog V = .ok (.bool true) V := by
  have := eqM_any NM.m0 NM.m0 V
  rw [decide_eq_true rfl] at this
  exact this
set_option maxHeartbeats 2000000 in
theorem wellArg (k n a : Int) (w : World) (hk : k = 1 ∨ k = 2 ∨ k = 4) (hn : 0 ≤ n ∧ n ≤ 11) (ha : NM.Nn a) :
    Calls Tryz.prog 34 #[.agg #[.int .i64 k, .int .i64 n, .int .i64 a, .int .i64 0, .int .i64 0, .int .i64 0, .int .i64 0, .int .i64 0]] w fun e w' => e = .returned (.bool true) ∧ Below w.heap.size w w' := by
  have HN := Lib.hid (fun V => number_any a V)
  rw [show NM.upTo a NM.big = true from NM.upTo_iff.2 ha] at HN
  have d0 : decide (n < 0) = false := decide_eq_false (by omega)
  have d1 : decide (n > 11) = false := decide_eq_false (by omega)
  have hq := eqM_zero
  clear hn ha
  obtain ⟨U, hU⟩ : ∃ U, w.alloc (.cells #[.int .i64 k, .int .i64 n, .int .i64 a, .int .i64 0, .int .i64 0, .int .i64 0, .int .i64 0, .int .i64 0] 28) = U := ⟨_, rfl⟩
  have hb : Below w.heap.size w U := hU ▸ one_box w _
  have k1 : U.heap[w.heap.size]? = some (.cells #[.int .i64 k, .int .i64 n, .int .i64 a, .int .i64 0, .int .i64 0, .int .i64 0, .int .i64 0, .int .i64 0] 28 (0, 0)) := by rw [← hU]; exact new_at rfl
  obtain ⟨a0, a1, a2, a3, a4, a5, a6, a7⟩ := row8 k1
  have HB := Lib.hid hb
  clear k1 hb
  rcases hk with rfl | rfl | rfl
  all_goals
    go_enter Tryz.func34, Tryz.ntmps34
    go_wp2_with (go_at_call 58; refine (HN.out _).mono ?_; rintro e w1 ⟨rfl, rfl⟩)
    go_ret
    exact ⟨rfl, HB.out⟩
set_option maxHeartbeats 2000000 in
theorem wellBare (n : Int) (w : World) (hn : 0 ≤ n ∧ n ≤ 11) :
    Calls Tryz.prog 34 #[.agg #[.int .i64 7, .int .i64 n, .int .i64 0, .int .i64 0, .int .i64 0, .int .i64 0, .int .i64 0, .int .i64 0]] w fun e w' => e = .returned (.bool true) ∧ Below w.heap.size w w' := by
  have d0 : decide (n < 0) = false := decide_eq_false (by omega)
  have d1 : decide (n > 11) = false := decide_eq_false (by omega)
  have hq := eqM_zero
  clear hn
  obtain ⟨U, hU⟩ : ∃ U, w.alloc (.cells #[.int .i64 7, .int .i64 n, .int .i64 0, .int .i64 0, .int .i64 0, .int .i64 0, .int .i64 0, .int .i64 0] 28) = U := ⟨_, rfl⟩
  have hb : Below w.heap.size w U := hU ▸ one_box w _
  have k1 : U.heap[w.heap.size]? = some (.cells #[.int .i64 7, .int .i64 n, .int .i64 0, .int .i64 0, .int .i64 0, .int .i64 0, .int .i64 0, .int .i64 0] 28 (0, 0)) := by rw [← hU]; exact new_at rfl
  obtain ⟨a0, a1, a2, a3, a4, a5, a6, a7⟩ := row8 k1
  have HB := Lib.hid hb
  clear k1 hb
  go_enter Tryz.func34, Tryz.ntmps34
  go_wp2_with fail
  go_ret
  exact ⟨rfl, HB.out⟩
set_option maxHeartbeats 2000000 in
theorem wellMsg (k n c h t i p : Int) (w : World) (hk : k = 3 ∨ k = 5 ∨ k = 6) (hn : 0 ≤ n ∧ n ≤ 11) (hm : NM.okM ⟨c, h, t, i, p⟩ = true) :
    Calls Tryz.prog 34 #[.agg #[.int .i64 k, .int .i64 n, .int .i64 0, .int .i64 c, .int .i64 h, .int .i64 t, .int .i64 i, .int .i64 p]] w fun e w' => e = .returned (.bool true) ∧ Below w.heap.size w w' := by
  obtain ⟨hc, hi, hp⟩ := NM.okM_iff.1 hm
  have HC := Lib.hid (fun V => refCause_any c h t 40 V (NM.okC_iff.2 hc))
  have HI := Lib.hid (fun V => number_any i V)
  have HP := Lib.hid (fun V => number_any p V)
  rw [show NM.upTo i NM.big = true from NM.upTo_iff.2 hi] at HI
  rw [show NM.upTo p NM.big = true from NM.upTo_iff.2 hp] at HP
  have d0 : decide (n < 0) = false := decide_eq_false (by omega)
  have d1 : decide (n > 11) = false := decide_eq_false (by omega)
  clear hn hm hc hi hp
  obtain ⟨U, hU⟩ : ∃ U, w.alloc (.cells #[.int .i64 k, .int .i64 n, .int .i64 0, .int .i64 c, .int .i64 h, .int .i64 t, .int .i64 i, .int .i64 p] 28) = U := ⟨_, rfl⟩
  have hb : Below w.heap.size w U := hU ▸ one_box w _
  have hlt : w.heap.size < U.heap.size := by rw [← hU]; simp
  have k1 : U.heap[w.heap.size]? = some (.cells #[.int .i64 k, .int .i64 n, .int .i64 0, .int .i64 c, .int .i64 h, .int .i64 t, .int .i64 i, .int .i64 p] 28 (0, 0)) := by rw [← hU]; exact new_at rfl
  have HK := Lib.hid (fun (V : World) (hV : Below U.heap.size U V) => row8 ((hV.block _ hlt).trans k1))
  obtain ⟨a0, a1, a2, a3, a4, a5, a6, a7⟩ := row8 k1
  have HB := Lib.hid hb
  clear k1 hb
  rcases hk with rfl | rfl | rfl
  all_goals
    go_enter Tryz.func34, Tryz.ntmps34
    go_wp2_with (first
      | (go_at_call 59; (with_reducible refine (HC.out _).mono ?_); rintro e w2 ⟨rfl, hb2⟩; obtain ⟨c0, c1, c2, c3, c4, c5, c6, c7⟩ := HK.out w2 hb2; have HB2 := Lib.hid hb2; clear hb2)
      | (go_at_call 58; (with_reducible refine (HI.out _).mono ?_); rintro e w3 ⟨rfl, rfl⟩)
      | (go_at_call 58; (with_reducible refine (HP.out _).mono ?_); rintro e w4 ⟨rfl, rfl⟩))
    go_ret
    exact ⟨rfl, HB.out.trans (HB2.out.mono HB.out.size)⟩
theorem well_any (e : NM.Ev) (w : World) (hf : NM.fits e = true) : Calls Tryz.prog 34 #[evV e] w fun x w' => x = .returned (.bool true) ∧ Below w.heap.size w w' := by
  obtain ⟨h1, h2, h3, h4, h5⟩ := NM.fits_iff.1 hf
  obtain ⟨k, n, a, m⟩ := e
  obtain ⟨c, h, t, i, p⟩ := m
  unfold NM.written at h2
  simp only at h1 h2 h3 h4 h5
  rcases NM.kind_cases h1 with rfl | rfl | rfl | rfl | rfl | rfl | rfl <;> simp only [NM.argK, NM.msgK, NM.Ev.mk.injEq] at h2
  · obtain ⟨_, _, _, h6⟩ := h2
    have h7 : (⟨c, h, t, i, p⟩ : NM.Ms) = NM.m0 := by simpa using h6
    unfold NM.m0 at h7
    simp only [NM.Ms.mk.injEq] at h7
    obtain ⟨rfl, rfl, rfl, rfl, rfl⟩ := h7
    exact wellArg _ n a w (by simp) h3 h4
  · obtain ⟨_, _, _, h6⟩ := h2
    have h7 : (⟨c, h, t, i, p⟩ : NM.Ms) = NM.m0 := by simpa using h6
    unfold NM.m0 at h7
    simp only [NM.Ms.mk.injEq] at h7
    obtain ⟨rfl, rfl, rfl, rfl, rfl⟩ := h7
    exact wellArg _ n a w (by simp) h3 h4
  · obtain ⟨_, _, h6, _⟩ := h2
    have h7 : a = 0 := by simpa using h6
    subst h7
    exact wellMsg _ n c h t i p w (by simp) h3 h5
  · obtain ⟨_, _, _, h6⟩ := h2
    have h7 : (⟨c, h, t, i, p⟩ : NM.Ms) = NM.m0 := by simpa using h6
    unfold NM.m0 at h7
    simp only [NM.Ms.mk.injEq] at h7
    obtain ⟨rfl, rfl, rfl, rfl, rfl⟩ := h7
    exact wellArg _ n a w (by simp) h3 h4
  · obtain ⟨_, _, h6, _⟩ := h2
    have h7 : a = 0 := by simpa using h6
    subst h7
    exact wellMsg _ n c h t i p w (by simp) h3 h5
  · obtain ⟨_, _, h6, _⟩ := h2
    have h7 : a = 0 := by simpa using h6
    subst h7
    exact wellMsg _ n c h t i p w (by simp) h3 h5
  · obtain ⟨_, _, h6, h8⟩ := h2
    have h7 : (⟨c, h, t, i, p⟩ : NM.Ms) = NM.m0 := by simpa using h8
    have h9 : a = 0 := by simpa using h6
    unfold NM.m0 at h7
    simp only [NM.Ms.mk.injEq] at h7
    obtain ⟨rfl, rfl, rfl, rfl, rfl⟩ := h7
    subst h9
    exact wellBare n w h3
end Go.Proofs.YtggallpnbbidfaaGreatDoor
