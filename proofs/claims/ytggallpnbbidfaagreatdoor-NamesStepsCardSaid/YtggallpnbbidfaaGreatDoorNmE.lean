/-
  The layouts of events, the bounds of their numbers, which events and questions are well-formed. No condition.
-/
import Derived.Test.YtggallpnbbidfaaGreatDoorNmD
namespace Go.Proofs.YtggallpnbbidfaaGreatDoor
open Go Go.RowKit Go.Proofs
attribute [local go_sem] Oper.semAt_some

theorem upTo_tt {n m : Int} (h0 : 0 ≤ n) (h1 : n ≤ m) : NM.upTo n m = true := by simp [NM.upTo, h0, h1]
theorem upTo_f0 {n m : Int} (h0 : ¬ 0 ≤ n) : NM.upTo n m = false := by simp [NM.upTo, h0]
theorem upTo_f1 {n m : Int} (h1 : ¬ n ≤ m) : NM.upTo n m = false := by simp [NM.upTo, h1]
set_option maxHeartbeats 1000000 in
theorem upTo_any (n m : Int) (w : World) : Calls Tryz.prog 40 #[.int .i64 n, .int .i64 m] w fun e w' => e = .returned (.bool (NM.upTo n m)) ∧ w = w' := by
  by_cases h0 : 0 ≤ n
  · by_cases h1 : n ≤ m
    · rw [upTo_tt h0 h1]
      have g0 : decide (0 ≤ n) = true := decide_eq_true h0
      have g1 : decide (n ≤ m) = true := decide_eq_true h1
      go_enter Tryz.func40, Tryz.ntmps40
      go_wp2
      go_ret
      exact ⟨rfl, rfl⟩
    · rw [upTo_f1 h1]
      have g0 : decide (0 ≤ n) = true := decide_eq_true h0
      have g1 : decide (n ≤ m) = false := decide_eq_false h1
      go_enter Tryz.func40, Tryz.ntmps40
      go_wp2
      go_ret
      exact ⟨rfl, rfl⟩
  · rw [upTo_f0 h0]
    have g0 : decide (0 ≤ n) = false := decide_eq_false h0
    go_enter Tryz.func40, Tryz.ntmps40
    go_wp2
    go_ret
    exact ⟨rfl, rfl⟩
set_option maxHeartbeats 1000000 in
theorem node_any (n : Int) (w : World) : Calls Tryz.prog 54 #[.int .i64 n] w fun e w' => e = .returned (.bool (NM.upTo n 11)) ∧ w = w' := by
  go_enter Tryz.func54, Tryz.ntmps54
  go_wp2_with (go_at_call 40; refine (upTo_any _ _ _).mono ?_; rintro e w1 ⟨rfl, rfl⟩)
  go_ret
  exact ⟨rfl, rfl⟩
theorem one_box (w : World) (o : Obj) : Below w.heap.size w (w.alloc o) := (Below.refl _ _).alloc (Nat.le_refl _) _
set_option maxHeartbeats 2000000 in
set_option maxRecDepth 100000 in
theorem isCause_any (c h t last : Int) (w : World) : Calls Tryz.prog 39 #[.agg #[.int .i64 c, .int .i64 h, .int .i64 t], .int .i64 last] w fun e w' => e = .returned (.bool (NM.okC c h t last)) ∧ Below w.heap.size w w' := by
  have H1 := Lib.hid (fun V => node_any c V)
  have H2 := Lib.hid (fun V => upTo_any h last V)
  have H3 := Lib.hid (fun V => upTo_any t 2147483647 V)
  have hb := one_box w (.cells #[.int .i64 c, .int .i64 h, .int .i64 t] 24)
  unfold NM.okC NM.big
  cases e1 : NM.upTo c 11 with
  | false =>
    rw [e1] at H1
    rw [Bool.false_and]
    clear e1
    go_enter Tryz.func39, Tryz.ntmps39
    go_wp2_with (first | (go_at_call 54; (with_reducible refine (H1.out _).mono ?_); rintro e w1 ⟨rfl, rfl⟩))
    go_ret
    exact ⟨rfl, hb⟩
  | true =>
    rw [e1] at H1
    rw [Bool.true_and]
    clear e1
    cases e2 : NM.upTo h last with
    | false =>
      rw [e2] at H2
      rw [Bool.false_and]
      clear e2
      go_enter Tryz.func39, Tryz.ntmps39
      go_wp2_with (first | (go_at_call 54; (with_reducible refine (H1.out _).mono ?_); rintro e w1 ⟨rfl, rfl⟩) | (go_at_call 40; (with_reducible refine (H2.out _).mono ?_); rintro e w1 ⟨rfl, rfl⟩))
      go_ret
      exact ⟨rfl, hb⟩
    | true =>
      rw [e2] at H2
      rw [Bool.true_and]
      clear e2
      go_enter Tryz.func39, Tryz.ntmps39
      go_wp2_with (first | (go_at_call 54; (with_reducible refine (H1.out _).mono ?_); rintro e w1 ⟨rfl, rfl⟩) | (go_at_call 40; (with_reducible refine (H2.out _).mono ?_); rintro e w1 ⟨rfl, rfl⟩; clear H2) | (go_at_call 40; (with_reducible refine (H3.out _).mono ?_); rintro e w1 ⟨rfl, rfl⟩))
      go_ret
      exact ⟨rfl, hb⟩
set_option maxHeartbeats 2000000 in
set_option maxRecDepth 100000 in
theorem isMsg_any (m : NM.Ms) (w : World) : Calls Tryz.prog 55 #[msV m] w fun e w' => e = .returned (.bool (NM.okM m)) ∧ Below w.heap.size w w' := by
  obtain ⟨c, h, t, i, p⟩ := m
  show Calls Tryz.prog 55 #[.agg #[.int .i64 c, .int .i64 h, .int .i64 t, .int .i64 i, .int .i64 p]] w _
  have H1 := Lib.hid (fun V => isCause_any c h t 39 V)
  have H2 := Lib.hid (fun V => upTo_any i 2147483647 V)
  have H3 := Lib.hid (fun V => upTo_any p 2147483647 V)
  obtain ⟨U, hU⟩ : ∃ U, w.alloc (.cells #[.int .i64 c, .int .i64 h, .int .i64 t, .int .i64 i, .int .i64 p] 26) = U := ⟨_, rfl⟩
  have hb : Below w.heap.size w U := hU ▸ one_box w _
  have hl : w.heap.size < U.heap.size := by rw [← hU]; simp
  have k1 : U.heap[w.heap.size]? = some (.cells #[.int .i64 c, .int .i64 h, .int .i64 t, .int .i64 i, .int .i64 p] 26 (0, 0)) := by rw [← hU]; exact new_at rfl
  obtain ⟨a0, a1, a2, a3, a4⟩ := row5 k1
  have HK := Lib.hid (fun (V : World) (hV : Below U.heap.size U V) => row5 ((hV.block _ hl).trans k1))
  have HU := Lib.hid hU
  clear k1 hU
  unfold NM.okM NM.big
  show Calls _ _ _ _ fun e w' => e = .returned (.bool (NM.okC c h t 39 && (NM.upTo i 2147483647 && NM.upTo p 2147483647))) ∧ _
  cases e1 : NM.okC c h t 39 with
  | false =>
    rw [e1] at H1
    rw [Bool.false_and]
    clear e1
    go_enter Tryz.func55, Tryz.ntmps55
    go_wp2_with fail
    rw [HU.out]
    go_wp2_with (first | (go_at_call 39; (with_reducible refine (H1.out _).mono ?_); rintro e w1 ⟨rfl, hc⟩; have HC := Lib.hid hc; clear hc))
    go_ret
    exact ⟨rfl, hb.trans (HC.out.mono hb.size)⟩
  | true =>
    rw [e1] at H1
    rw [Bool.true_and]
    clear e1
    cases e2 : NM.upTo i 2147483647 with
    | false =>
      rw [e2] at H2
      rw [Bool.false_and]
      clear e2
      go_enter Tryz.func55, Tryz.ntmps55
      go_wp2_with fail
      rw [HU.out]
      go_wp2_with (first | (go_at_call 39; (with_reducible refine (H1.out _).mono ?_); rintro e w1 ⟨rfl, hc⟩; have HC := Lib.hid hc; obtain ⟨b0, b1, b2, b3, b4⟩ := HK.out w1 hc; clear hc) | (go_at_call 40; (with_reducible refine (H2.out _).mono ?_); rintro e w1 ⟨rfl, rfl⟩))
      go_ret
      exact ⟨rfl, hb.trans (HC.out.mono hb.size)⟩
    | true =>
      rw [e2] at H2
      rw [Bool.true_and]
      clear e2
      go_enter Tryz.func55, Tryz.ntmps55
      go_wp2_with fail
      rw [HU.out]
      go_wp2_with (first | (go_at_call 39; (with_reducible refine (H1.out _).mono ?_); rintro e w1 ⟨rfl, hc⟩; have HC := Lib.hid hc; obtain ⟨b0, b1, b2, b3, b4⟩ := HK.out w1 hc; clear hc) | (go_at_call 40; (with_reducible refine (H2.out _).mono ?_); rintro e w1 ⟨rfl, rfl⟩; clear H2) | (go_at_call 40; (with_reducible refine (H3.out _).mono ?_); rintro e w1 ⟨rfl, rfl⟩))
      go_ret
      exact ⟨rfl, hb.trans (HC.out.mono hb.size)⟩

/-- The layout of a kind. -/
abbrev laV (k : Int) : Value := .agg #[.string (NM.bs (NM.word k)), .bool (NM.argK k), .bool (NM.msgK k)]
set_option maxHeartbeats 2000000 in
set_option maxRecDepth 100000 in
theorem layout_1 (w : World) : Calls Tryz.prog 29 #[.int .i64 1] w fun e w' => e = .returned (laV 1) ∧ Below w.heap.size w w' := by
  go_enter Tryz.func29, Tryz.ntmps29
  go_wp2
  exact bodyPost_ret (v := laV 1) (by simp [results, Tryz.results29, go_sem]; exact ⟨rfl, rfl, rfl⟩) rfl ⟨rfl, one_box _ _⟩
set_option maxHeartbeats 2000000 in
set_option maxRecDepth 100000 in
theorem layout_2 (w : World) : Calls Tryz.prog 29 #[.int .i64 2] w fun e w' => e = .returned (laV 2) ∧ Below w.heap.size w w' := by
  go_enter Tryz.func29, Tryz.ntmps29
  go_wp2
  exact bodyPost_ret (v := laV 2) (by simp [results, Tryz.results29, go_sem]; exact ⟨rfl, rfl, rfl⟩) rfl ⟨rfl, one_box _ _⟩
set_option maxHeartbeats 2000000 in
set_option maxRecDepth 100000 in
theorem layout_3 (w : World) : Calls Tryz.prog 29 #[.int .i64 3] w fun e w' => e = .returned (laV 3) ∧ Below w.heap.size w w' := by
  go_enter Tryz.func29, Tryz.ntmps29
  go_wp2
  exact bodyPost_ret (v := laV 3) (by simp [results, Tryz.results29, go_sem]; exact ⟨rfl, rfl, rfl⟩) rfl ⟨rfl, one_box _ _⟩
set_option maxHeartbeats 2000000 in
set_option maxRecDepth 100000 in
theorem layout_4 (w : World) : Calls Tryz.prog 29 #[.int .i64 4] w fun e w' => e = .returned (laV 4) ∧ Below w.heap.size w w' := by
  go_enter Tryz.func29, Tryz.ntmps29
  go_wp2
  exact bodyPost_ret (v := laV 4) (by simp [results, Tryz.results29, go_sem]; exact ⟨rfl, rfl, rfl⟩) rfl ⟨rfl, one_box _ _⟩
set_option maxHeartbeats 2000000 in
set_option maxRecDepth 100000 in
theorem layout_5 (w : World) : Calls Tryz.prog 29 #[.int .i64 5] w fun e w' => e = .returned (laV 5) ∧ Below w.heap.size w w' := by
  go_enter Tryz.func29, Tryz.ntmps29
  go_wp2
  exact bodyPost_ret (v := laV 5) (by simp [results, Tryz.results29, go_sem]; exact ⟨rfl, rfl, rfl⟩) rfl ⟨rfl, one_box _ _⟩
set_option maxHeartbeats 2000000 in
set_option maxRecDepth 100000 in
theorem layout_6 (w : World) : Calls Tryz.prog 29 #[.int .i64 6] w fun e w' => e = .returned (laV 6) ∧ Below w.heap.size w w' := by
  go_enter Tryz.func29, Tryz.ntmps29
  go_wp2
  exact bodyPost_ret (v := laV 6) (by simp [results, Tryz.results29, go_sem]; exact ⟨rfl, rfl, rfl⟩) rfl ⟨rfl, one_box _ _⟩
set_option maxHeartbeats 2000000 in
set_option maxRecDepth 100000 in
theorem layout_7 (w : World) : Calls Tryz.prog 29 #[.int .i64 7] w fun e w' => e = .returned (laV 7) ∧ Below w.heap.size w w' := by
  go_enter Tryz.func29, Tryz.ntmps29
  go_wp2
  exact bodyPost_ret (v := laV 7) (by simp [results, Tryz.results29, go_sem]; exact ⟨rfl, rfl, rfl⟩) rfl ⟨rfl, one_box _ _⟩
theorem word_none {k : Int} (h1 : ¬ k = 1) (h2 : ¬ k = 2) (h3 : ¬ k = 3) (h4 : ¬ k = 4) (h5 : ¬ k = 5) (h6 : ¬ k = 6) (h7 : ¬ k = 7) : NM.word k = [] ∧ NM.argK k = false ∧ NM.msgK k = false := by
  refine ⟨?_, ?_, ?_⟩
  · unfold NM.word
    simp [h1, h2, h3, h4, h5, h6, h7]
  · simp [NM.argK, h1, h2, h4]
  · simp [NM.msgK, h3, h5, h6]
set_option maxHeartbeats 2000000 in
set_option maxRecDepth 100000 in
theorem layout_no (k : Int) (h1 : ¬ k = 1) (h2 : ¬ k = 2) (h3 : ¬ k = 3) (h4 : ¬ k = 4) (h5 : ¬ k = 5) (h6 : ¬ k = 6) (h7 : ¬ k = 7) (w : World) : Calls Tryz.prog 29 #[.int .i64 k] w fun e w' => e = .returned (laV k) ∧ Below w.heap.size w w' := by
  obtain ⟨e1, e2, e3⟩ := word_none h1 h2 h3 h4 h5 h6 h7
  have e : laV k = .agg #[.string ⟨#[]⟩, .bool false, .bool false] := by
    show Value.agg #[.string (NM.bs (NM.word k)), .bool (NM.argK k), .bool (NM.msgK k)] = _
    rw [e1, e2, e3]
    rfl
  rw [e]
  clear e e1 e2 e3
  have g1 : (k == 1) = false := by simp [h1]
  have g2 : (k == 2) = false := by simp [h2]
  have g3 : (k == 3) = false := by simp [h3]
  have g4 : (k == 4) = false := by simp [h4]
  have g5 : (k == 5) = false := by simp [h5]
  have g6 : (k == 6) = false := by simp [h6]
  have g7 : (k == 7) = false := by simp [h7]
  clear h1 h2 h3 h4 h5 h6 h7
  go_enter Tryz.func29, Tryz.ntmps29
  go_wp2
  exact bodyPost_ret (v := .agg #[.string ⟨#[]⟩, .bool false, .bool false]) (by simp [results, Tryz.results29, go_sem]) rfl ⟨rfl, one_box _ _⟩
theorem layout_any (k : Int) (w : World) : Calls Tryz.prog 29 #[.int .i64 k] w fun e w' => e = .returned (laV k) ∧ Below w.heap.size w w' := by
  by_cases h1 : k = 1
  · subst h1; exact layout_1 w
  by_cases h2 : k = 2
  · subst h2; exact layout_2 w
  by_cases h3 : k = 3
  · subst h3; exact layout_3 w
  by_cases h4 : k = 4
  · subst h4; exact layout_4 w
  by_cases h5 : k = 5
  · subst h5; exact layout_5 w
  by_cases h6 : k = 6
  · subst h6; exact layout_6 w
  by_cases h7 : k = 7
  · subst h7; exact layout_7 w
  exact layout_no k h1 h2 h3 h4 h5 h6 h7 w
set_option maxHeartbeats 2000000 in
theorem qword_1 (w : World) : Calls Tryz.prog 38 #[.int .i64 1] w fun e w' => e = .returned (.string (NM.bs (NM.qword 1))) ∧ w = w' := by
  go_enter Tryz.func38, Tryz.ntmps38
  go_wp2
  go_ret
  exact ⟨rfl, rfl⟩
set_option maxHeartbeats 2000000 in
theorem qword_2 (w : World) : Calls Tryz.prog 38 #[.int .i64 2] w fun e w' => e = .returned (.string (NM.bs (NM.qword 2))) ∧ w = w' := by
  go_enter Tryz.func38, Tryz.ntmps38
  go_wp2
  go_ret
  exact ⟨rfl, rfl⟩
set_option maxHeartbeats 2000000 in
theorem qword_3 (w : World) : Calls Tryz.prog 38 #[.int .i64 3] w fun e w' => e = .returned (.string (NM.bs (NM.qword 3))) ∧ w = w' := by
  go_enter Tryz.func38, Tryz.ntmps38
  go_wp2
  go_ret
  exact ⟨rfl, rfl⟩
set_option maxHeartbeats 2000000 in
theorem qword_any (k : Int) (w : World) : Calls Tryz.prog 38 #[.int .i64 k] w fun e w' => e = .returned (.string (NM.bs (NM.qword k))) ∧ w = w' := by
  by_cases h1 : k = 1
  · subst h1; exact qword_1 w
  by_cases h2 : k = 2
  · subst h2; exact qword_2 w
  by_cases h3 : k = 3
  · subst h3; exact qword_3 w
  have e : NM.qword k = [] := by unfold NM.qword; simp [h1, h2, h3]
  rw [e]
  have g1 : (k == 1) = false := by simp [h1]
  have g2 : (k == 2) = false := by simp [h2]
  have g3 : (k == 3) = false := by simp [h3]
  clear h1 h2 h3 e
  go_enter Tryz.func38, Tryz.ntmps38
  go_wp2
  go_ret
  exact ⟨rfl, rfl⟩
end Go.Proofs.YtggallpnbbidfaaGreatDoor
