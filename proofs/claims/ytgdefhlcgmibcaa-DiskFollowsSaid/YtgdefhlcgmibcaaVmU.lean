/-
  The machine's small effects. No condition but the lengths.
-/
import Derived.Test.YtgdefhlcgmibcaaVmT
namespace Go.Proofs.Ytgdefhlcgmibcaa
open Go Go.RowKit Go.Proofs
attribute [local go_sem] Oper.semAt_some

set_option maxHeartbeats 1000000 in
set_option maxRecDepth 100000 in
theorem pair_c {F : MFix} {B g : Nat} {s : VM.St} {w : World} (h : MAt F B w g s) (st : List Int) (x y : Int) (hs : s.stack = st ++ [x, y]) (hl : st.length < 1000) :
    Calls Try.prog 49 #[.pointer (some ⟨g, 0, none⟩)] w fun e w' => e = .returned (.tuple #[.int .i64 x, .int .i64 y]) ∧ MAt F B w' g { s with stack := st } ∧ KeepV B w w' := by
  have H1 := Lib.hid (pop_c h (st ++ [x]) y (by rw [hs]; simp) (by simp; omega))
  have H2 := Lib.hid (fun (w1 : World) (h1 : MAt F B w1 g { s with stack := st ++ [x] }) => pop_c h1 st x rfl (by omega))
  clear h hs
  go_enter Try.func49, Try.ntmps49
  go_wp2_with (first | (go_at_call 55; refine H1.out.mono ?_; rintro e w1 ⟨rfl, m1, k1⟩; have M1 := Lib.hid (And.intro m1 k1); clear m1 k1 H1) | (go_at_call 55; refine (H2.out _ M1.out.1).mono ?_; rintro e w2 ⟨rfl, m2, k2⟩; have M2 := Lib.hid (And.intro m2 k2); clear m2 k2 H2))
  refine bodyPost_ret (v := .tuple #[.int .i64 x, .int .i64 y]) (by simp [results, Try.results49, go_sem]) rfl ⟨rfl, M2.out.1, M1.out.2.trans M2.out.2⟩
set_option maxHeartbeats 1000000 in
set_option maxRecDepth 100000 in
theorem limit_c (x : Int) (hx : 0 ≤ x ∧ x ≤ 2147483647) (w : World) :
    Calls Try.prog 73 #[.int .i64 x, .int .i64 (-2147483647), .int .i64 2147483647] w fun e w' => e = .returned (.int .i64 x) ∧ w' = w := by
  have h1 : ¬ (2147483647 : Int) < x := by omega
  have h2 : ¬ x < (-2147483647 : Int) := by omega
  have h3 : (-2147483647 : Int) < x := by omega
  go_enter Try.func73, Try.ntmps73
  go_wp2_with fail

  exact bodyPost_ret (v := .int .i64 x) (by simp [results, Try.results73, go_sem]) rfl ⟨rfl, rfl⟩
set_option maxHeartbeats 1000000 in
set_option maxRecDepth 100000 in
theorem truth_c {F : MFix} {B g : Nat} {s : VM.St} {w : World} (h : MAt F B w g s) (b : Bool) (hl : s.stack.length < 1000) :
    Calls Try.prog 57 #[.pointer (some ⟨g, 0, none⟩), .bool b] w fun e w' => (∃ v, e = .returned v) ∧ MAt F B w' g { s with stack := s.stack ++ [if b then 1 else 0] } ∧ KeepV B w w' := by
  have H1 := Lib.hid (push_c h (if b then 1 else 0) (by omega))
  clear h
  cases b
  all_goals
    go_enter Try.func57, Try.ntmps57
    go_wp2_with (go_at_call 43; refine H1.out.mono ?_; rintro e w1 ⟨⟨v, rfl⟩, m1, k1⟩)
    go_end0
    exact ⟨⟨_, rfl⟩, m1, k1⟩
set_option maxHeartbeats 1000000 in
set_option maxRecDepth 100000 in
theorem limited_c {F : MFix} {B g : Nat} {s : VM.St} {w : World} (h : MAt F B w g s) (x : Int) (hx : 0 ≤ x ∧ x ≤ 2147483647) (hl : s.stack.length < 1000) :
    Calls Try.prog 50 #[.pointer (some ⟨g, 0, none⟩), .int .i64 x] w fun e w' => (∃ v, e = .returned v) ∧ MAt F B w' g { s with stack := s.stack ++ [x] } ∧ KeepV B w w' := by
  have H0 := Lib.hid (limit_c x hx w)
  have H1 := Lib.hid (push_c h x (by omega))
  clear h
  go_enter Try.func50, Try.ntmps50
  go_wp2_with (first | (go_at_call 73; refine H0.out.mono ?_; rintro e w1 ⟨rfl, rfl⟩) | (go_at_call 43; refine H1.out.mono ?_; rintro e w1 ⟨⟨v, rfl⟩, m1, k1⟩))
  go_end0
  exact ⟨⟨_, rfl⟩, m1, k1⟩
set_option maxHeartbeats 1000000 in
set_option maxRecDepth 100000 in
theorem lt_c {F : MFix} {B g : Nat} {s : VM.St} {w : World} (h : MAt F B w g s) (a : Int) (st : List Int) (x y r : Int) (hr : (if x < y then 1 else 0) = r) (hs : s.stack = st ++ [x, y]) (hl : st.length < 1000) :
    Calls Try.prog 56 #[.pointer (some ⟨g, 0, none⟩), .int .i64 a] w fun e w' => (∃ v, e = .returned v) ∧ MAt F B w' g { s with stack := st ++ [r] } ∧ KeepV B w w' := by
  have H1 := Lib.hid (pair_c h st x y hs hl)
  have H2 := Lib.hid (fun (w1 : World) (h1 : MAt F B w1 g { s with stack := st }) => truth_c h1 (decide (x < y)) hl)
  simp only [decide_eq_true_eq, hr] at H2
  clear hr
  clear h hs
  go_enter Try.func56, Try.ntmps56
  go_wp2_with (first | (go_at_call 49; refine H1.out.mono ?_; rintro e w1 ⟨rfl, m1, k1⟩; have M1 := Lib.hid (And.intro m1 k1); clear m1 k1 H1) | (go_at_call 57; refine (H2.out _ M1.out.1).mono ?_; rintro e w2 ⟨⟨v, rfl⟩, m2, k2⟩; have M2 := Lib.hid (And.intro m2 k2); clear m2 k2 H2))
  go_end0
  exact ⟨⟨_, rfl⟩, M2.out.1, M1.out.2.trans M2.out.2⟩
set_option maxHeartbeats 1000000 in
set_option maxRecDepth 100000 in
theorem add_c {F : MFix} {B g : Nat} {s : VM.St} {w : World} (h : MAt F B w g s) (a : Int) (st : List Int) (x y : Int) (hs : s.stack = st ++ [x, y]) (hl : st.length < 1000) (hx : 0 ≤ x + y ∧ x + y ≤ 2147483647) :
    Calls Try.prog 48 #[.pointer (some ⟨g, 0, none⟩), .int .i64 a] w fun e w' => (∃ v, e = .returned v) ∧ MAt F B w' g { s with stack := st ++ [x + y] } ∧ KeepV B w w' := by
  have H1 := Lib.hid (pair_c h st x y hs hl)
  have H2 := Lib.hid (fun (w1 : World) (h1 : MAt F B w1 g { s with stack := st }) => limited_c h1 (x + y) hx hl)
  have hwr : wrap64 (x + y) = x + y := by simp only [wrap64]; omega
  clear h hs
  go_enter Try.func48, Try.ntmps48
  go_wp2_with (first | (go_at_call 49; refine H1.out.mono ?_; rintro e w1 ⟨rfl, m1, k1⟩; have M1 := Lib.hid (And.intro m1 k1); clear m1 k1 H1) | (go_at_call 50; refine (H2.out _ M1.out.1).mono ?_; rintro e w2 ⟨⟨v, rfl⟩, m2, k2⟩; have M2 := Lib.hid (And.intro m2 k2); clear m2 k2 H2))
  go_end0
  exact ⟨⟨_, rfl⟩, M2.out.1, M1.out.2.trans M2.out.2⟩
end Go.Proofs.Ytgdefhlcgmibcaa
