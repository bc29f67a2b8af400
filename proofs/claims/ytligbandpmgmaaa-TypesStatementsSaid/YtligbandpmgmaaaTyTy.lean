/-
  The contract of typeOf, by induction over the tree. Conditions: the value is a tree, the maps hold the rules.
-/
import Derived.Test.YtligbandpmgmaaaTyTo
namespace Go.Proofs.Ytligbandpmgmaaa
open Go Go.RowKit Go.Proofs Go.Shelf
attribute [local go_sem] Oper.semAt_some

theorem Opr.mono {W : World} {hi hi' : Nat} {K : Value} {ts : List Nat} (h : Opr W hi K ts) (hh : hi ≤ hi') : Opr W hi' K ts := by
  obtain ⟨A, c, e, h1, h2, h3⟩ := h
  exact ⟨A, c, e, h1, h2, h3.1, fun h => by obtain ⟨b, o, e1, e2, e3⟩ := h3.2 h; exact ⟨b, o, e1, by omega, e3⟩⟩
theorem Rul.up {W W' : World} {hi hi' mu mb : Nat} (h : Rul W hi mu mb) (hb : Below hi W W') (hh : hi ≤ hi') : Rul W' hi' mu mb := fun V hV s hs => by
  obtain ⟨⟨K, h1, h2⟩, K', h3, h4⟩ := h V (hb.trans (hV.mono hh)) s hs
  exact ⟨⟨K, h1, h2.mono hh⟩, K', h3, h4.mono hh⟩
theorem tyOf_out (k n : Int) (s : ByteArray) (l : List TY.Nd) (h : ¬ (k = 12 ∨ k = 14 ∨ k = 15 ∨ k = 13 ∨ k = 16 ∨ k = 17 ∨ k = 18)) : TY.tyOf (.mk k n s l) = 0 := by
  rw [TY.tyOf_eq, if_neg (fun e => h (by rcases e with e | e | e <;> simp [e])), if_neg (fun e => h (by simp [e]))]
  have hr : TY.rule k s = ([], 0) := by
    unfold TY.rule
    rw [if_neg (fun e => h (by simp [e])), if_neg (fun e => h (by simp [e])), if_neg (fun e => h (by simp [e]))]
  rw [hr]
  split <;> rfl
theorem tyOf_16 (n : Int) (s : ByteArray) (l : List TY.Nd) : TY.tyOf (.mk 16 n s l) = if l.map TY.tyOf = [1] then 1 else 0 := by
  rw [TY.tyOf_eq]
  rfl
theorem tyOf_17 (n : Int) (s : ByteArray) (l : List TY.Nd) : TY.tyOf (.mk 17 n s l) = if l.map TY.tyOf = (TY.ruleU s).1 then (TY.ruleU s).2 else 0 := by
  rw [TY.tyOf_eq]
  rfl
theorem tyOf_18 (n : Int) (s : ByteArray) (l : List TY.Nd) : TY.tyOf (.mk 18 n s l) = if l.map TY.tyOf = (TY.ruleB s).1 then (TY.ruleB s).2 else 0 := by
  rw [TY.tyOf_eq]
  rfl
theorem tyOf_lit (k n : Int) (s : ByteArray) (l : List TY.Nd) (h : k = 12 ∨ k = 14 ∨ k = 15) : TY.tyOf (.mk k n s l) = 1 := by rw [TY.tyOf_eq, if_pos h]
theorem tyOf_13 (n : Int) (s : ByteArray) (l : List TY.Nd) : TY.tyOf (.mk 13 n s l) = 2 := by
  rw [TY.tyOf_eq]
  rfl
set_option maxHeartbeats 4000000 in
theorem typeOf_any {mu mb : Nat} : ∀ t, TyAt mu mb t := by
  intro t
  induction t using TY.Nd.ind with
  | h k n s l ih =>
  intro W hi v hv hr hh
  have hvo := hv.open_
  obtain ⟨A, c, vs, hvA, _, _, _, _, hss, _, _⟩ := hvo
  subst hvA
  obtain ⟨W1, hW1⟩ : ∃ V, W.alloc (.cells #[.map (some mu), .map (some mb)] 48) = V := ⟨_, rfl⟩
  obtain ⟨W2, hW2⟩ : ∃ V, W1.alloc (.cells #[.int .i64 k, .int .i64 n, .string s, .slice A l.length c] 25) = V := ⟨_, rfl⟩
  have z1 : W1.heap.size = W.heap.size + 1 := by rw [← hW1, World.size_alloc]
  have z2 : W2.heap.size = W.heap.size + 1 + 1 := by rw [← hW2, World.size_alloc, z1]
  have hb1 : Below W.heap.size W W1 := by rw [← hW1]; exact (Below.refl _ _).alloc (Nat.le_refl _) _
  have hb2 : Below W.heap.size W W2 := by rw [← hW2]; exact hb1.alloc (by omega) _
  have hap := fun V (hV : Below W.heap.size W V) hi' (hh1 : hi ≤ hi') (hh2 : hi' ≤ V.heap.size) K ts r (hK : Opr V hi' K ts) => apply_any ih V hi' r _ K ts (hv.under (hV.mono hh) hh1) (hr.up (hV.mono hh) hh1) hh2 hK A c rfl
  by_cases h16 : k = 16
  · subst h16
    obtain ⟨W3, hW3⟩ : ∃ V, W2.alloc (.cells #[.int .i64 1] 27) = V := ⟨_, rfl⟩
    have hb3 : Below W.heap.size W W3 := by rw [← hW3]; exact hb2.alloc (by omega) _
    have z3 : W3.heap.size = W.heap.size + 1 + 1 + 1 := by rw [← hW3, World.size_alloc, z2]
    have ho : W3.heap[W.heap.size + 1 + 1]? = some (.cells #[.int .i64 1] 27 (0, 0)) := by
      rw [← hW3, ← z2]
      exact World.alloc_heap_new W2 _
    have hop : Opr W3 W3.heap.size (.slice (some ⟨W.heap.size + 1 + 1, 0, none⟩) 1 1) [1] := Opr.of ho (by omega) rfl (by decide) (fun j hj => by have h1 : j < 1 := hj; obtain rfl : j = 0 := (by omega); rfl)
    have hc := hap W3 hb3 W3.heap.size (by omega) (Nat.le_refl _) _ _ 1 hop
    rw [tyOf_16]
    obtain ⟨y, hy⟩ : ∃ y, (if l.map TY.tyOf = [1] then 1 else 0 : Nat) = y := ⟨_, rfl⟩
    rw [hy] at hc ⊢
    have HC := Lib.hid hc
    have HB3 := Lib.hid hb3
    have HW1 := Lib.hid hW1
    have HW2 := Lib.hid hW2
    have HW3 := Lib.hid hW3
    clear hc hb3 hW1 hW2 hW3 hap hop ho hy hv hr ih hb1 hb2
    go_enter Try.func14, Try.ntmps14
    go_wp2_with (first
      | (rw [HW1.out, HW2.out, HW3.out]; go_at_call 20; refine HC.out.mono ?_; clear HC; rintro e w4 ⟨rfl, hb4⟩))
    go_ret
    exact ⟨rfl, HB3.out.trans (hb4.mono HB3.out.size)⟩
  by_cases h17 : k = 17
  · subst h17
    obtain ⟨⟨K, hlk, hop⟩, -⟩ := hr W2 (hb2.mono hh) s hss
    have hc := hap W2 hb2 hi (Nat.le_refl _) (by omega) _ _ (TY.ruleU s).2 hop
    rw [tyOf_17]
    obtain ⟨y, hy⟩ : ∃ y, (if l.map TY.tyOf = (TY.ruleU s).1 then (TY.ruleU s).2 else 0 : Nat) = y := ⟨_, rfl⟩
    rw [hy] at hc ⊢
    obtain ⟨A2, c2, rfl, _, _, _⟩ := hop
    obtain ⟨m2, hm2⟩ : ∃ m, (TY.ruleU s).1.length = m := ⟨_, rfl⟩
    obtain ⟨r2, hr2⟩ : ∃ m, (TY.ruleU s).2 = m := ⟨_, rfl⟩
    rw [hm2, hr2] at hc hlk
    have HC := Lib.hid hc
    have HB2 := Lib.hid hb2
    rw [← hW2, ← hW1] at hlk
    have HW1 := Lib.hid hW1
    have HW2 := Lib.hid hW2
    clear hc hb2 hW1 hW2 hap hy hv hr ih hb1 hm2 hr2
    go_enter Try.func14, Try.ntmps14
    go_wp2_with (first
      | (rw [HW1.out, HW2.out]; go_at_call 20; refine HC.out.mono ?_; clear HC; rintro e w4 ⟨rfl, hb4⟩))
    go_ret
    exact ⟨rfl, HB2.out.trans (hb4.mono HB2.out.size)⟩
  by_cases h18 : k = 18
  · subst h18
    obtain ⟨-, ⟨K, hlk, hop⟩⟩ := hr W2 (hb2.mono hh) s hss
    have hc := hap W2 hb2 hi (Nat.le_refl _) (by omega) _ _ (TY.ruleB s).2 hop
    rw [tyOf_18]
    obtain ⟨y, hy⟩ : ∃ y, (if l.map TY.tyOf = (TY.ruleB s).1 then (TY.ruleB s).2 else 0 : Nat) = y := ⟨_, rfl⟩
    rw [hy] at hc ⊢
    obtain ⟨A2, c2, rfl, _, _, _⟩ := hop
    obtain ⟨m2, hm2⟩ : ∃ m, (TY.ruleB s).1.length = m := ⟨_, rfl⟩
    obtain ⟨r2, hr2⟩ : ∃ m, (TY.ruleB s).2 = m := ⟨_, rfl⟩
    rw [hm2, hr2] at hc hlk
    have HC := Lib.hid hc
    have HB2 := Lib.hid hb2
    rw [← hW2, ← hW1] at hlk
    have HW1 := Lib.hid hW1
    have HW2 := Lib.hid hW2
    clear hc hb2 hW1 hW2 hap hy hv hr ih hb1 hm2 hr2
    go_enter Try.func14, Try.ntmps14
    go_wp2_with (first
      | (rw [HW1.out, HW2.out]; go_at_call 20; refine HC.out.mono ?_; clear HC; rintro e w4 ⟨rfl, hb4⟩))
    go_ret
    exact ⟨rfl, HB2.out.trans (hb4.mono HB2.out.size)⟩
  have HB2 := Lib.hid hb2
  have HW := Lib.hid (show (W.alloc (.cells #[.map (some mu), .map (some mb)] 48)).alloc (.cells #[.int .i64 k, .int .i64 n, .string s, .slice A l.length c] 25) = W2 by rw [hW1, hW2])
  clear hap hv hr ih hb1 hb2 hW1 hW2
  by_cases h12 : k = 12
  · subst h12
    rw [tyOf_lit _ _ _ _ (.inl rfl)]
    go_enter Try.func14, Try.ntmps14
    go_wp2_with fail
    go_ret
    rw [HW.out]
    exact ⟨rfl, HB2.out⟩
  by_cases h14 : k = 14
  · subst h14
    rw [tyOf_lit _ _ _ _ (.inr (.inl rfl))]
    go_enter Try.func14, Try.ntmps14
    go_wp2_with fail
    go_ret
    rw [HW.out]
    exact ⟨rfl, HB2.out⟩
  by_cases h15 : k = 15
  · subst h15
    rw [tyOf_lit _ _ _ _ (.inr (.inr rfl))]
    go_enter Try.func14, Try.ntmps14
    go_wp2_with fail
    go_ret
    rw [HW.out]
    exact ⟨rfl, HB2.out⟩
  by_cases h13 : k = 13
  · subst h13
    rw [tyOf_13]
    go_enter Try.func14, Try.ntmps14
    go_wp2_with fail
    go_ret
    rw [HW.out]
    exact ⟨rfl, HB2.out⟩
  rw [tyOf_out k n s l (by omega)]
  have e12 : (k == 12) = false := by simpa using h12
  have e13 : (k == 13) = false := by simpa using h13
  have e14 : (k == 14) = false := by simpa using h14
  have e15 : (k == 15) = false := by simpa using h15
  have e16 : (k == 16) = false := by simpa using h16
  have e17 : (k == 17) = false := by simpa using h17
  have e18 : (k == 18) = false := by simpa using h18
  go_enter Try.func14, Try.ntmps14
  go_wp2_with fail
  go_ret
  rw [HW.out]
  exact ⟨rfl, HB2.out⟩
end Go.Proofs.Ytligbandpmgmaaa
