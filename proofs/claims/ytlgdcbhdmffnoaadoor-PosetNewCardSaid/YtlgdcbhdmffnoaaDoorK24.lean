/-
  The reference's New where a pair is out of range; its Less and Concurrent at any integers.
-/
import Derived.Test.YtlgdcbhdmffnoaaDoorK16
import Derived.Test.YtlgdcbhdmffnoaaDoorK11

namespace Go.Proofs.YtlgdcbhdmffnoaaDoor
open Go Go.RowKit Go.Proofs

set_option maxRecDepth 100000 in
set_option maxHeartbeats 4000000 in
theorem refNew_out (n m c : Nat) (A : Option Addr) (P : List (Int × Int)) (w : World) (hn : n ≤ 9) (hm : m ≤ 1000) (hE : EdgI w w.heap.size A m P) (hd : inP n P = false) :
    Calls Tryd.prog 16 #[.int .i64 (n : Int), .slice A m c] w fun e w' => e = .returned (.tuple #[.agg #[.int .i64 0, .slice none 0 0], .int .i64 6]) ∧ Below w.heap.size w w' := by
  have hzv := zero_O_run
  obtain ⟨w1, hw1⟩ : ∃ W, w.alloc (.cells #[.int .i64 0, .slice none 0 0] 33) = W := ⟨_, rfl⟩
  have hb1 : Below w.heap.size w w1 := by rw [← hw1]; exact (Below.refl _ _).alloc (Nat.le_refl _) _
  have ho1 : OB w1 w.heap.size 0 (.slice none 0 0) := by rw [← hw1]; exact World.alloc_heap_new w _
  have HE := Lib.hid hE
  have HD := Lib.hid hd
  have HPL := Lib.hid hE.1
  have HW1 := Lib.hid hw1
  have HB1 := Lib.hid hb1
  have HO1 := Lib.hid ho1
  clear hE hd hw1 hb1 ho1
  go_enter Tryd.func16, Tryd.ntmps16
  go_wp2_with fail
  rw [HW1.out]
  go_loopw [6] (fun i V => ∃ k : Nat, k ≤ m ∧ i = .int .i64 (k : Int) ∧ Hid (inP n (P.take k) = true) ∧ V = w1) (fun i _ => m - (intOf i).toNat)
  case atStart => exact ⟨0, Nat.zero_le _, rfl, (show inP n (P.take 0) = true from rfl), rfl⟩
  case round =>
    obtain ⟨k, hk, rfl, hin, rfl⟩ := hrel
    by_cases hlt : k < m
    · obtain ⟨b, off, x, y, rfl, hbl, hxk, c1, c2⟩ := (HE.out.below HB1.out).at_ hlt
      have HX := Lib.hid hxk
      obtain ⟨f0, f1, g0, g1⟩ := HO1.out.facts
      clear hxk
      by_cases hb : (PO.isEl n x && PO.isEl n y) = true
      · have HN := Lib.hid (inP_snoc HX.out hin.out hb)
        rw [Bool.and_eq_true] at hb
        obtain ⟨a, rfl, ha⟩ := PO.isEl_iff.1 hb.1
        obtain ⟨d, rfl, hd⟩ := PO.isEl_iff.1 hb.2
        clear hb
        go_wp2_with fail
        go_roundw
        case rel => exact ⟨k + 1, by omega, by go_num, HN.out, trivial⟩
        case measure => simp [intOf]; omega
      · have hor : x < 0 ∨ (0 ≤ x ∧ (n : Int) ≤ x) ∨ (0 ≤ x ∧ x < (n : Int) ∧ y < 0) ∨ (0 ≤ x ∧ x < (n : Int) ∧ 0 ≤ y ∧ (n : Int) ≤ y) := by
          rw [Bool.not_eq_true] at hb
          unfold PO.isEl at hb
          simp only [Bool.and_eq_false_iff, decide_eq_false_iff_not] at hb
          omega
        have HOW := Lib.hid (show OB ((wr.setCell ⟨w.heap.size, 0, none⟩ (.int .i64 0)).setCell ⟨w.heap.size, 1, none⟩ (.slice none 0 0)) w.heap.size 0 (.slice none 0 0) from HO1.out.store (n' := 0))
        have HBW := Lib.hid ((HB1.out.setCell (p := ⟨w.heap.size, 0, none⟩) (Nat.le_refl _) (.int .i64 0)).setCell (p := ⟨w.heap.size, 1, none⟩) (Nat.le_refl _) (.slice none 0 0))
        clear hb hin
        rcases hor with h1 | ⟨h1, h2⟩ | ⟨h1, h2, h3⟩ | ⟨h1, h2, h3, h4⟩
        all_goals
          go_wp2_with fail
          refine bodyPost_ret (ret_O rfl _ rfl rfl (n := 0) HOW.out) rfl ?_
          exact ⟨rfl, HBW.out⟩
    · obtain rfl : m = k := by omega
      exfalso
      have := hin.out
      rw [List.take_of_length_le (by rw [HPL.out]; exact Nat.le_refl _), HD.out] at this
      cases this
set_option maxRecDepth 100000 in
set_option maxHeartbeats 2000000 in
theorem refLessI_any (W : World) (lo k : Nat) (A : Option Addr) (c : Nat) (gs : List Nat) (M : Nat → Nat → Bool) (hmx : Mx W lo (.slice A k c) k k gs M) (hk : k ≤ 1000) {R : List Nat} (hRl : R.length = k) (hM : ∀ a b, PO.lt R a b = M a b) (x z : Int) :
    Calls Tryd.prog 19 #[.agg #[.int .i64 (k : Int), .slice A k c], .int .i64 x, .int .i64 z] W fun e w' => e = .returned (.bool (PO.ltI R x z)) ∧ Below W.heap.size W w' := by
  by_cases hx : PO.isEl k x = true
  · obtain ⟨a, rfl, ha⟩ := PO.isEl_iff.1 hx
    refine (refLess_any W lo k A c gs M hmx hk a ha z).mono fun e w' h => ⟨?_, h.2⟩
    rw [h.1]
    congr 2
    unfold lssM PO.ltI
    rw [hRl, hx, Bool.true_and, Int.toNat_natCast, hM]
    rfl
  · have HE := Lib.hid (show PO.ltI R x z = false by unfold PO.ltI; rw [hRl]; simp only [Bool.not_eq_true] at hx; rw [hx]; rfl)
    have HB1 := Lib.hid (show Below W.heap.size W (W.alloc (.cells #[.int .i64 (k : Int), .slice A k c] 33)) from (Below.refl _ _).alloc (Nat.le_refl _) _)
    have hor : x < 0 ∨ (0 ≤ x ∧ z < 0) ∨ (0 ≤ x ∧ 0 ≤ z ∧ (k : Int) ≤ x) := by
      rw [Bool.not_eq_true] at hx
      unfold PO.isEl at hx
      simp only [Bool.and_eq_false_iff, decide_eq_false_iff_not] at hx
      omega
    clear hx hmx hM hRl
    rcases hor with h1 | ⟨h1, h2⟩ | ⟨h1, h2, h3⟩
    all_goals
      go_enter Tryd.func19, Tryd.ntmps19
      go_wp2_with fail
      go_ret
      exact ⟨by rw [HE.out]; rfl, HB1.out⟩
set_option maxRecDepth 100000 in
set_option maxHeartbeats 2000000 in
theorem refConc_any (W : World) (lo k : Nat) (A : Option Addr) (c : Nat) (gs : List Nat) (M : Nat → Nat → Bool) (hmx : Mx W lo (.slice A k c) k k gs M) (hk : k ≤ 1000) {R : List Nat} (hRl : R.length = k) (hM : ∀ a b, PO.lt R a b = M a b) (x z : Int) :
    Calls Tryd.prog 21 #[.agg #[.int .i64 (k : Int), .slice A k c], .int .i64 x, .int .i64 z] W fun e w' => e = .returned (.bool (PO.concI R x z)) ∧ Below W.heap.size W w' := by
  have HB1 := Lib.hid (show Below W.heap.size W (W.alloc (.cells #[.int .i64 (k : Int), .slice A k c] 33)) from (Below.refl _ _).alloc (Nat.le_refl _) _)
  by_cases hb : (PO.isEl k x && PO.isEl k z && decide (x ≠ z)) = true
  · have hb' := hb
    rw [Bool.and_eq_true, Bool.and_eq_true] at hb
    obtain ⟨⟨hx, hz⟩, hne⟩ := hb
    obtain ⟨a, rfl, ha⟩ := PO.isEl_iff.1 hx
    obtain ⟨d, rfl, hd⟩ := PO.isEl_iff.1 hz
    have HE := Lib.hid (show PO.concI R (a : Int) (d : Int) = (!M a d && !M d a) by
      unfold PO.concI
      rw [hRl, hb', Bool.true_and, Int.toNat_natCast, Int.toNat_natCast, hM, hM])
    have hnd : ((a : Int) == (d : Int)) = false := by
      rw [decide_eq_true_iff] at hne
      exact beq_eq_false_iff_ne.2 hne
    have HM := Lib.hid (hmx.below HB1.out)
    obtain ⟨gm, cm, hv, _, _⟩ := hmx.form (by omega)
    injection hv with hA _ hc
    subst hA hc
    obtain ⟨g, hg, hcg⟩ := HM.out.cell (i := a) ha
    obtain ⟨g', hg', hcg'⟩ := HM.out.cell (i := d) hd
    have hbit := HM.out.bit hg hd
    have hbit' := HM.out.bit hg' ha
    obtain ⟨b1, hb1⟩ : ∃ b, M a d = b := ⟨_, rfl⟩
    obtain ⟨b2, hb2⟩ : ∃ b, M d a = b := ⟨_, rfl⟩
    rw [hb1] at hbit HE
    rw [hb2] at hbit' HE
    clear hg hg' hmx HM hM hx hz hne hb' hb1 hb2 hRl
    cases b1
    all_goals
      go_enter Tryd.func21, Tryd.ntmps21
      go_wp2_with fail
      go_ret
      exact ⟨by rw [HE.out]; rfl, HB1.out⟩
  · have HE := Lib.hid (show PO.concI R x z = false by unfold PO.concI; rw [hRl]; simp only [Bool.not_eq_true] at hb; rw [hb]; rfl)
    have hor : x < 0 ∨ (0 ≤ x ∧ z < 0) ∨ (0 ≤ x ∧ 0 ≤ z ∧ (k : Int) ≤ x) ∨ (0 ≤ x ∧ 0 ≤ z ∧ x < (k : Int) ∧ (k : Int) ≤ z) ∨ (0 ≤ x ∧ 0 ≤ z ∧ x < (k : Int) ∧ z < (k : Int) ∧ x = z) := by
      rw [Bool.not_eq_true] at hb
      unfold PO.isEl at hb
      simp only [Bool.and_eq_false_iff, decide_eq_false_iff_not] at hb
      omega
    clear hb hmx hM hRl
    rcases hor with h1 | ⟨h1, h2⟩ | ⟨h1, h2, h3⟩ | ⟨h1, h2, h3, h4⟩ | ⟨h1, h2, h3, h4, h5⟩
    · go_enter Tryd.func21, Tryd.ntmps21
      go_wp2_with fail
      go_ret
      exact ⟨by rw [HE.out]; rfl, HB1.out⟩
    · go_enter Tryd.func21, Tryd.ntmps21
      go_wp2_with fail
      go_ret
      exact ⟨by rw [HE.out]; rfl, HB1.out⟩
    · go_enter Tryd.func21, Tryd.ntmps21
      go_wp2_with fail
      go_ret
      exact ⟨by rw [HE.out]; rfl, HB1.out⟩
    · go_enter Tryd.func21, Tryd.ntmps21
      go_wp2_with fail
      go_ret
      exact ⟨by rw [HE.out]; rfl, HB1.out⟩
    · subst h5
      go_enter Tryd.func21, Tryd.ntmps21
      go_wp2_with fail
      go_ret
      exact ⟨by rw [HE.out]; rfl, HB1.out⟩
end Go.Proofs.YtlgdcbhdmffnoaaDoor
