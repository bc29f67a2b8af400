/-
  The walk of the law HashPairs: Pair is injective in each argument and is the Sum over the two hashes. Conditions: the three arguments fit 64 bits.
-/
import Derived.Test.YtmjonpiaphncmaaPair
import Derived.OpenShut
namespace Go.Proofs.Ytmjonpiaphncmaa.LawHashPairs
open Go.RowKit

theorem pair_eq (a b : Int) (ha : W64 a) (hb : W64 b) : pairI a b = mixI (mixI (mixI (mixI (lab1 pairS) 2) a) b) 0 := by
  unfold pairI sumI
  show mixI (foldW (mixI (lab1 pairS) 2) [u64 (i64 a), u64 (i64 b)]) 0 = _
  rw [u64_i64 a ha, u64_i64 b hb]
  rfl
theorem pairS_b8 : ∀ x ∈ pairS, B8 x := by unfold B8 pairS; decide
theorem base_w : W64 (mixI (lab1 pairS) 2) := mixI_w _ _ (lab1_w pairS pairS_b8 (len_small (by decide))) ⟨by decide, by decide⟩
theorem pair_left {a b c : Int} (ha : W64 a) (hb : W64 b) (hc : W64 c) (h : pairI a c = pairI b c) : a = b := by
  rw [pair_eq a c ha hc, pair_eq b c hb hc] at h
  have wa := mixI_w _ _ base_w ha
  have wb := mixI_w _ _ base_w hb
  exact mixI_inj base_w ha hb (mixI_inj_state wa wb hc (mixI_inj_state (mixI_w _ _ wa hc) (mixI_w _ _ wb hc) w64_zero h))
theorem pair_right {a b c : Int} (ha : W64 a) (hb : W64 b) (hc : W64 c) (h : pairI c a = pairI c b) : a = b := by
  rw [pair_eq c a hc ha, pair_eq c b hc hb] at h
  have wc := mixI_w _ _ base_w hc
  exact mixI_inj wc ha hb (mixI_inj_state (mixI_w _ _ wc ha) (mixI_w _ _ wc hb) w64_zero h)

theorem sum_pair (a b : Int) (w : World) :
    Calls Try.prog 13 #[.string { data := #[112, 97, 105, 114] }, .slice (some ⟨w.heap.size, 0, none⟩) 2 2] (w.alloc (.cells #[.int .i64 (wrap64 a), .int .i64 (wrap64 b)] 3)) fun e w' => e = .returned (.int .u64 (pairI a b)) ∧ Below w.heap.size w w' := by
  have h := sum_two sPair (len_small (by decide)) (wrap64 a) (wrap64 b) w
  rw [sb_pair, wrap64_i64, wrap64_i64] at h
  rw [wrap64_i64, wrap64_i64]
  exact h

theorem w64_of {a : Int} (h : (Lit.int .u64 a).wf = true) : W64 a := by
  have := bounds_u64 h
  unfold W64
  omega

set_option maxHeartbeats 1000000 in
theorem walk (a0 a1 a2 : Int) (w : World) (w0 : (Lit.int .u64 a0).wf = true) (w1 : (Lit.int .u64 a1).wf = true) (w2 : (Lit.int .u64 a2).wf = true) :
    Calls Try.prog 9 #[.int .u64 a0, .int .u64 a1, .int .u64 a2] w fun e w' => e = .returned (.bool true) ∧ Below w.heap.size w w' := by
  have k0 := w64_of w0
  have k1 := w64_of w1
  have k2 := w64_of w2
  obtain ⟨B, hB⟩ : ∃ B : Bool, (a0 == a1) = B := ⟨_, rfl⟩
  have f1 : (pairI a0 a2 == pairI a1 a2) = B := by
    rw [← hB, Bool.eq_iff_iff, beq_iff_eq, beq_iff_eq]
    exact ⟨pair_left k0 k1 k2, fun h => by rw [h]⟩
  have f2 : (pairI a2 a0 == pairI a2 a1) = B := by
    rw [← hB, Bool.eq_iff_iff, beq_iff_eq, beq_iff_eq]
    exact ⟨pair_right k0 k1 k2, fun h => by rw [h]⟩
  clear w0 w1 w2 k0 k1 k2
  have H := Lib.hid (sum_pair a0 a1)
  go_enter Try.func9, Try.ntmps9
  go_wp2_with fail
  refine (pair_any a0 a2 _).mono ?_
  rintro e u1 ⟨rfl, hb1⟩
  go_wp2_with fail
  refine (pair_any a1 a2 _).mono ?_
  rintro e u2 ⟨rfl, hb2⟩
  go_wp2_with fail
  refine (pair_any a2 a0 _).mono ?_
  rintro e u3 ⟨rfl, hb3⟩
  go_wp2_with fail
  refine (pair_any a2 a1 _).mono ?_
  rintro e u4 ⟨rfl, hb4⟩
  go_wp2_with fail
  refine (pair_any a0 a1 _).mono ?_
  rintro e u5 ⟨rfl, hb5⟩
  go_wp2_with fail
  refine (H.out _).mono ?_
  rintro e u6 ⟨rfl, hb6⟩
  go_wp2_with fail
  refine (lives_any _).mono ?_
  rintro e u7 ⟨rfl, hb7⟩
  go_wp2_with fail
  go_ret
  have b2 := hb1.trans (hb2.mono hb1.size)
  have b3 := b2.trans (hb3.mono b2.size)
  have b4 := b3.trans (hb4.mono b3.size)
  have b5 := b4.trans (hb5.mono b4.size)
  have b6 := b5.trans (hb6.mono b5.size)
  exact ⟨rfl, b6.trans (hb7.mono b6.size)⟩
end Go.Proofs.Ytmjonpiaphncmaa.LawHashPairs
