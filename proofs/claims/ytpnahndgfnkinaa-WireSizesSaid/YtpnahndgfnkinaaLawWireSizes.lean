/-
  The walk of the law WireSizes: a varint has one byte for every 7 bits that are needed, small absolute values have short encodings. No condition beyond the arguments' readings.
-/
import Derived.Test.YtpnahndgfnkinaaWLives
import Derived.Test.YtpnahndgfnkinaaAround
namespace Go.Proofs.Ytpnahndgfnkinaa.LawWireSizes
open Go Go.RowKit

set_option maxHeartbeats 400000 in
theorem bound_any (n : Int) (hn : I64 n) (w : World) :
    Calls Try.prog 30 #[.int .i64 n, .int .i64 63] w fun e w' => ∃ m : Int, -63 ≤ m ∧ m ≤ 63 ∧ e = .returned (.int .i64 m) ∧ w = w' := by
  obtain ⟨h0, h1⟩ := around_in n 127 (by decide)
  obtain ⟨m, hm⟩ : ∃ m, around n 127 = m := ⟨_, rfl⟩
  have HA := Lib.hid (around_any n 127 hn (by decide) (by decide) w)
  rw [hm] at HA h0 h1
  clear hm
  go_enter Try.func30, Try.ntmps30
  go_wp2_with fail
  refine HA.out.mono ?_
  rintro e w1 ⟨rfl, rfl⟩
  go_wp2_with fail
  go_ret
  exact ⟨m - 63, by omega, by omega, rfl, rfl⟩

theorem len_one (m : Int) (h0 : -63 ≤ m) (h1 : m ≤ 63) : (encI m).length = 1 := by
  unfold encI encU zig
  rw [encF, if_pos]
  · rfl
  · split <;> omega
theorem len_step (f : Nat) (m : Int) (h : ¬ m < 128) : (encF (f + 1) m).length = 1 + (encF f (m / 128)).length := by rw [encF_step f m h, List.length_cons]; omega
theorem len_last (f : Nat) (m : Int) (h : m < 128) : (encF (f + 1) m).length = 1 := by rw [encF_last f m h]; rfl

set_option maxHeartbeats 2000000 in
theorem walk (a0 : Int) (a1 : Int) (a2 : Int) (w : World) (w0 : (Lit.int .u64 a0).wf = true) (w1 : (Lit.int .i64 a1).wf = true) (w2 : (Lit.int .i64 a2).wf = true) :
    Calls Try.prog 9 #[.int .u64 a0, .int .i64 a1, .int .i64 a2] w fun e w' => e = .returned (.bool true) ∧ Below w.heap.size w w' := by
  have hu := bounds_u64 w0
  have hn := bounds_i64 w1
  have hs := bounds_i64 w2
  obtain ⟨h0, h1⟩ := around_in a2 64 (by decide)
  obtain ⟨s, hs'⟩ : ∃ s, around a2 64 = s := ⟨_, rfl⟩
  have HA := Lib.hid (around_any a2 64 ⟨by omega, by omega⟩ (by decide) (by decide) w)
  rw [hs'] at HA h0 h1
  clear hs' w0 w1 w2
  obtain ⟨s, rfl⟩ := Int.eq_ofNat_of_zero_le h0
  go_enter Try.func9, Try.ntmps9
  go_wp2_with fail
  refine HA.out.mono ?_
  rintro e w1 ⟨rfl, rfl⟩
  have hK0 : 0 ≤ a0 / 2 ^ s := Int.ediv_nonneg hu.1 (Int.le_of_lt (Int.pow_pos (by decide)))
  have hK1 : a0 / 2 ^ s ≤ a0 := Int.ediv_le_self _ hu.1
  go_wp2_with fail
  obtain ⟨K, hK⟩ : ∃ K, a0 / 2 ^ s = K := ⟨_, rfl⟩
  rw [hK] at hK0 hK1 ⊢
  clear hK
  have hKw : W64 K := ⟨hK0, by omega⟩
  go_loop [8, 9] (fun x r => ∃ (f l : Nat) (m : Int), l ≤ 10 ∧ l + f ≤ 10 ∧ 0 ≤ m ∧ m ≤ 9223372036854775807 ∧ m < 128 ^ f ∧ x = .int .i64 l ∧ r = .int .u64 m ∧ Hid (l + (if 0 < m then (encF f m).length else 0) = (encU K).length)) (fun _ r => (intOf r).toNat)
  case atStart =>
    refine ⟨9, 1, K / 128, by omega, by omega, by omega, by omega, ?_, rfl, rfl, ?_⟩
    · have e : (128 : Int) ^ 9 = 9223372036854775808 := by decide
      rw [e]; omega
    · show _ = _
      unfold encU
      by_cases h : K < 128
      · rw [len_last 9 K h, if_neg (by omega)]
      · rw [len_step 9 K h, if_pos (by omega)]
  case round =>
    obtain ⟨f, l, m, hl, hlf, hm0, hm2, hm1, rfl, rfl, hE⟩ := hrel
    by_cases hmp : 0 < m
    · obtain ⟨q, rfl⟩ : ∃ q, f = q + 1 := ⟨f - 1, by
        rcases f with _ | f
        · simp at hm1; omega
        · omega⟩
      have hm1' : m / 128 < 128 ^ q := by rw [Int.pow_succ] at hm1; omega
      clear hm1
      go_wp2_with fail
      go_round
      case rel =>
        refine ⟨q, l + 1, m / 128, by omega, by omega, by omega, by omega, hm1', by go_num, rfl, ?_⟩
        show _ = _
        rw [← hE.out, if_pos hmp]
        by_cases h : m < 128
        · rw [len_last q m h, if_neg (by omega)]
        · rw [len_step q m h, if_pos (by omega)]; omega
      case measure => simp [intOf]; omega
    · have hm : m = 0 := by omega
      have hE' := hE.out
      rw [if_neg hmp, Nat.add_zero] at hE'
      have HE := Lib.hid hE'
      clear hE hE' hm1 hm
      have hO := OutAt.new w
      have hA := Below.alloc (Below.refl w.heap.size w) (Nat.le_refl _) (.cells #[.slice none 0 0] 32)
      go_wp2_with fail
      refine (out_uint w.heap.size w.heap.size K _ _ hO hKw (by simp)).mono ?_
      rintro e w1 ⟨rfl, h1, hb1⟩
      have b1 := hA.trans hb1
      have hB := Lib.hid (bound_any a1 ⟨by omega, by omega⟩ (w1.alloc (.cells #[.slice none 0 0] 32)))
      have hP := OutAt.new w1
      have hAl := Below.alloc (Below.refl w1.heap.size w1) (Nat.le_refl _) (.cells #[.slice none 0 0] 32)
      clear hO
      go_wp2_with fail
      refine hB.out.mono ?_
      rintro e w2 ⟨m2, hm20, hm21, rfl, rfl⟩
      have HM1 := Lib.hid (len_one m2 hm20 hm21)
      have HM2 := Lib.hid (len_one (-m2) (by omega) (by omega))
      go_wp2_with fail
      refine (out_int w1.heap.size w1.heap.size m2 _ _ hP ⟨by omega, by omega⟩ (by simp)).mono ?_
      rintro e w3 ⟨rfl, h3, hb3⟩
      go_wp2_with fail
      refine (out_int w1.heap.size w1.heap.size (-m2) _ _ h3 ⟨by omega, by omega⟩ (by simp [HM1.out])).mono ?_
      rintro e w4 ⟨rfl, h4, hb4⟩
      have b14 := (hAl.trans hb3).trans hb4
      have h14 := h1.below b14
      have hul := encU_len K
      go_wp2_with fail
      refine (out_done _ _ _ w4 h14 (by simp; omega)).mono ?_
      rintro e w5 ⟨A5, n5, c5, rfl, hn5, -, -, hb5⟩
      obtain rfl : n5 = l := by rw [← hn5, HE.out]; rfl
      have h45 := h4.below hb5
      clear hn5 h1 h3 hP hul
      go_wp2_with fail
      refine (out_done _ _ _ w5 h45 (by simp [HM1.out, HM2.out])).mono ?_
      rintro e w6 ⟨A6, n6, c6, rfl, hn6, -, -, hb6⟩
      obtain rfl : n6 = 2 := by rw [← hn6]; simp [HM1.out, HM2.out]
      clear hn6
      go_wp2_with fail
      refine (lives_any w6).mono ?_
      rintro e w7 ⟨rfl, hb7⟩
      go_wp2_with fail
      go_ret
      have b4 := b1.trans (b14.mono b1.size)
      have b5 := b4.trans (hb5.mono b4.size)
      have b6 := b5.trans (hb6.mono b5.size)
      exact ⟨rfl, b6.trans (hb7.mono b6.size)⟩
end Go.Proofs.Ytpnahndgfnkinaa.LawWireSizes
