/-
  The reference's token at a sign; its token at any place.
-/
import Derived.Test.YtiejhgdjkfhmoaaDoorK6

namespace Go.Proofs.YtiejhgdjkfhmoaaDoor
open Go Go.RowKit Go.Proofs Go.Proofs.YtiejhgdjkfhmoaaDoor.LX

set_option maxRecDepth 100000 in
set_option maxHeartbeats 1000000 in
theorem refToken_sym (s : ByteArray) (a : Nat) (ha : a < s.size) (hs : s.size ≤ 1000000000) (w : World) (hw0 : isW ((bsOf s).getD a 0) = false) (hd0 : isD ((bsOf s).getD a 0) = false) :
    Calls Tryd.prog 24 #[.string s, .int .i64 (a : Int)] w fun e w' => e = .returned (rtokR s a (tok1 ((bsOf s).drop a))) ∧ Below w.heap.size w w' := by
  have hlen := bs_len s
  have HLEN := Lib.hid hlen
  have hdc := drop_cons (S := bsOf s) (i := a) (by rw [hlen]; exact ha)
  obtain ⟨c, hc⟩ : ∃ c : UInt8, s[a]'ha = c := ⟨_, rfl⟩
  have hg := bs_getD s ha
  rw [hc] at hg
  rw [hg] at hdc
  obtain ⟨w1, hw1⟩ : ∃ V, w.alloc (.cells #[.int .i64 0, .int .i64 0, .string ⟨#[]⟩, .int .i64 0] 49) = V := ⟨_, rfl⟩
  have htk : w1.heap[w.heap.size]? = some (.cells tok0 49 (0, 0)) := by rw [← hw1]; exact World.alloc_heap_new w _
  have hB1 : Below w.heap.size w w1 := by rw [← hw1]; exact (Below.refl _ w).alloc (Nat.le_refl _) _
  obtain ⟨t0, t1, t2, t3, tf⟩ := tok_cells htk
  have f0 := tf 0
  have f1 := tf 1
  have f2 := tf 2
  have f3 := tf 3
  clear tf
  have HTK := Lib.hid htk
  clear htk
  have hw : isW c = false := by rw [← hg]; exact hw0
  have hd : isD c = false := by rw [← hg]; exact hd0
  have HL := Lib.hid (letter_any c w1)
  have HD0 := Lib.hid (digit_any c w1)
  rw [hw] at HL
  rw [hd] at HD0
  have HTOK := Lib.hid (show tok1 ((bsOf s).drop a) = if isTwo c ((bsOf s).drop (a + 1)) then .good 3 2 0 else if isOne c then .good 3 1 0 else .bad 10 by
    rw [hdc]
    simp only [tok1, hw, hd, Bool.false_eq_true, if_false])
  obtain ⟨m, hm, ham, hms, H6, hmt⟩ : ∃ m : Nat, min ((a : Int) + 2) (s.size : Int) = (m : Int) ∧ a ≤ m ∧ m ≤ s.size ∧ hasS six (s.extract a m) = isTwo c ((bsOf s).drop (a + 1)) ∧ (isTwo c ((bsOf s).drop (a + 1)) = true → m = a + 2) := by
    by_cases h2 : a + 1 < s.size
    · refine ⟨a + 2, by omega, by omega, by omega, ?_, fun _ => rfl⟩
      have hdd := drop_cons (S := bsOf s) (i := a + 1) (by rw [hlen]; exact h2)
      rw [hdd]
      refine six_two c _ _ _ ?_
      have h3 := bs_extract s a (a + 2)
      rw [hdc, hdd, Nat.add_sub_cancel_left] at h3
      exact h3
    · have ht : (bsOf s).drop (a + 1) = [] := List.drop_eq_nil_of_le (by rw [hlen]; omega)
      refine ⟨a + 1, by omega, by omega, by omega, ?_, fun h => ?_⟩
      · rw [ht, isTwo_nil]
        refine six_one c _ ?_
        have h3 := bs_one s ha
        rw [hg] at h3
        exact h3
      · rw [ht, isTwo_nil] at h
        cases h
  have H16 : hasS sixteen (s.extract a (a + 1)) = isOne c := by
    refine sixteen_one c _ ?_
    have h3 := bs_one s ha
    rw [hg] at h3
    exact h3
  have h6 := fun V g (hS : Strs V g six) => refHas_any g 6 6 six (s.extract a m) V rfl (by decide) hS
  have h16 := fun V g (hS : Strs V g sixteen) => refHas_any g 16 16 sixteen (s.extract a (a + 1)) V rfl (by decide) hS
  rw [H6] at h6
  rw [H16] at h16
  obtain ⟨b2, hb2⟩ : ∃ b, isTwo c ((bsOf s).drop (a + 1)) = b := ⟨_, rfl⟩
  obtain ⟨b1, hb1⟩ : ∃ b, isOne c = b := ⟨_, rfl⟩
  rw [hb2] at h6 HTOK hmt
  rw [hb1] at h16 HTOK
  have HS6 := Lib.hid h6
  have HS16 := Lib.hid h16
  clear hdc hg hw0 hd0 hlen hw hd H6 H16 h6 h16 hb2 hb1
  cases b2 with
  | true =>
    have hma := hmt rfl
    subst hma
    have HT2 : Hid (tok1 ((bsOf s).drop a) = .good 3 2 0) := by
      have := HTOK.out
      exact this
    clear hmt HTOK
    go_enter Tryd.func24, Tryd.ntmps24
    go_wp2_with (first
        | (go_at_call 21
           refine HL.out.mono ?_
           rintro e w2 ⟨rfl, hww⟩
           have hww := hww.symm
           subst hww)
        | (go_at_call 22
           refine HD0.out.mono ?_
           rintro e w2 ⟨rfl, hww⟩
           have hww := hww.symm
           subst hww)
        | (go_at_call 30
           refine (HS6.out _ _ ?_).mono ?_
           · exact strs_lit _ six _ _ rfl
           rintro e w2 ⟨rfl, hww⟩
           have HTK2 : Hid (w2.heap[w.heap.size]? = some (.cells tok0 49 (0, 0))) := by
             rw [hww]
             exact (Below.heap_alloc _ _ _ (heap_lt HTK.out)).trans HTK.out
           have HB2 : Hid (Below w.heap.size w w2) := by
             rw [hww]
             exact hB1.alloc (Nat.le_of_lt (heap_lt HTK.out)) _
           clear hww HS6
           obtain ⟨t0, t1, t2, t3, tf⟩ := tok_cells HTK2.out
           have f0 := tf 0
           have f1 := tf 1
           have f2 := tf 2
           have f3 := tf 3
           clear tf))
    refine bodyPost_ret (rtok_ret rfl _ rfl rfl (tok_set (HTK2.out : w2.heap[w.heap.size]? = some (.cells tok0 49 (0, 0))) _ _ _ _)) rfl ⟨?_, tok_below HB2.out (Nat.le_refl _) _ _ _ _⟩
    rw [HT2.out]; rfl
  | false =>
    clear hmt
    cases b1 with
    | true =>
      have HT2 : Hid (tok1 ((bsOf s).drop a) = .good 3 1 0) := by
        have := HTOK.out
        exact this
      clear HTOK
      go_enter Tryd.func24, Tryd.ntmps24
      go_wp2_with (first
          | (go_at_call 21
             refine HL.out.mono ?_
             rintro e w2 ⟨rfl, hww⟩
             have hww := hww.symm
             subst hww)
          | (go_at_call 22
             refine HD0.out.mono ?_
             rintro e w2 ⟨rfl, hww⟩
             have hww := hww.symm
             subst hww)
          | (go_at_call 30
             refine (HS6.out _ _ ?_).mono ?_
             · exact strs_lit _ six _ _ rfl
             rintro e w2 ⟨rfl, hww⟩
             have HTK2 : Hid (w2.heap[w.heap.size]? = some (.cells tok0 49 (0, 0))) := by
               rw [hww]
               exact (Below.heap_alloc _ _ _ (heap_lt HTK.out)).trans HTK.out
             have HB2 : Hid (Below w.heap.size w w2) := by
               rw [hww]
               exact hB1.alloc (Nat.le_of_lt (heap_lt HTK.out)) _
             clear hww HS6
             obtain ⟨t0, t1, t2, t3, tf⟩ := tok_cells HTK2.out
             have f0 := tf 0
             have f1 := tf 1
             have f2 := tf 2
             have f3 := tf 3
             clear tf)
          | (go_at_call 30
             refine (HS16.out _ _ ?_).mono ?_
             · exact strs_lit _ sixteen _ _ rfl
             rintro e w3 ⟨rfl, hww⟩
             have HTK3 : Hid (w3.heap[w.heap.size]? = some (.cells tok0 49 (0, 0))) := by
               rw [hww]
               exact (Below.heap_alloc _ _ _ (heap_lt HTK2.out)).trans HTK2.out
             have HB3 : Hid (Below w.heap.size w w3) := by
               rw [hww]
               exact HB2.out.alloc (Nat.le_of_lt (heap_lt HTK2.out)) _
             clear hww
             obtain ⟨t0, t1, t2, t3, tf⟩ := tok_cells HTK3.out
             have f0 := tf 0
             have f1 := tf 1
             have f2 := tf 2
             have f3 := tf 3
             clear tf))
      refine bodyPost_ret (rtok_ret rfl _ rfl rfl (tok_set (HTK3.out : w3.heap[w.heap.size]? = some (.cells tok0 49 (0, 0))) _ _ _ _)) rfl ⟨?_, tok_below HB3.out (Nat.le_refl _) _ _ _ _⟩
      rw [HT2.out]; rfl
    | false =>
      have HT2 : Hid (tok1 ((bsOf s).drop a) = .bad 10) := by
        have := HTOK.out
        exact this
      clear HTOK
      go_enter Tryd.func24, Tryd.ntmps24
      go_wp2_with (first
          | (go_at_call 21
             refine HL.out.mono ?_
             rintro e w2 ⟨rfl, hww⟩
             have hww := hww.symm
             subst hww)
          | (go_at_call 22
             refine HD0.out.mono ?_
             rintro e w2 ⟨rfl, hww⟩
             have hww := hww.symm
             subst hww)
          | (go_at_call 30
             refine (HS6.out _ _ ?_).mono ?_
             · exact strs_lit _ six _ _ rfl
             rintro e w2 ⟨rfl, hww⟩
             have HTK2 : Hid (w2.heap[w.heap.size]? = some (.cells tok0 49 (0, 0))) := by
               rw [hww]
               exact (Below.heap_alloc _ _ _ (heap_lt HTK.out)).trans HTK.out
             have HB2 : Hid (Below w.heap.size w w2) := by
               rw [hww]
               exact hB1.alloc (Nat.le_of_lt (heap_lt HTK.out)) _
             clear hww HS6
             obtain ⟨t0, t1, t2, t3, tf⟩ := tok_cells HTK2.out
             have f0 := tf 0
             have f1 := tf 1
             have f2 := tf 2
             have f3 := tf 3
             clear tf)
          | (go_at_call 30
             refine (HS16.out _ _ ?_).mono ?_
             · exact strs_lit _ sixteen _ _ rfl
             rintro e w3 ⟨rfl, hww⟩
             have HTK3 : Hid (w3.heap[w.heap.size]? = some (.cells tok0 49 (0, 0))) := by
               rw [hww]
               exact (Below.heap_alloc _ _ _ (heap_lt HTK2.out)).trans HTK2.out
             have HB3 : Hid (Below w.heap.size w w3) := by
               rw [hww]
               exact HB2.out.alloc (Nat.le_of_lt (heap_lt HTK2.out)) _
             clear hww
             obtain ⟨t0, t1, t2, t3, tf⟩ := tok_cells HTK3.out
             have f0 := tf 0
             have f1 := tf 1
             have f2 := tf 2
             have f3 := tf 3
             clear tf))
      refine bodyPost_ret (rtok_ret rfl _ rfl rfl (tok_set (HTK3.out : w3.heap[w.heap.size]? = some (.cells tok0 49 (0, 0))) _ _ _ _)) rfl ⟨?_, tok_below HB3.out (Nat.le_refl _) _ _ _ _⟩
      rw [HT2.out]; rfl
/-- The reference's token at any place. -/
theorem refToken_any (s : ByteArray) (a : Nat) (ha : a < s.size) (hs : s.size ≤ 1000000000) (w : World) :
    Calls Tryd.prog 24 #[.string s, .int .i64 (a : Int)] w fun e w' => e = .returned (rtokR s a (tok1 ((bsOf s).drop a))) ∧ Below w.heap.size w w' := by
  cases hw : isW ((bsOf s).getD a 0) with
  | true => exact refToken_letter s a ha hs w hw
  | false =>
    cases hd : isD ((bsOf s).getD a 0) with
    | true => exact refToken_digit s a ha hs w hw hd
    | false => exact refToken_sym s a ha hs w hw hd
end Go.Proofs.YtiejhgdjkfhmoaaDoor
