/-
  lives: the chapter's example. No condition.
-/
import Derived.Test.YtgdefhlcgmibcaaDkL
namespace Go.Proofs.Ytgdefhlcgmibcaa
open Go Go.RowKit Go.Proofs
attribute [local go_sem] Oper.semAt_some

theorem dk_field0 (x0 x1 : Value) (w : World) : (Instr.field 26 (.agg #[x0, x1]) 0).run Try.prog w = .ok x0 w := by
  simp [Instr.field, go_sem, part, asAgg, Try.isAgg22]
attribute [local go_sem] dk_field0
/-- A new row of integers. -/
theorem new_ints (Z : World) (l : List Int) {n : Nat} (hn : l.length = n) (hm : n ≤ 100000) : Cls Z.heap.size (Z.alloc (.cells (DK.intsC l).toArray 3)) (some ⟨Z.heap.size, 0, none⟩) n n l := Cls.of_block (dk_new_at rfl) (Nat.le_refl _) hn hm
theorem new_bools (Z : World) (l : List Bool) {n : Nat} (hn : l.length = n) (hm : n ≤ 100000) : Bls Z.heap.size (Z.alloc (.cells (DK.blsC l).toArray 4)) (some ⟨Z.heap.size, 0, none⟩) n n l :=
  Rw.of_block (C := (DK.blsC l).toArray) (dk_new_at rfl) (Nat.le_refl _) (by rw [DK.blsC_len]; omega) (Nat.le_refl _) (by simp [maxLen]; omega) fun j u hu => by simpa using hu
theorem sameInts_eq {lo lo' n n' c c' : Nat} {A A' : Option Addr} {xs ys : List Int} {b : Bool} (w : World) (hx : Cls lo w A n c xs) (hy : Cls lo' w A' n' c' ys) (hn : n ≤ 1000000) (hb : decide (xs = ys) = b) :
    Calls Try.prog 18 #[.slice A n c, .slice A' n' c'] w fun e w' => e = .returned (.bool b) ∧ Below w.heap.size w w' := by
  subst hb
  exact sameInts_any A A' n n' c c' xs ys w hx.ints hy.ints hn
theorem after_box {w w' : World} {o : Obj} (h : Below (w.alloc o).heap.size (w.alloc o) w') : Below w.heap.size w w' := (dk_box w o).trans (h.mono (by simp))
set_option maxHeartbeats 4000000 in
set_option maxRecDepth 100000 in
theorem lives_any (w : World) : Calls Try.prog 21 #[] w fun e w' => e = .returned (.bool true) ∧ Below w.heap.size w w' := by
  go_enter Try.func21, Try.ntmps21
  go_wp2_with fail
  refine (new_any 2 (by omega) _).mono ?_
  rintro e w1 ⟨⟨y1, rfl, h1⟩, hb1⟩
  have H1 := Lib.hid (And.intro h1 hb1)
  obtain ⟨A1, n1, c1, P1, m1, q1, rfl, _⟩ := h1
  clear hb1
  go_wp2_with fail
  refine (write_any 0 5 _ H1.out.1 (by decide) (by decide)).mono ?_
  rintro e w2 ⟨⟨y2, rfl, h2⟩, hb2⟩
  have H2 := Lib.hid (And.intro h2 (H1.out.2.trans (hb2.mono H1.out.2.size)))
  obtain ⟨A2, n2, c2, P2, m2, q2, rfl, _⟩ := h2
  clear hb2
  go_wp2_with fail
  refine (write_any 1 6 _ H2.out.1 (by decide) (by decide)).mono ?_
  rintro e w3 ⟨⟨y3, rfl, h3⟩, hb3⟩
  have H3 := Lib.hid (And.intro h3 (H2.out.2.trans (hb3.mono H2.out.2.size)))
  obtain ⟨A3, n3, c3, P3, m3, q3, rfl, _⟩ := h3
  clear hb3
  go_wp2_with fail
  refine (write_any 0 7 _ H3.out.1 (by decide) (by decide)).mono ?_
  rintro e w4 ⟨⟨y4, rfl, h4⟩, hb4⟩
  have H4 := Lib.hid (And.intro h4 (H3.out.2.trans (hb4.mono H3.out.2.size)))
  obtain ⟨A4, n4, c4, P4, m4, q4, rfl, _⟩ := h4
  clear hb4
  go_upto_region 2 with (refine dk_store rfl _ _ rfl w4.heap.size A4 n4 c4 P4 m4 q4 _ _ rfl rfl (dk_new_at rfl) ?_; intro w5 k5 ho5 hz5 hb5)
  have HS := Lib.hid (And.intro (H4.out.1.keep ((dk_box w4 _).trans hb5)) (And.intro (H4.out.2.trans (((dk_box w4 _).trans hb5).mono H4.out.2.size)) (show w5.heap.size = w4.heap.size + 1 by rw [hz5]; simp)))
  have HK := Lib.hid (fun (V : World) (hV : Below w5.heap.size w5 V) => dk_two ((hV.block w4.heap.size (by rw [hz5]; simp)).trans k5))
  clear k5 ho5 hz5 hb5
  obtain ⟨d0, d1⟩ := HK.out w5 (Below.refl _ _)
  go_wp2_with fail
  refine (view_any _ HS.out.1 (by decide) (by decide)).mono ?_
  rintro e w6 ⟨⟨g6, rfl, l6, k6⟩, hb6⟩
  have HV := Lib.hid (And.intro k6 hb6)
  obtain ⟨e0, e1⟩ := HK.out w6 hb6
  clear k6 l6 hb6 d0 d1
  go_wp2_with fail
  have hc6 : Cls 0 w6 (some ⟨g6, 0, none⟩) 2 2 [7, 6] := Cls.of_block HV.out.1 (Nat.zero_le _) rfl (by omega)
  refine (sameInts_eq (b := true) _ (hc6.keep (dk_box _ _)) (new_ints (n := 2) w6 [7, 6] rfl (by omega)) (by omega) (by decide)).mono ?_
  rintro e w7 ⟨rfl, hb7⟩
  have HW7 := Lib.hid (HV.out.2.trans ((after_box hb7).mono HV.out.2.size))
  obtain ⟨f0, f1⟩ := HK.out w7 HW7.out
  clear hb7 e0 e1 hc6
  go_wp2_with fail
  have hw8 := HW7.out.trans ((dk_box w7 (.cells #[.bool true, .bool false, .bool false] 4)).mono HW7.out.size)
  refine (crash_any _ (HS.out.1.keep hw8) (new_bools (n := 3) w7 [true, false, false] rfl (by omega)) (by decide) (by decide) (by omega)).mono ?_
  rintro e w8 ⟨⟨y8, rfl, A8, n8, c8, P8, m8, q8, rfl, j1, _⟩, hb8⟩
  have H8 := Lib.hid (And.intro j1 (HW7.out.trans ((after_box hb8).mono HW7.out.size)))
  have hn8 : 2 = n8 := j1.len
  subst hn8
  clear hb8 j1 f0 f1 hw8
  go_wp2_with fail
  refine (sameInts_eq (b := true) _ (H8.out.1.keep (dk_box _ _)) (new_ints (n := 2) w8 [5, 0] rfl (by omega)) (by omega) (by decide)).mono ?_
  rintro e w9 ⟨rfl, hb9⟩
  have HW9 := Lib.hid (H8.out.2.trans ((after_box hb9).mono H8.out.2.size))
  clear hb9
  go_wp2_with fail
  go_ret
  exact ⟨rfl, HS.out.2.1.trans (HW9.out.mono HS.out.2.1.size)⟩
end Go.Proofs.Ytgdefhlcgmibcaa
