/-
  The walk of the law TypesSubstitution. No condition beyond the arguments' readings.
-/
import Derived.Test.YtofeidacffabdaaTySu
import Derived.Test.YtofeidacffabdaaTyLv
import Derived.Deep.RegionHeld3
namespace Go.Proofs.Ytofeidacffabdaa.LawTypesSubstitution
open Go Go.RowKit Go.Proofs Go.Shelf
attribute [local go_sem] Oper.semAt_some

theorem ty_le (t : TY.Nd) : TY.tyOf t ≤ 2 := by
  obtain ⟨k, n, s, l⟩ := t
  rw [TY.tyOf_eq]
  have hr : (TY.rule k s).2 ≤ 2 := by
    unfold TY.rule TY.ruleU TY.ruleB
    repeat' split
    all_goals decide
  repeat' split
  all_goals omega
set_option maxRecDepth 100000 in
set_option maxHeartbeats 8000000 in
theorem walk (a0 : Option Addr) (len0 cap0 : Nat) (z0 : List Int) (a1 : Option Addr) (len1 cap1 : Nat) (z1 : List Int) (a2 : Int) (w : World) (w0 : Row .i64 w a0 len0 cap0 z0) (w1 : Row .i64 w a1 len1 cap1 z1) (w2 : (Lit.int .i64 a2).wf = true) :
    Calls Try.prog 6 #[.slice a0 len0 cap0, .slice a1 len1 cap1, .int .i64 a2] w fun e w' => e = .returned (.bool true) ∧ Below w.heap.size w w' := by
  have hb2 := bounds_i64 w2
  obtain ⟨_, _, _, hwf0⟩ := w0.ints
  obtain ⟨_, _, _, hwf1⟩ := w1.ints
  have HX := Lib.hid (Expr_any a0 len0 cap0 _ w w0.slc (i64_of hwf0))
  have HY := Lib.hid (fun (V : World) (hV : Below w.heap.size w V) => Expr_any a1 len1 cap1 _ V (w1.slc.below hV) (i64_of hwf1))
  have hfx : TY.Fit (exprT (z0.take len0)) := TY.genE_fit _ _ _ _
  have hfy : TY.Fit (exprT (z1.take len1)) := TY.genE_fit _ _ _ _
  have hsz := exprT_sz (z0.take len0)
  obtain ⟨n, hn⟩ : ∃ t, exprT (z0.take len0) = t := ⟨_, rfl⟩
  obtain ⟨m, hm⟩ : ∃ t, exprT (z1.take len1) = t := ⟨_, rfl⟩
  rw [hn] at HX hfx hsz
  rw [hm] at HY hfy
  have ha2 : I64 a2 := ⟨by omega, by omega⟩
  clear hn hm w0 w1 w2 hwf0 hwf1 hb2
  go_enter Try.func6, Try.ntmps6
  go_wp2_with (first
    | (go_at_call 11; refine HX.out.mono ?_; clear HX; rintro r w3 ⟨v3, rfl, V3, hb3⟩; obtain ⟨k3, n3, s3, A3, m3, c3, rfl⟩ := V3.shape; replace V3 := Lib.hid V3; have HB3 := Lib.hid hb3; have hs3 := hb3.size; clear hb3)
    | (go_at_call 11; refine (HY.out _ (HB3.out.alloc hs3 _)).mono ?_; clear HY; rintro r w4 ⟨v4, rfl, V4, hb4⟩; obtain ⟨k4, n4, s4, A4, m4, c4, rfl⟩ := V4.shape; replace V4 := Lib.hid V4; have HB4 := Lib.hid (show Below w3.heap.size w3 w4 from ((Below.refl w3.heap.size w3).alloc (Nat.le_refl _) _).trans (hb4.mono (by rw [World.size_alloc]; omega))); have hs4 := hb4.size; have HE3 := Lib.hid ((hb4.block w3.heap.size (by rw [World.size_alloc]; omega)).trans (World.alloc_heap_new w3 _)); rw [World.size_alloc] at hs4; clear hb4))
  obtain ⟨W5, hW5⟩ : ∃ U, w4.alloc (.cells #[.int .i64 k4, .int .i64 n4, .string s4, .slice A4 m4 c4] 25) = U := ⟨_, rfl⟩
  have z5 : W5.heap.size = w4.heap.size + 1 := by rw [← hW5, World.size_alloc]
  have b45 : Below w4.heap.size w4 W5 := by rw [← hW5]; exact (Below.refl _ _).alloc (Nat.le_refl _) _
  have b35 : Below w3.heap.size w3 W5 := HB4.out.trans (b45.mono (by omega))
  have e4 : W5.heap[w4.heap.size]? = some (.cells #[.int .i64 k4, .int .i64 n4, .string s4, .slice A4 m4 c4] 25 (0, 0)) := by rw [← hW5]; exact World.alloc_heap_new w4 _
  have e3 : W5.heap[w3.heap.size]? = some (.cells #[.int .i64 k3, .int .i64 n3, .string s3, .slice A3 m3 c3] 25 (0, 0)) := (b45.block _ (by omega)).trans HE3.out
  have x3 : NdV W5 W5.heap.size n (ndv k3 n3 s3 (.slice A3 m3 c3)) := V3.out W5 (fun c _ hc => b35.block c hc) _ b35.size
  have x4 : NdV W5 W5.heap.size m (ndv k4 n4 s4 (.slice A4 m4 c4)) := V4.out W5 (fun c _ hc => b45.block c hc) _ b45.size
  have hBW5 : Below w.heap.size w W5 := HB3.out.trans (b35.mono hs3)
  obtain ⟨t, ht⟩ : ∃ t, TY.tyOf m = t := ⟨_, rfl⟩
  have ht2 : t ≤ 2 := ht ▸ ty_le m
  have TM := Lib.hid (fun (V : World) (hV : Below W5.heap.size W5 V) => ht ▸ TypeOf_any m V W5.heap.size _ (x4.under hV (Nat.le_refl _)) hV.size)
  have TN := Lib.hid (fun (V : World) (hV : Below W5.heap.size W5 V) => TypeOf_any n V W5.heap.size _ (x3.under hV (Nat.le_refl _)) hV.size)
  have RP := Lib.hid (fun (V : World) (hV : Below W5.heap.size W5 V) (a : Int) (h1 : -1 ≤ a) (h2 : a ≤ 1000) => replace_any t (by omega) m n V W5.heap.size _ _ a (x3.under hV (Nat.le_refl _)) (x4.under hV (Nat.le_refl _)) hV.size (by omega) (by omega))
  have HTY := Lib.hid (fun a => TY.repl_ty (by_ := m) ht n hfx a)
  have LV := Lib.hid (fun V (_ : Below W5.heap.size W5 V) => lives_any V)
  obtain ⟨c30, c31, c32, c33, _, _, _, _⟩ := four_of e3
  obtain ⟨c40, c41, c42, c43, _, _, _, _⟩ := four_of e4
  have KP := Lib.hid (fun (V : World) (hV : Below W5.heap.size W5 V) => (show (V.cell? ⟨w3.heap.size, 0, none⟩ = some (.int .i64 k3) ∧ V.cell? ⟨w3.heap.size, 1, none⟩ = some (.int .i64 n3) ∧ V.cell? ⟨w3.heap.size, 2, none⟩ = some (.string s3) ∧ V.cell? ⟨w3.heap.size, 3, none⟩ = some (.slice A3 m3 c3) ∧ V.cell? ⟨w4.heap.size, 0, none⟩ = some (.int .i64 k4) ∧ V.cell? ⟨w4.heap.size, 1, none⟩ = some (.int .i64 n4) ∧ V.cell? ⟨w4.heap.size, 2, none⟩ = some (.string s4) ∧ V.cell? ⟨w4.heap.size, 3, none⟩ = some (.slice A4 m4 c4)) from
    ⟨(hV.cell (p := ⟨w3.heap.size, 0, none⟩) (show w3.heap.size < _ by omega)).trans c30, (hV.cell (p := ⟨w3.heap.size, 1, none⟩) (show w3.heap.size < _ by omega)).trans c31, (hV.cell (p := ⟨w3.heap.size, 2, none⟩) (show w3.heap.size < _ by omega)).trans c32, (hV.cell (p := ⟨w3.heap.size, 3, none⟩) (show w3.heap.size < _ by omega)).trans c33, (hV.cell (p := ⟨w4.heap.size, 0, none⟩) (show w4.heap.size < _ by omega)).trans c40, (hV.cell (p := ⟨w4.heap.size, 1, none⟩) (show w4.heap.size < _ by omega)).trans c41, (hV.cell (p := ⟨w4.heap.size, 2, none⟩) (show w4.heap.size < _ by omega)).trans c42, (hV.cell (p := ⟨w4.heap.size, 3, none⟩) (show w4.heap.size < _ by omega)).trans c43⟩))
  have HBW5 := Lib.hid hBW5
  have HW5 := Lib.hid hW5
  clear hW5 b45 b35 e3 e4 x3 x4 hBW5 ht hfx hfy c30 c31 c32 c33 c40 c41 c42 c43 V3 V4 HB3 HB4 HE3
  rw [HW5.out]
  refine (TM.out _ (Below.refl _ _)).mono ?_
  rintro e w6 ⟨rfl, hb6⟩
  obtain ⟨y30, y31, y32, y33, y40, y41, y42, y43⟩ := KP.out _ hb6
  have HB6 := Lib.hid hb6
  have hs6 := hb6.size
  clear hb6
  by_cases ht0 : t = 0
  · subst ht0
    clear RP HTY TM TN
    go_wp2_with (first
      | (go_at_call 14; refine (LV.out _ HB6.out).mono ?_; clear LV; rintro e w9 ⟨rfl, hb9⟩; have HB9 := Lib.hid (HB6.out.trans (hb9.mono HB6.out.size)); clear hb9))
    go_ret
    exact ⟨rfl, HBW5.out.trans (HB9.out.mono HBW5.out.size)⟩
  · have et : ((t : Int) == (0 : Int)) = false := by simp; omega
    obtain ⟨M, hM⟩ : ∃ M, (TY.repl t m n (-1)).2 = M := ⟨_, rfl⟩
    have hMb := repl_bound t m n (-1)
    rw [hM] at hMb
    have RP1 := Lib.hid (hM ▸ RP.out w6 HB6.out (-1) (by decide) (by decide))
    obtain ⟨T7, hT7⟩ : ∃ T, (TY.repl t m n (-1)).1 = T := ⟨_, rfl⟩
    rw [hT7] at RP1
    clear hM hT7
    by_cases hM0 : M = 0
    · have eM : (M == (0 : Int)) = true := by simpa using hM0
      clear RP HTY TM TN hMb
      go_wp2_with (first
        | (go_at_call 20; refine RP1.out.mono ?_; clear RP1; rintro e w7 ⟨v7, rfl, V7, hb7⟩; obtain ⟨k7, n7, s7, A7, m7, c7, rfl⟩ := V7.shape; have HB7 := Lib.hid (HB6.out.trans (hb7.mono HB6.out.size)); clear hb7 V7)
        | (go_at_call 14; refine (LV.out _ (HB7.out.alloc HB7.out.size _)).mono ?_; clear LV; rintro e w9 ⟨rfl, hb9⟩; have HB9 := Lib.hid ((HB7.out.alloc HB7.out.size (.cells #[.int .i64 k7, .int .i64 n7, .string s7, .slice A7 m7 c7] 25)).trans (hb9.mono (HB7.out.alloc HB7.out.size (.cells #[.int .i64 k7, .int .i64 n7, .string s7, .slice A7 m7 c7] 25)).size)); clear hb9))
      go_ret
      exact ⟨rfl, HBW5.out.trans (HB9.out.mono HBW5.out.size)⟩
    · have eM : (M == (0 : Int)) = false := by simpa using hM0
      have hM1 : 0 < M := by have := hMb.1; omega
      have hM2 : M ≤ 63 := by have := hMb.2; omega
      have hq := around_in a2 M hM1
      have AR := Lib.hid (fun (V : World) => around_any a2 M ha2 hM1 (by omega) V)
      obtain ⟨q, hqe⟩ : ∃ q, around a2 M = q := ⟨_, rfl⟩
      rw [hqe] at hq AR
      have hqt := HTY.out q
      obtain ⟨⟨T, cq⟩, hT⟩ : ∃ T, TY.repl t m n q = T := ⟨_, rfl⟩
      have RP2 := Lib.hid (fun (V : World) (hV : Below W5.heap.size W5 V) => hT ▸ RP.out V hV q (by omega) (by omega))
      rw [hT] at hqt
      clear hqe hT RP HTY hMb
      go_wp2_with (first
        | (go_at_call 20; refine RP1.out.mono ?_; clear RP1; rintro e w7 ⟨v7, rfl, V7, hb7⟩; obtain ⟨k7, n7, s7, A7, m7, c7, rfl⟩ := V7.shape; have HB7 := Lib.hid (HB6.out.trans (hb7.mono HB6.out.size)); clear hb7 V7))
      obtain ⟨W8, hW8⟩ : ∃ U, w7.alloc (.cells #[.int .i64 k7, .int .i64 n7, .string s7, .slice A7 m7 c7] 25) = U := ⟨_, rfl⟩
      rw [hW8]
      have hB8 : Below W5.heap.size W5 W8 := hW8 ▸ HB7.out.alloc HB7.out.size _
      have hs8 := hB8.size
      have HB8 := Lib.hid hB8
      have HK8 := Lib.hid (fun (V : World) (hV : Below W8.heap.size W8 V) => KP.out V (hB8.trans (hV.mono hs8)))
      have B8 : Below W8.heap.size W8 W8 := Below.refl _ _
      clear hW8 hB8 y30 y31 y32 y33 y40 y41 y42 y43 HB6 HB7
      go_region_held3 (fun V => V.cell? ⟨w3.heap.size, 0, none⟩ = some (.int .i64 k3) ∧ V.cell? ⟨w3.heap.size, 1, none⟩ = some (.int .i64 n3) ∧ V.cell? ⟨w3.heap.size, 2, none⟩ = some (.string s3) ∧ V.cell? ⟨w3.heap.size, 3, none⟩ = some (.slice A3 m3 c3) ∧ V.cell? ⟨w4.heap.size, 0, none⟩ = some (.int .i64 k4) ∧ V.cell? ⟨w4.heap.size, 1, none⟩ = some (.int .i64 n4) ∧ V.cell? ⟨w4.heap.size, 2, none⟩ = some (.string s4) ∧ V.cell? ⟨w4.heap.size, 3, none⟩ = some (.slice A4 m4 c4))
        (first | exact HK8.out _ B8 | exact HK8.out _ B8.drew | exact HK8.out _ (B8.alloc B8.size _) | exact HK8.out _ (B8.alloc B8.size _).drew | exact HK8.out _ ((((B8.setCell (p := ⟨W8.heap.size, 0, none⟩) (Nat.le_refl _) _).setCell (p := ⟨W8.heap.size, 1, none⟩) (Nat.le_refl _) _).setCell (p := ⟨W8.heap.size, 2, none⟩) (Nat.le_refl _) _).setCell (p := ⟨W8.heap.size, 3, none⟩) (Nat.le_refl _) _))
        (first
          | (go_at_call 18; refine (AR.out _).mono ?_; rintro e9 w9 ⟨rfl, rfl⟩)
          | (go_at_call 20; ((with_reducible refine (RP2.out _ ?_).mono ?_); focus (first | exact HB8.out | exact HB8.out.drew | exact (HB8.out.alloc HB8.out.size _) | exact (HB8.out.alloc HB8.out.size _).drew)); rintro e10 w10 ⟨v10, rfl, V10, hb⟩; obtain ⟨ka, na, sa, Aa, ma, ca, rfl⟩ := V10.shape; (first | (have B8 : Below W8.heap.size W8 w10 := (by first | exact hb | exact ((Below.refl W8.heap.size W8).drew.trans hb)); have V6 : Ny W5.heap.size W8.heap.size none w10 T (ndv ka na sa (.slice Aa ma ca)) := V10) | (have hbz : Below (W8.heap.size + 1) (W8.alloc (.cells #[.int .i64 0, .int .i64 0, .string ⟨#[]⟩, .slice none 0 0] 25)) w10 := (by rw [← World.size_alloc W8 (.cells #[.int .i64 0, .int .i64 0, .string ⟨#[]⟩, .slice none 0 0] 25)]; first | exact hb | exact (Below.refl _ _).drew.trans hb); have V7 : Ny W5.heap.size (W8.heap.size + 1) none w10 T (ndv ka na sa (.slice Aa ma ca)) := (by rw [← World.size_alloc W8 (.cells #[.int .i64 0, .int .i64 0, .string ⟨#[]⟩, .slice none 0 0] 25)]; exact V10); have B8 : Below W8.heap.size W8 w10 := ((Below.refl W8.heap.size W8).alloc (Nat.le_refl _) _).trans (hbz.mono (by omega)); obtain ⟨zc0, zc1, zc2, zc3, zf0, zf1, zf2, zf3⟩ := four_of ((hbz.block W8.heap.size (by omega)).trans (World.alloc_heap_new W8 _)))); clear V10 hb))
      all_goals
        first
          | (obtain ⟨W6, hW6⟩ : ∃ U, w10.alloc (.cells #[.int .i64 ka, .int .i64 na, .string sa, .slice Aa ma ca] 25) = U := ⟨_, rfl⟩
             rw [hW6]
             obtain ⟨q1, q2, q3, q4⟩ := box_new B8 V6 hW6
             obtain ⟨gk, hgk⟩ : ∃ x, w10.heap.size = x := ⟨_, rfl⟩
             rw [hgk] at q3 ⊢
             clear hW6 q4 hgk)
          | (obtain ⟨W6, hW6⟩ : ∃ U, (((w10.setCell ⟨W8.heap.size, 0, none⟩ (.int .i64 ka)).setCell ⟨W8.heap.size, 1, none⟩ (.int .i64 na)).setCell ⟨W8.heap.size, 2, none⟩ (.string sa)).setCell ⟨W8.heap.size, 3, none⟩ (.slice Aa ma ca) = U := ⟨_, rfl⟩
             rw [hW6]
             obtain ⟨q1, q2, q3, q4⟩ := box_old hs8 hbz V7 hW6
             obtain ⟨gk, hgk⟩ : ∃ x, W8.heap.size = x := ⟨_, rfl⟩
             rw [hgk] at q3 ⊢
             clear hW6 q4 hgk)
        have hgkl := heap_lt q3
        obtain ⟨ck0, ck1, ck2, ck3, _, _, _, _⟩ := four_of q3
        have hk6 := q2.here
        have TK := Lib.hid (fun (V : World) (hV : Below W6.heap.size W6 V) => hqt ▸ TypeOf_any T V W6.heap.size _ (hk6.under hV (Nat.le_refl _)) hV.size)
        have HB6 := Lib.hid (HB8.out.trans (q1.mono hs8))
        have hs6 := HB6.out.size
        have B6 : Below W6.heap.size W6 W6 := Below.refl _ _
        have HK6 := Lib.hid (fun (V : World) (hV : Below W6.heap.size W6 V) => KP.out V (HB6.out.trans (hV.mono hs6)))
        clear q1 q2 q3 hk6 HK8 B8 RP2 AR
        obtain ⟨yn, hyn⟩ : ∃ y, TY.tyOf n = y := ⟨_, rfl⟩
        have TN6 := Lib.hid (fun (V : World) (hV : Below W6.heap.size W6 V) => hyn ▸ TN.out V (HB6.out.trans (hV.mono hs6)))
        have TK6 := Lib.hid (fun (V : World) (hV : Below W6.heap.size W6 V) => hyn ▸ TK.out V hV)
        have LV6 := Lib.hid (fun (V : World) (hV : Below W6.heap.size W6 V) => LV.out V (HB6.out.trans (hV.mono hs6)))
        clear hyn TN TK LV hqt
        go_wp2_with fail
        go_region_held3 (fun V => V.cell? ⟨gk, 0, none⟩ = some (.int .i64 ka) ∧ V.cell? ⟨gk, 1, none⟩ = some (.int .i64 na) ∧ V.cell? ⟨gk, 2, none⟩ = some (.string sa) ∧ V.cell? ⟨gk, 3, none⟩ = some (.slice Aa ma ca) ∧ V.cell? ⟨w3.heap.size, 0, none⟩ = some (.int .i64 k3) ∧ V.cell? ⟨w3.heap.size, 1, none⟩ = some (.int .i64 n3) ∧ V.cell? ⟨w3.heap.size, 2, none⟩ = some (.string s3) ∧ V.cell? ⟨w3.heap.size, 3, none⟩ = some (.slice A3 m3 c3))
          (first | exact ⟨(B6.cell (p := ⟨gk, 0, none⟩) hgkl).trans ck0, (B6.cell (p := ⟨gk, 1, none⟩) hgkl).trans ck1, (B6.cell (p := ⟨gk, 2, none⟩) hgkl).trans ck2, (B6.cell (p := ⟨gk, 3, none⟩) hgkl).trans ck3, (HK6.out _ B6).1, (HK6.out _ B6).2.1, (HK6.out _ B6).2.2.1, (HK6.out _ B6).2.2.2.1⟩)
          (first
            | (go_at_call 12; ((with_reducible refine (TK6.out _ ?_).mono ?_); focus (first | exact B6 | exact B6.drew)); rintro e w11 ⟨rfl, hb⟩; (first | have B6 := B6.trans (hb.mono B6.size) | have B6 := B6.drew.trans (hb.mono B6.size)); clear hb)
            | (go_at_call 12; ((with_reducible refine (TN6.out _ ?_).mono ?_); focus (first | exact B6 | exact B6.drew)); rintro e w11 ⟨rfl, hb⟩; (first | have B6 := B6.trans (hb.mono B6.size) | have B6 := B6.drew.trans (hb.mono B6.size)); clear hb)
            | (go_at_call 14; ((with_reducible refine (LV6.out _ ?_).mono ?_); focus (first | exact B6 | exact B6.drew)); rintro e w11 ⟨rfl, hb⟩; (first | have B6 := B6.trans (hb.mono B6.size) | have B6 := B6.drew.trans (hb.mono B6.size)); clear hb))
        all_goals
          go_wp2_with fail
          go_ret
          exact ⟨rfl, HBW5.out.trans ((HB6.out.trans (B6.mono hs6)).mono HBW5.out.size)⟩
end Go.Proofs.Ytofeidacffabdaa.LawTypesSubstitution
