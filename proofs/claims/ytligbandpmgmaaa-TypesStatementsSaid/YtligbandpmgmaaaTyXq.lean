/-
  The reference's source: expr above the leaves, given what it does one level down.
-/
import Derived.Test.YtligbandpmgmaaaTyXp
namespace Go.Proofs.Ytligbandpmgmaaa
open Go Go.RowKit Go.Proofs Go.Shelf
attribute [local go_sem] Oper.semAt_some

set_option maxRecDepth 100000 in
set_option maxHeartbeats 40000000 in
theorem expr_more (L : List Int) (D : Nat) (sub : Nat → Nat → TY.Nd × Nat) (e : Nat) (hD : 1 ≤ D) (hD2 : D ≤ 100) (hsub : EAt L ((D : Int) - 1) sub e) : EAt L (D : Int) (TY.genF L true sub) (3 + 2 * e) := by
  intro W lo b i want wi hwi hs hi hw
  subst hwi
  obtain ⟨x, hx⟩ : ∃ x, TY.nxt L i 24 = x := ⟨_, rfl⟩
  obtain ⟨k, hk⟩ : ∃ k, TY.nxt L (i + 1) 6 = k := ⟨_, rfl⟩
  have hk6 : k < 6 := hk ▸ TY.nxt_lt _ _ (by decide)
  obtain ⟨W0, hW0⟩ : ∃ U, W.alloc (.cells #[.int .i64 0, .int .i64 0, .string ⟨#[]⟩, .slice none 0 0] 25) = U := ⟨_, rfl⟩
  have X0 : Ex W W0 lo b L i := hW0 ▸ Ex.begin hs
  have N1 := Lib.hid (nx X0 (by omega) 24 x 24 (by decide) (by decide) rfl hx)
  have N2 := Lib.hid (fun V (h : Ex W V lo b L (i + 1)) => nx h (by omega) 6 k 6 (by decide) (by decide) rfl hk)
  have HW0 := Lib.hid hW0
  clear hs hW0 X0
  have hk' : k = 0 ∨ k = 1 ∨ k = 2 ∨ k = 3 ∨ k = 4 ∨ k = 5 := by omega
  clear hk6
  have hd1 : decide ((D : Int) < 1) = false := by rw [decide_eq_false_iff_not]; omega
  by_cases h5 : x = 5
  · subst h5
    rcases hw with rfl | rfl
    · rw [genF_way (f := 2) hx hk (by decide)]
      rw [if_pos rfl]
      clear hx hk
      rcases hk' with rfl | rfl | rfl | rfl | rfl | rfl
      · obtain ⟨y, hy⟩ : ∃ y, TY.nxt L (i + 2) 2 = y := ⟨_, rfl⟩
        have N3 := Lib.hid (fun V (h : Ex W V lo b L (i + 2)) => nx h (by omega) 2 y 2 (by decide) (by decide) rfl hy)
        have hG : TY.genB L true sub 0 (i + 2) = (.mk 13 (y : Int) TY.eps [], i + 3) := by rw [← hy]; rfl
        rw [hG]
        clear hy hG
        go_enter Try.func11, Try.ntmps11
        go_wp2_with (first
          | (rw [HW0.out]; go_at_call 12; refine N1.out.mono ?_; clear N1; rintro e w1 ⟨rfl, X1, C1⟩; replace X1 := Lib.hid X1; clear C1)
          | (go_at_call 12; refine (N2.out _ X1.out).mono ?_; clear N2; rintro e w2 ⟨rfl, X2, C2⟩; replace X2 := Lib.hid X2; clear C2)
          | (go_at_call 12; refine (N3.out _ X2.out).mono ?_; clear N3; rintro e w3 ⟨rfl, X3, C3⟩; replace X3 := Lib.hid X3; clear C3; obtain ⟨q0, q1, q2, q3, p0, p1, p2, p3⟩ := X3.out.cells))
        obtain ⟨U, hU⟩ : ∃ U, (((w3.setCell ⟨W.heap.size, 0, none⟩ (.int .i64 13)).setCell ⟨W.heap.size, 1, none⟩ (.int .i64 (y : Int))).setCell ⟨W.heap.size, 2, none⟩ (.string ⟨#[]⟩)).setCell ⟨W.heap.size, 3, none⟩ (.slice none 0 0) = U := ⟨_, rfl⟩
        rw [hU]
        obtain ⟨f1, f2, f3, f4⟩ := X3.out.fin 13 (y : Int) ⟨#[]⟩ (.slice none 0 0) (Nw.leaf _ _ _ _ _ (by decide)) hU
        refine bodyPost_ret (ret_N rfl _ rfl f1) rfl ?_
        exact ⟨_, rfl, f2, f3, by omega, f4⟩
      · obtain ⟨⟨t1, j1⟩, h1⟩ : ∃ p, sub 2 (i + 2) = p := ⟨_, rfl⟩
        have hG : TY.genB L true sub 1 (i + 2) = (.mk 17 0 TY.sNot [t1], j1) := one_eq h1
        rw [hG]
        have S1 := Lib.hid (fun V (h : Ex W V lo b L (i + 2)) => sb hsub h (by omega) 2 2 rfl (by decide) h1)
        clear hG h1
        go_enter Try.func11, Try.ntmps11
        go_wp2_with (first
          | (rw [HW0.out]; go_at_call 12; refine N1.out.mono ?_; clear N1; rintro e w1 ⟨rfl, X1, C1⟩; replace X1 := Lib.hid X1; clear C1)
          | (go_at_call 12; refine (N2.out _ X1.out).mono ?_; clear N2; rintro e w2 ⟨rfl, X2, C2⟩; replace X2 := Lib.hid X2; clear C2)
          | (go_at_call 11; refine (S1.out _ X2.out).mono ?_; clear S1; rintro r w3 ⟨k1, n1, s1, A1, m1, c1, rfl, V1, X3, B1, C3⟩; replace X3 := Lib.hid X3; replace V1 := Lib.hid V1; clear C3; obtain ⟨q0, q1, q2, q3, p0, p1, p2, p3⟩ := (X3.out.alloc (.cells #[.int .i64 k1, .int .i64 n1, .string s1, .slice A1 m1 c1] 25)).cells))
        have hbig := X2.out.big
        have hbig3 := X3.out.big
        obtain ⟨U, hU⟩ : ∃ U, ((((w3.alloc (.cells #[.int .i64 k1, .int .i64 n1, .string s1, .slice A1 m1 c1] 25)).setCell ⟨W.heap.size, 0, none⟩ (.int .i64 17)).setCell ⟨W.heap.size, 1, none⟩ (.int .i64 0)).setCell ⟨W.heap.size, 2, none⟩ (.string ⟨#[33]⟩)).setCell ⟨W.heap.size, 3, none⟩ (.slice (some ⟨w3.heap.size, 0, none⟩) 1 1) = U := ⟨_, rfl⟩
        rw [hU]
        obtain ⟨f1, f2, f3, f4⟩ := (X3.out.alloc (.cells #[.int .i64 k1, .int .i64 n1, .string s1, .slice A1 m1 c1] 25)).fin 17 0 ⟨#[33]⟩ (.slice (some ⟨w3.heap.size, 0, none⟩) 1 1) (Nw.one hbig3 (by decide) (V1.out.lower hbig)) hU
        refine bodyPost_ret (ret_N rfl _ rfl f1) rfl ?_
        exact ⟨_, rfl, f2, f3, by omega, f4⟩
      · obtain ⟨z, hzz⟩ : ∃ z, TY.pick TY.logic (TY.nxt L (i + 2) 2) = z := ⟨_, rfl⟩
        have hz : z.size ≤ 1000 := hzz ▸ pick_small (by decide) (TY.nxt_lt _ _ (by decide))
        have N3 := Lib.hid (fun V (h : Ex W V lo b L (i + 2)) => pk h (by omega) #[.string TY.sAnd, .string TY.sOr] TY.logic 2 (by decide) (by decide) (fun j hj => by
            match j, hj with
            | 0, _ => rfl
            | 1, _ => rfl) hzz)
        obtain ⟨⟨t1, j1⟩, h1⟩ : ∃ p, sub 2 (i + 3) = p := ⟨_, rfl⟩
        obtain ⟨⟨t2, j2⟩, h2⟩ : ∃ p, sub 2 j1 = p := ⟨_, rfl⟩
        have hG : TY.genB L true sub 2 (i + 2) = (.mk 18 0 z [t1, t2], j2) := by rw [← hzz]; exact two_eq h1 h2
        rw [hG]
        have S1 := Lib.hid (fun V (h : Ex W V lo b L (i + 3)) => sb hsub h (by omega) 2 2 rfl (by decide) h1)
        have S2 := Lib.hid (fun V (h : Ex W V lo b L j1) (hj : j1 ≤ i + 3 + e) => sb hsub h (by omega) 2 2 rfl (by decide) h2)
        clear hG h1 h2 hzz
        go_enter Try.func11, Try.ntmps11
        go_wp2_with (first
          | (rw [HW0.out]; go_at_call 12; refine N1.out.mono ?_; clear N1; rintro e w1 ⟨rfl, X1, C1⟩; replace X1 := Lib.hid X1; clear C1)
          | (go_at_call 12; refine (N2.out _ X1.out).mono ?_; clear N2; rintro e w2 ⟨rfl, X2, C2⟩; replace X2 := Lib.hid X2; clear C2)
          | (go_at_call 19; refine (N3.out _ X2.out).mono ?_; clear N3; rintro e w3 ⟨rfl, X3, C3⟩; replace X3 := Lib.hid X3; clear C3)
          | (go_at_call 11; refine (S1.out _ X3.out).mono ?_; clear S1; rintro r w4 ⟨k1, n1, s1, A1, m1, c1, rfl, V1, X4, B1, C4⟩; replace X4 := Lib.hid X4; replace V1 := Lib.hid V1; clear C4)
          | (go_at_call 11; refine (S2.out _ X4.out B1).mono ?_; clear S2; rintro r w5 ⟨k2, n2, s2, A2, m2, c2, rfl, V2, X5, B2, C5⟩; replace X5 := Lib.hid X5; replace V2 := Lib.hid V2; replace C5 := Lib.hid C5; obtain ⟨q0, q1, q2, q3, p0, p1, p2, p3⟩ := (X5.out.alloc (.cells #[.int .i64 k1, .int .i64 n1, .string s1, .slice A1 m1 c1, .int .i64 k2, .int .i64 n2, .string s2, .slice A2 m2 c2] 25)).cells))
        have hbig := X3.out.big
        have hbig4 := X4.out.big
        have hblt := X5.out.lt
        obtain ⟨U, hU⟩ : ∃ U, ((((w5.alloc (.cells #[.int .i64 k1, .int .i64 n1, .string s1, .slice A1 m1 c1, .int .i64 k2, .int .i64 n2, .string s2, .slice A2 m2 c2] 25)).setCell ⟨W.heap.size, 0, none⟩ (.int .i64 18)).setCell ⟨W.heap.size, 1, none⟩ (.int .i64 0)).setCell ⟨W.heap.size, 2, none⟩ (.string z)).setCell ⟨W.heap.size, 3, none⟩ (.slice (some ⟨w5.heap.size, 0, none⟩) 2 2) = U := ⟨_, rfl⟩
        rw [hU]
        obtain ⟨f1, f2, f3, f4⟩ := (X5.out.alloc (.cells #[.int .i64 k1, .int .i64 n1, .string s1, .slice A1 m1 c1, .int .i64 k2, .int .i64 n2, .string s2, .slice A2 m2 c2] 25)).fin 18 0 z (.slice (some ⟨w5.heap.size, 0, none⟩) 2 2) (Nw.two hbig4 (Nat.le_refl _) C5.out.size hz (V1.out.lower hbig) (fun c _ hc => C5.out.block c hc (by omega)) V2.out) hU
        refine bodyPost_ret (ret_N rfl _ rfl f1) rfl ?_
        exact ⟨_, rfl, f2, f3, by omega, f4⟩
      · obtain ⟨z, hzz⟩ : ∃ z, TY.pick TY.compar (TY.nxt L (i + 2) 6) = z := ⟨_, rfl⟩
        have hz : z.size ≤ 1000 := hzz ▸ pick_small (by decide) (TY.nxt_lt _ _ (by decide))
        have N3 := Lib.hid (fun V (h : Ex W V lo b L (i + 2)) => pk h (by omega) #[.string TY.sLt, .string TY.sLe, .string TY.sGt, .string TY.sGe, .string TY.sEq, .string TY.sNe] TY.compar 6 (by decide) (by decide) (fun j hj => by
            match j, hj with
            | 0, _ => rfl
            | 1, _ => rfl
            | 2, _ => rfl
            | 3, _ => rfl
            | 4, _ => rfl
            | 5, _ => rfl) hzz)
        obtain ⟨⟨t1, j1⟩, h1⟩ : ∃ p, sub 1 (i + 3) = p := ⟨_, rfl⟩
        obtain ⟨⟨t2, j2⟩, h2⟩ : ∃ p, sub 1 j1 = p := ⟨_, rfl⟩
        have hG : TY.genB L true sub 3 (i + 2) = (.mk 18 0 z [t1, t2], j2) := by rw [← hzz]; exact two_eq h1 h2
        rw [hG]
        have S1 := Lib.hid (fun V (h : Ex W V lo b L (i + 3)) => sb hsub h (by omega) 1 1 rfl (by decide) h1)
        have S2 := Lib.hid (fun V (h : Ex W V lo b L j1) (hj : j1 ≤ i + 3 + e) => sb hsub h (by omega) 1 1 rfl (by decide) h2)
        clear hG h1 h2 hzz
        go_enter Try.func11, Try.ntmps11
        go_wp2_with (first
          | (rw [HW0.out]; go_at_call 12; refine N1.out.mono ?_; clear N1; rintro e w1 ⟨rfl, X1, C1⟩; replace X1 := Lib.hid X1; clear C1)
          | (go_at_call 12; refine (N2.out _ X1.out).mono ?_; clear N2; rintro e w2 ⟨rfl, X2, C2⟩; replace X2 := Lib.hid X2; clear C2)
          | (go_at_call 19; refine (N3.out _ X2.out).mono ?_; clear N3; rintro e w3 ⟨rfl, X3, C3⟩; replace X3 := Lib.hid X3; clear C3)
          | (go_at_call 11; refine (S1.out _ X3.out).mono ?_; clear S1; rintro r w4 ⟨k1, n1, s1, A1, m1, c1, rfl, V1, X4, B1, C4⟩; replace X4 := Lib.hid X4; replace V1 := Lib.hid V1; clear C4)
          | (go_at_call 11; refine (S2.out _ X4.out B1).mono ?_; clear S2; rintro r w5 ⟨k2, n2, s2, A2, m2, c2, rfl, V2, X5, B2, C5⟩; replace X5 := Lib.hid X5; replace V2 := Lib.hid V2; replace C5 := Lib.hid C5; obtain ⟨q0, q1, q2, q3, p0, p1, p2, p3⟩ := (X5.out.alloc (.cells #[.int .i64 k1, .int .i64 n1, .string s1, .slice A1 m1 c1, .int .i64 k2, .int .i64 n2, .string s2, .slice A2 m2 c2] 25)).cells))
        have hbig := X3.out.big
        have hbig4 := X4.out.big
        have hblt := X5.out.lt
        obtain ⟨U, hU⟩ : ∃ U, ((((w5.alloc (.cells #[.int .i64 k1, .int .i64 n1, .string s1, .slice A1 m1 c1, .int .i64 k2, .int .i64 n2, .string s2, .slice A2 m2 c2] 25)).setCell ⟨W.heap.size, 0, none⟩ (.int .i64 18)).setCell ⟨W.heap.size, 1, none⟩ (.int .i64 0)).setCell ⟨W.heap.size, 2, none⟩ (.string z)).setCell ⟨W.heap.size, 3, none⟩ (.slice (some ⟨w5.heap.size, 0, none⟩) 2 2) = U := ⟨_, rfl⟩
        rw [hU]
        obtain ⟨f1, f2, f3, f4⟩ := (X5.out.alloc (.cells #[.int .i64 k1, .int .i64 n1, .string s1, .slice A1 m1 c1, .int .i64 k2, .int .i64 n2, .string s2, .slice A2 m2 c2] 25)).fin 18 0 z (.slice (some ⟨w5.heap.size, 0, none⟩) 2 2) (Nw.two hbig4 (Nat.le_refl _) C5.out.size hz (V1.out.lower hbig) (fun c _ hc => C5.out.block c hc (by omega)) V2.out) hU
        refine bodyPost_ret (ret_N rfl _ rfl f1) rfl ?_
        exact ⟨_, rfl, f2, f3, by omega, f4⟩
      · obtain ⟨z, hzz⟩ : ∃ z, TY.pick TY.compar (TY.nxt L (i + 2) 6) = z := ⟨_, rfl⟩
        have hz : z.size ≤ 1000 := hzz ▸ pick_small (by decide) (TY.nxt_lt _ _ (by decide))
        have N3 := Lib.hid (fun V (h : Ex W V lo b L (i + 2)) => pk h (by omega) #[.string TY.sLt, .string TY.sLe, .string TY.sGt, .string TY.sGe, .string TY.sEq, .string TY.sNe] TY.compar 6 (by decide) (by decide) (fun j hj => by
            match j, hj with
            | 0, _ => rfl
            | 1, _ => rfl
            | 2, _ => rfl
            | 3, _ => rfl
            | 4, _ => rfl
            | 5, _ => rfl) hzz)
        obtain ⟨⟨t1, j1⟩, h1⟩ : ∃ p, sub 1 (i + 3) = p := ⟨_, rfl⟩
        obtain ⟨⟨t2, j2⟩, h2⟩ : ∃ p, sub 1 j1 = p := ⟨_, rfl⟩
        have hG : TY.genB L true sub 4 (i + 2) = (.mk 18 0 z [t1, t2], j2) := by rw [← hzz]; exact two_eq h1 h2
        rw [hG]
        have S1 := Lib.hid (fun V (h : Ex W V lo b L (i + 3)) => sb hsub h (by omega) 1 1 rfl (by decide) h1)
        have S2 := Lib.hid (fun V (h : Ex W V lo b L j1) (hj : j1 ≤ i + 3 + e) => sb hsub h (by omega) 1 1 rfl (by decide) h2)
        clear hG h1 h2 hzz
        go_enter Try.func11, Try.ntmps11
        go_wp2_with (first
          | (rw [HW0.out]; go_at_call 12; refine N1.out.mono ?_; clear N1; rintro e w1 ⟨rfl, X1, C1⟩; replace X1 := Lib.hid X1; clear C1)
          | (go_at_call 12; refine (N2.out _ X1.out).mono ?_; clear N2; rintro e w2 ⟨rfl, X2, C2⟩; replace X2 := Lib.hid X2; clear C2)
          | (go_at_call 19; refine (N3.out _ X2.out).mono ?_; clear N3; rintro e w3 ⟨rfl, X3, C3⟩; replace X3 := Lib.hid X3; clear C3)
          | (go_at_call 11; refine (S1.out _ X3.out).mono ?_; clear S1; rintro r w4 ⟨k1, n1, s1, A1, m1, c1, rfl, V1, X4, B1, C4⟩; replace X4 := Lib.hid X4; replace V1 := Lib.hid V1; clear C4)
          | (go_at_call 11; refine (S2.out _ X4.out B1).mono ?_; clear S2; rintro r w5 ⟨k2, n2, s2, A2, m2, c2, rfl, V2, X5, B2, C5⟩; replace X5 := Lib.hid X5; replace V2 := Lib.hid V2; replace C5 := Lib.hid C5; obtain ⟨q0, q1, q2, q3, p0, p1, p2, p3⟩ := (X5.out.alloc (.cells #[.int .i64 k1, .int .i64 n1, .string s1, .slice A1 m1 c1, .int .i64 k2, .int .i64 n2, .string s2, .slice A2 m2 c2] 25)).cells))
        have hbig := X3.out.big
        have hbig4 := X4.out.big
        have hblt := X5.out.lt
        obtain ⟨U, hU⟩ : ∃ U, ((((w5.alloc (.cells #[.int .i64 k1, .int .i64 n1, .string s1, .slice A1 m1 c1, .int .i64 k2, .int .i64 n2, .string s2, .slice A2 m2 c2] 25)).setCell ⟨W.heap.size, 0, none⟩ (.int .i64 18)).setCell ⟨W.heap.size, 1, none⟩ (.int .i64 0)).setCell ⟨W.heap.size, 2, none⟩ (.string z)).setCell ⟨W.heap.size, 3, none⟩ (.slice (some ⟨w5.heap.size, 0, none⟩) 2 2) = U := ⟨_, rfl⟩
        rw [hU]
        obtain ⟨f1, f2, f3, f4⟩ := (X5.out.alloc (.cells #[.int .i64 k1, .int .i64 n1, .string s1, .slice A1 m1 c1, .int .i64 k2, .int .i64 n2, .string s2, .slice A2 m2 c2] 25)).fin 18 0 z (.slice (some ⟨w5.heap.size, 0, none⟩) 2 2) (Nw.two hbig4 (Nat.le_refl _) C5.out.size hz (V1.out.lower hbig) (fun c _ hc => C5.out.block c hc (by omega)) V2.out) hU
        refine bodyPost_ret (ret_N rfl _ rfl f1) rfl ?_
        exact ⟨_, rfl, f2, f3, by omega, f4⟩
      · obtain ⟨z, hzz⟩ : ∃ z, TY.pick TY.compar (TY.nxt L (i + 2) 6) = z := ⟨_, rfl⟩
        have hz : z.size ≤ 1000 := hzz ▸ pick_small (by decide) (TY.nxt_lt _ _ (by decide))
        have N3 := Lib.hid (fun V (h : Ex W V lo b L (i + 2)) => pk h (by omega) #[.string TY.sLt, .string TY.sLe, .string TY.sGt, .string TY.sGe, .string TY.sEq, .string TY.sNe] TY.compar 6 (by decide) (by decide) (fun j hj => by
            match j, hj with
            | 0, _ => rfl
            | 1, _ => rfl
            | 2, _ => rfl
            | 3, _ => rfl
            | 4, _ => rfl
            | 5, _ => rfl) hzz)
        obtain ⟨⟨t1, j1⟩, h1⟩ : ∃ p, sub 1 (i + 3) = p := ⟨_, rfl⟩
        obtain ⟨⟨t2, j2⟩, h2⟩ : ∃ p, sub 1 j1 = p := ⟨_, rfl⟩
        have hG : TY.genB L true sub 5 (i + 2) = (.mk 18 0 z [t1, t2], j2) := by rw [← hzz]; exact two_eq h1 h2
        rw [hG]
        have S1 := Lib.hid (fun V (h : Ex W V lo b L (i + 3)) => sb hsub h (by omega) 1 1 rfl (by decide) h1)
        have S2 := Lib.hid (fun V (h : Ex W V lo b L j1) (hj : j1 ≤ i + 3 + e) => sb hsub h (by omega) 1 1 rfl (by decide) h2)
        clear hG h1 h2 hzz
        go_enter Try.func11, Try.ntmps11
        go_wp2_with (first
          | (rw [HW0.out]; go_at_call 12; refine N1.out.mono ?_; clear N1; rintro e w1 ⟨rfl, X1, C1⟩; replace X1 := Lib.hid X1; clear C1)
          | (go_at_call 12; refine (N2.out _ X1.out).mono ?_; clear N2; rintro e w2 ⟨rfl, X2, C2⟩; replace X2 := Lib.hid X2; clear C2)
          | (go_at_call 19; refine (N3.out _ X2.out).mono ?_; clear N3; rintro e w3 ⟨rfl, X3, C3⟩; replace X3 := Lib.hid X3; clear C3)
          | (go_at_call 11; refine (S1.out _ X3.out).mono ?_; clear S1; rintro r w4 ⟨k1, n1, s1, A1, m1, c1, rfl, V1, X4, B1, C4⟩; replace X4 := Lib.hid X4; replace V1 := Lib.hid V1; clear C4)
          | (go_at_call 11; refine (S2.out _ X4.out B1).mono ?_; clear S2; rintro r w5 ⟨k2, n2, s2, A2, m2, c2, rfl, V2, X5, B2, C5⟩; replace X5 := Lib.hid X5; replace V2 := Lib.hid V2; replace C5 := Lib.hid C5; obtain ⟨q0, q1, q2, q3, p0, p1, p2, p3⟩ := (X5.out.alloc (.cells #[.int .i64 k1, .int .i64 n1, .string s1, .slice A1 m1 c1, .int .i64 k2, .int .i64 n2, .string s2, .slice A2 m2 c2] 25)).cells))
        have hbig := X3.out.big
        have hbig4 := X4.out.big
        have hblt := X5.out.lt
        obtain ⟨U, hU⟩ : ∃ U, ((((w5.alloc (.cells #[.int .i64 k1, .int .i64 n1, .string s1, .slice A1 m1 c1, .int .i64 k2, .int .i64 n2, .string s2, .slice A2 m2 c2] 25)).setCell ⟨W.heap.size, 0, none⟩ (.int .i64 18)).setCell ⟨W.heap.size, 1, none⟩ (.int .i64 0)).setCell ⟨W.heap.size, 2, none⟩ (.string z)).setCell ⟨W.heap.size, 3, none⟩ (.slice (some ⟨w5.heap.size, 0, none⟩) 2 2) = U := ⟨_, rfl⟩
        rw [hU]
        obtain ⟨f1, f2, f3, f4⟩ := (X5.out.alloc (.cells #[.int .i64 k1, .int .i64 n1, .string s1, .slice A1 m1 c1, .int .i64 k2, .int .i64 n2, .string s2, .slice A2 m2 c2] 25)).fin 18 0 z (.slice (some ⟨w5.heap.size, 0, none⟩) 2 2) (Nw.two hbig4 (Nat.le_refl _) C5.out.size hz (V1.out.lower hbig) (fun c _ hc => C5.out.block c hc (by omega)) V2.out) hU
        refine bodyPost_ret (ret_N rfl _ rfl f1) rfl ?_
        exact ⟨_, rfl, f2, f3, by omega, f4⟩
    · rw [genF_way (f := 1) hx hk (by decide)]
      rw [if_neg (by decide)]
      clear hx hk
      rcases hk' with rfl | rfl | rfl | rfl | rfl | rfl
      · obtain ⟨y, hy⟩ : ∃ y, TY.nxt L (i + 2) 10 = y := ⟨_, rfl⟩
        have hy10 : y < 10 := hy ▸ TY.nxt_lt _ _ (by decide)
        have N3 := Lib.hid (fun V (h : Ex W V lo b L (i + 2)) => nx h (by omega) 10 y 10 (by decide) (by decide) rfl hy)
        have N4 := Lib.hid (fun V => nameY y hy10 V)
        have hG : TY.genI L true sub 0 (i + 2) = (.mk 14 0 (TY.vName y) [], i + 3) := by rw [← hy]; rfl
        rw [hG]
        have hz := name_small y
        obtain ⟨z, hzz⟩ : ∃ z, TY.vName y = z := ⟨_, rfl⟩
        rw [hzz] at N4 hz ⊢
        clear hy hG hzz
        go_enter Try.func11, Try.ntmps11
        go_wp2_with (first
          | (rw [HW0.out]; go_at_call 12; refine N1.out.mono ?_; clear N1; rintro e w1 ⟨rfl, X1, C1⟩; replace X1 := Lib.hid X1; clear C1)
          | (go_at_call 12; refine (N2.out _ X1.out).mono ?_; clear N2; rintro e w2 ⟨rfl, X2, C2⟩; replace X2 := Lib.hid X2; clear C2)
          | (go_at_call 12; refine (N3.out _ X2.out).mono ?_; clear N3; rintro e w3 ⟨rfl, X3, C3⟩; replace X3 := Lib.hid X3; clear C3; obtain ⟨q0, q1, q2, q3, p0, p1, p2, p3⟩ := X3.out.cells)
          | (go_at_call 17; refine (N4.out _).mono ?_; clear N4; rintro e w4 ⟨rfl, rfl⟩))
        obtain ⟨U, hU⟩ : ∃ U, (((w4.setCell ⟨W.heap.size, 0, none⟩ (.int .i64 14)).setCell ⟨W.heap.size, 1, none⟩ (.int .i64 0)).setCell ⟨W.heap.size, 2, none⟩ (.string z)).setCell ⟨W.heap.size, 3, none⟩ (.slice none 0 0) = U := ⟨_, rfl⟩
        rw [hU]
        obtain ⟨f1, f2, f3, f4⟩ := X3.out.fin 14 0 z (.slice none 0 0) (Nw.leaf _ _ _ _ _ hz) hU
        refine bodyPost_ret (ret_N rfl _ rfl f1) rfl ?_
        exact ⟨_, rfl, f2, f3, by omega, f4⟩
      · obtain ⟨z, hzz⟩ : ∃ z, TY.pick TY.bNames (TY.nxt L (i + 2) 9) = z := ⟨_, rfl⟩
        have hz : z.size ≤ 1000 := hzz ▸ pick_small (by decide) (TY.nxt_lt _ _ (by decide))
        have N3 := Lib.hid (fun V (h : Ex W V lo b L (i + 2)) => pk h (by omega) #[.string ⟨#[115, 101, 108, 102]⟩, .string ⟨#[110, 111, 100, 101, 115]⟩, .string ⟨#[110, 111, 119]⟩, .string ⟨#[102, 114, 111, 109]⟩, .string ⟨#[97]⟩, .string ⟨#[98]⟩, .string ⟨#[105, 100]⟩, .string ⟨#[111, 112]⟩, .string ⟨#[107, 101, 121]⟩] TY.bNames 9 (by decide) (by decide) (fun j hj => by
            match j, hj with
            | 0, _ => rfl
            | 1, _ => rfl
            | 2, _ => rfl
            | 3, _ => rfl
            | 4, _ => rfl
            | 5, _ => rfl
            | 6, _ => rfl
            | 7, _ => rfl
            | 8, _ => rfl) hzz)
        have hG : TY.genI L true sub 1 (i + 2) = (.mk 15 0 z [], i + 3) := by rw [← hzz]; rfl
        rw [hG]
        clear hG hzz
        go_enter Try.func11, Try.ntmps11
        go_wp2_with (first
          | (rw [HW0.out]; go_at_call 12; refine N1.out.mono ?_; clear N1; rintro e w1 ⟨rfl, X1, C1⟩; replace X1 := Lib.hid X1; clear C1)
          | (go_at_call 12; refine (N2.out _ X1.out).mono ?_; clear N2; rintro e w2 ⟨rfl, X2, C2⟩; replace X2 := Lib.hid X2; clear C2)
          | (go_at_call 19; refine (N3.out _ X2.out).mono ?_; clear N3; rintro e w3 ⟨rfl, X3, C3⟩; replace X3 := Lib.hid X3; clear C3; obtain ⟨q0, q1, q2, q3, p0, p1, p2, p3⟩ := X3.out.cells))
        obtain ⟨U, hU⟩ : ∃ U, (((w3.setCell ⟨W.heap.size, 0, none⟩ (.int .i64 15)).setCell ⟨W.heap.size, 1, none⟩ (.int .i64 0)).setCell ⟨W.heap.size, 2, none⟩ (.string z)).setCell ⟨W.heap.size, 3, none⟩ (.slice none 0 0) = U := ⟨_, rfl⟩
        rw [hU]
        obtain ⟨f1, f2, f3, f4⟩ := X3.out.fin 15 0 z (.slice none 0 0) (Nw.leaf _ _ _ _ _ hz) hU
        refine bodyPost_ret (ret_N rfl _ rfl f1) rfl ?_
        exact ⟨_, rfl, f2, f3, by omega, f4⟩
      · obtain ⟨⟨t1, j1⟩, h1⟩ : ∃ p, sub 1 (i + 2) = p := ⟨_, rfl⟩
        have hG : TY.genI L true sub 2 (i + 2) = (.mk 17 0 TY.sMinus [t1], j1) := one_eq h1
        rw [hG]
        have S1 := Lib.hid (fun V (h : Ex W V lo b L (i + 2)) => sb hsub h (by omega) 1 1 rfl (by decide) h1)
        clear hG h1
        go_enter Try.func11, Try.ntmps11
        go_wp2_with (first
          | (rw [HW0.out]; go_at_call 12; refine N1.out.mono ?_; clear N1; rintro e w1 ⟨rfl, X1, C1⟩; replace X1 := Lib.hid X1; clear C1)
          | (go_at_call 12; refine (N2.out _ X1.out).mono ?_; clear N2; rintro e w2 ⟨rfl, X2, C2⟩; replace X2 := Lib.hid X2; clear C2)
          | (go_at_call 11; refine (S1.out _ X2.out).mono ?_; clear S1; rintro r w3 ⟨k1, n1, s1, A1, m1, c1, rfl, V1, X3, B1, C3⟩; replace X3 := Lib.hid X3; replace V1 := Lib.hid V1; clear C3; obtain ⟨q0, q1, q2, q3, p0, p1, p2, p3⟩ := (X3.out.alloc (.cells #[.int .i64 k1, .int .i64 n1, .string s1, .slice A1 m1 c1] 25)).cells))
        have hbig := X2.out.big
        have hbig3 := X3.out.big
        obtain ⟨U, hU⟩ : ∃ U, ((((w3.alloc (.cells #[.int .i64 k1, .int .i64 n1, .string s1, .slice A1 m1 c1] 25)).setCell ⟨W.heap.size, 0, none⟩ (.int .i64 17)).setCell ⟨W.heap.size, 1, none⟩ (.int .i64 0)).setCell ⟨W.heap.size, 2, none⟩ (.string ⟨#[45]⟩)).setCell ⟨W.heap.size, 3, none⟩ (.slice (some ⟨w3.heap.size, 0, none⟩) 1 1) = U := ⟨_, rfl⟩
        rw [hU]
        obtain ⟨f1, f2, f3, f4⟩ := (X3.out.alloc (.cells #[.int .i64 k1, .int .i64 n1, .string s1, .slice A1 m1 c1] 25)).fin 17 0 ⟨#[45]⟩ (.slice (some ⟨w3.heap.size, 0, none⟩) 1 1) (Nw.one hbig3 (by decide) (V1.out.lower hbig)) hU
        refine bodyPost_ret (ret_N rfl _ rfl f1) rfl ?_
        exact ⟨_, rfl, f2, f3, by omega, f4⟩
      · obtain ⟨⟨t1, j1⟩, h1⟩ : ∃ p, sub 1 (i + 2) = p := ⟨_, rfl⟩
        have hG : TY.genI L true sub 3 (i + 2) = (.mk 16 0 TY.eps [t1], j1) := one_eq h1
        rw [hG]
        have S1 := Lib.hid (fun V (h : Ex W V lo b L (i + 2)) => sb hsub h (by omega) 1 1 rfl (by decide) h1)
        clear hG h1
        go_enter Try.func11, Try.ntmps11
        go_wp2_with (first
          | (rw [HW0.out]; go_at_call 12; refine N1.out.mono ?_; clear N1; rintro e w1 ⟨rfl, X1, C1⟩; replace X1 := Lib.hid X1; clear C1)
          | (go_at_call 12; refine (N2.out _ X1.out).mono ?_; clear N2; rintro e w2 ⟨rfl, X2, C2⟩; replace X2 := Lib.hid X2; clear C2)
          | (go_at_call 11; refine (S1.out _ X2.out).mono ?_; clear S1; rintro r w3 ⟨k1, n1, s1, A1, m1, c1, rfl, V1, X3, B1, C3⟩; replace X3 := Lib.hid X3; replace V1 := Lib.hid V1; clear C3; obtain ⟨q0, q1, q2, q3, p0, p1, p2, p3⟩ := (X3.out.alloc (.cells #[.int .i64 k1, .int .i64 n1, .string s1, .slice A1 m1 c1] 25)).cells))
        have hbig := X2.out.big
        have hbig3 := X3.out.big
        obtain ⟨U, hU⟩ : ∃ U, ((((w3.alloc (.cells #[.int .i64 k1, .int .i64 n1, .string s1, .slice A1 m1 c1] 25)).setCell ⟨W.heap.size, 0, none⟩ (.int .i64 16)).setCell ⟨W.heap.size, 1, none⟩ (.int .i64 0)).setCell ⟨W.heap.size, 2, none⟩ (.string ⟨#[]⟩)).setCell ⟨W.heap.size, 3, none⟩ (.slice (some ⟨w3.heap.size, 0, none⟩) 1 1) = U := ⟨_, rfl⟩
        rw [hU]
        obtain ⟨f1, f2, f3, f4⟩ := (X3.out.alloc (.cells #[.int .i64 k1, .int .i64 n1, .string s1, .slice A1 m1 c1] 25)).fin 16 0 ⟨#[]⟩ (.slice (some ⟨w3.heap.size, 0, none⟩) 1 1) (Nw.one hbig3 (by decide) (V1.out.lower hbig)) hU
        refine bodyPost_ret (ret_N rfl _ rfl f1) rfl ?_
        exact ⟨_, rfl, f2, f3, by omega, f4⟩
      · obtain ⟨z, hzz⟩ : ∃ z, TY.pick TY.arith (TY.nxt L (i + 2) 4) = z := ⟨_, rfl⟩
        have hz : z.size ≤ 1000 := hzz ▸ pick_small (by decide) (TY.nxt_lt _ _ (by decide))
        have N3 := Lib.hid (fun V (h : Ex W V lo b L (i + 2)) => pk h (by omega) #[.string TY.sPlus, .string TY.sMinus, .string TY.sMul, .string TY.sDiv] TY.arith 4 (by decide) (by decide) (fun j hj => by
            match j, hj with
            | 0, _ => rfl
            | 1, _ => rfl
            | 2, _ => rfl
            | 3, _ => rfl) hzz)
        obtain ⟨⟨t1, j1⟩, h1⟩ : ∃ p, sub 1 (i + 3) = p := ⟨_, rfl⟩
        obtain ⟨⟨t2, j2⟩, h2⟩ : ∃ p, sub 1 j1 = p := ⟨_, rfl⟩
        have hG : TY.genI L true sub 4 (i + 2) = (.mk 18 0 z [t1, t2], j2) := by rw [← hzz]; exact two_eq h1 h2
        rw [hG]
        have S1 := Lib.hid (fun V (h : Ex W V lo b L (i + 3)) => sb hsub h (by omega) 1 1 rfl (by decide) h1)
        have S2 := Lib.hid (fun V (h : Ex W V lo b L j1) (hj : j1 ≤ i + 3 + e) => sb hsub h (by omega) 1 1 rfl (by decide) h2)
        clear hG h1 h2 hzz
        go_enter Try.func11, Try.ntmps11
        go_wp2_with (first
          | (rw [HW0.out]; go_at_call 12; refine N1.out.mono ?_; clear N1; rintro e w1 ⟨rfl, X1, C1⟩; replace X1 := Lib.hid X1; clear C1)
          | (go_at_call 12; refine (N2.out _ X1.out).mono ?_; clear N2; rintro e w2 ⟨rfl, X2, C2⟩; replace X2 := Lib.hid X2; clear C2)
          | (go_at_call 19; refine (N3.out _ X2.out).mono ?_; clear N3; rintro e w3 ⟨rfl, X3, C3⟩; replace X3 := Lib.hid X3; clear C3)
          | (go_at_call 11; refine (S1.out _ X3.out).mono ?_; clear S1; rintro r w4 ⟨k1, n1, s1, A1, m1, c1, rfl, V1, X4, B1, C4⟩; replace X4 := Lib.hid X4; replace V1 := Lib.hid V1; clear C4)
          | (go_at_call 11; refine (S2.out _ X4.out B1).mono ?_; clear S2; rintro r w5 ⟨k2, n2, s2, A2, m2, c2, rfl, V2, X5, B2, C5⟩; replace X5 := Lib.hid X5; replace V2 := Lib.hid V2; replace C5 := Lib.hid C5; obtain ⟨q0, q1, q2, q3, p0, p1, p2, p3⟩ := (X5.out.alloc (.cells #[.int .i64 k1, .int .i64 n1, .string s1, .slice A1 m1 c1, .int .i64 k2, .int .i64 n2, .string s2, .slice A2 m2 c2] 25)).cells))
        have hbig := X3.out.big
        have hbig4 := X4.out.big
        have hblt := X5.out.lt
        obtain ⟨U, hU⟩ : ∃ U, ((((w5.alloc (.cells #[.int .i64 k1, .int .i64 n1, .string s1, .slice A1 m1 c1, .int .i64 k2, .int .i64 n2, .string s2, .slice A2 m2 c2] 25)).setCell ⟨W.heap.size, 0, none⟩ (.int .i64 18)).setCell ⟨W.heap.size, 1, none⟩ (.int .i64 0)).setCell ⟨W.heap.size, 2, none⟩ (.string z)).setCell ⟨W.heap.size, 3, none⟩ (.slice (some ⟨w5.heap.size, 0, none⟩) 2 2) = U := ⟨_, rfl⟩
        rw [hU]
        obtain ⟨f1, f2, f3, f4⟩ := (X5.out.alloc (.cells #[.int .i64 k1, .int .i64 n1, .string s1, .slice A1 m1 c1, .int .i64 k2, .int .i64 n2, .string s2, .slice A2 m2 c2] 25)).fin 18 0 z (.slice (some ⟨w5.heap.size, 0, none⟩) 2 2) (Nw.two hbig4 (Nat.le_refl _) C5.out.size hz (V1.out.lower hbig) (fun c _ hc => C5.out.block c hc (by omega)) V2.out) hU
        refine bodyPost_ret (ret_N rfl _ rfl f1) rfl ?_
        exact ⟨_, rfl, f2, f3, by omega, f4⟩
      · obtain ⟨z, hzz⟩ : ∃ z, TY.pick TY.arith (TY.nxt L (i + 2) 4) = z := ⟨_, rfl⟩
        have hz : z.size ≤ 1000 := hzz ▸ pick_small (by decide) (TY.nxt_lt _ _ (by decide))
        have N3 := Lib.hid (fun V (h : Ex W V lo b L (i + 2)) => pk h (by omega) #[.string TY.sPlus, .string TY.sMinus, .string TY.sMul, .string TY.sDiv] TY.arith 4 (by decide) (by decide) (fun j hj => by
            match j, hj with
            | 0, _ => rfl
            | 1, _ => rfl
            | 2, _ => rfl
            | 3, _ => rfl) hzz)
        obtain ⟨⟨t1, j1⟩, h1⟩ : ∃ p, sub 1 (i + 3) = p := ⟨_, rfl⟩
        obtain ⟨⟨t2, j2⟩, h2⟩ : ∃ p, sub 1 j1 = p := ⟨_, rfl⟩
        have hG : TY.genI L true sub 5 (i + 2) = (.mk 18 0 z [t1, t2], j2) := by rw [← hzz]; exact two_eq h1 h2
        rw [hG]
        have S1 := Lib.hid (fun V (h : Ex W V lo b L (i + 3)) => sb hsub h (by omega) 1 1 rfl (by decide) h1)
        have S2 := Lib.hid (fun V (h : Ex W V lo b L j1) (hj : j1 ≤ i + 3 + e) => sb hsub h (by omega) 1 1 rfl (by decide) h2)
        clear hG h1 h2 hzz
        go_enter Try.func11, Try.ntmps11
        go_wp2_with (first
          | (rw [HW0.out]; go_at_call 12; refine N1.out.mono ?_; clear N1; rintro e w1 ⟨rfl, X1, C1⟩; replace X1 := Lib.hid X1; clear C1)
          | (go_at_call 12; refine (N2.out _ X1.out).mono ?_; clear N2; rintro e w2 ⟨rfl, X2, C2⟩; replace X2 := Lib.hid X2; clear C2)
          | (go_at_call 19; refine (N3.out _ X2.out).mono ?_; clear N3; rintro e w3 ⟨rfl, X3, C3⟩; replace X3 := Lib.hid X3; clear C3)
          | (go_at_call 11; refine (S1.out _ X3.out).mono ?_; clear S1; rintro r w4 ⟨k1, n1, s1, A1, m1, c1, rfl, V1, X4, B1, C4⟩; replace X4 := Lib.hid X4; replace V1 := Lib.hid V1; clear C4)
          | (go_at_call 11; refine (S2.out _ X4.out B1).mono ?_; clear S2; rintro r w5 ⟨k2, n2, s2, A2, m2, c2, rfl, V2, X5, B2, C5⟩; replace X5 := Lib.hid X5; replace V2 := Lib.hid V2; replace C5 := Lib.hid C5; obtain ⟨q0, q1, q2, q3, p0, p1, p2, p3⟩ := (X5.out.alloc (.cells #[.int .i64 k1, .int .i64 n1, .string s1, .slice A1 m1 c1, .int .i64 k2, .int .i64 n2, .string s2, .slice A2 m2 c2] 25)).cells))
        have hbig := X3.out.big
        have hbig4 := X4.out.big
        have hblt := X5.out.lt
        obtain ⟨U, hU⟩ : ∃ U, ((((w5.alloc (.cells #[.int .i64 k1, .int .i64 n1, .string s1, .slice A1 m1 c1, .int .i64 k2, .int .i64 n2, .string s2, .slice A2 m2 c2] 25)).setCell ⟨W.heap.size, 0, none⟩ (.int .i64 18)).setCell ⟨W.heap.size, 1, none⟩ (.int .i64 0)).setCell ⟨W.heap.size, 2, none⟩ (.string z)).setCell ⟨W.heap.size, 3, none⟩ (.slice (some ⟨w5.heap.size, 0, none⟩) 2 2) = U := ⟨_, rfl⟩
        rw [hU]
        obtain ⟨f1, f2, f3, f4⟩ := (X5.out.alloc (.cells #[.int .i64 k1, .int .i64 n1, .string s1, .slice A1 m1 c1, .int .i64 k2, .int .i64 n2, .string s2, .slice A2 m2 c2] 25)).fin 18 0 z (.slice (some ⟨w5.heap.size, 0, none⟩) 2 2) (Nw.two hbig4 (Nat.le_refl _) C5.out.size hz (V1.out.lower hbig) (fun c _ hc => C5.out.block c hc (by omega)) V2.out) hU
        refine bodyPost_ret (ret_N rfl _ rfl f1) rfl ?_
        exact ⟨_, rfl, f2, f3, by omega, f4⟩
  · have e5 : ((x : Int) == 5) = false := by simp; omega
    rcases hw with rfl | rfl
    · rw [genF_way (f := 1) hx hk (by rw [if_neg h5])]
      rw [if_neg (by decide)]
      clear hx hk
      rcases hk' with rfl | rfl | rfl | rfl | rfl | rfl
      · obtain ⟨y, hy⟩ : ∃ y, TY.nxt L (i + 2) 10 = y := ⟨_, rfl⟩
        have hy10 : y < 10 := hy ▸ TY.nxt_lt _ _ (by decide)
        have N3 := Lib.hid (fun V (h : Ex W V lo b L (i + 2)) => nx h (by omega) 10 y 10 (by decide) (by decide) rfl hy)
        have N4 := Lib.hid (fun V => nameY y hy10 V)
        have hG : TY.genI L true sub 0 (i + 2) = (.mk 14 0 (TY.vName y) [], i + 3) := by rw [← hy]; rfl
        rw [hG]
        have hz := name_small y
        obtain ⟨z, hzz⟩ : ∃ z, TY.vName y = z := ⟨_, rfl⟩
        rw [hzz] at N4 hz ⊢
        clear hy hG hzz
        go_enter Try.func11, Try.ntmps11
        go_wp2_with (first
          | (rw [HW0.out]; go_at_call 12; refine N1.out.mono ?_; clear N1; rintro e w1 ⟨rfl, X1, C1⟩; replace X1 := Lib.hid X1; clear C1)
          | (go_at_call 12; refine (N2.out _ X1.out).mono ?_; clear N2; rintro e w2 ⟨rfl, X2, C2⟩; replace X2 := Lib.hid X2; clear C2)
          | (go_at_call 12; refine (N3.out _ X2.out).mono ?_; clear N3; rintro e w3 ⟨rfl, X3, C3⟩; replace X3 := Lib.hid X3; clear C3; obtain ⟨q0, q1, q2, q3, p0, p1, p2, p3⟩ := X3.out.cells)
          | (go_at_call 17; refine (N4.out _).mono ?_; clear N4; rintro e w4 ⟨rfl, rfl⟩))
        obtain ⟨U, hU⟩ : ∃ U, (((w4.setCell ⟨W.heap.size, 0, none⟩ (.int .i64 14)).setCell ⟨W.heap.size, 1, none⟩ (.int .i64 0)).setCell ⟨W.heap.size, 2, none⟩ (.string z)).setCell ⟨W.heap.size, 3, none⟩ (.slice none 0 0) = U := ⟨_, rfl⟩
        rw [hU]
        obtain ⟨f1, f2, f3, f4⟩ := X3.out.fin 14 0 z (.slice none 0 0) (Nw.leaf _ _ _ _ _ hz) hU
        refine bodyPost_ret (ret_N rfl _ rfl f1) rfl ?_
        exact ⟨_, rfl, f2, f3, by omega, f4⟩
      · obtain ⟨z, hzz⟩ : ∃ z, TY.pick TY.bNames (TY.nxt L (i + 2) 9) = z := ⟨_, rfl⟩
        have hz : z.size ≤ 1000 := hzz ▸ pick_small (by decide) (TY.nxt_lt _ _ (by decide))
        have N3 := Lib.hid (fun V (h : Ex W V lo b L (i + 2)) => pk h (by omega) #[.string ⟨#[115, 101, 108, 102]⟩, .string ⟨#[110, 111, 100, 101, 115]⟩, .string ⟨#[110, 111, 119]⟩, .string ⟨#[102, 114, 111, 109]⟩, .string ⟨#[97]⟩, .string ⟨#[98]⟩, .string ⟨#[105, 100]⟩, .string ⟨#[111, 112]⟩, .string ⟨#[107, 101, 121]⟩] TY.bNames 9 (by decide) (by decide) (fun j hj => by
            match j, hj with
            | 0, _ => rfl
            | 1, _ => rfl
            | 2, _ => rfl
            | 3, _ => rfl
            | 4, _ => rfl
            | 5, _ => rfl
            | 6, _ => rfl
            | 7, _ => rfl
            | 8, _ => rfl) hzz)
        have hG : TY.genI L true sub 1 (i + 2) = (.mk 15 0 z [], i + 3) := by rw [← hzz]; rfl
        rw [hG]
        clear hG hzz
        go_enter Try.func11, Try.ntmps11
        go_wp2_with (first
          | (rw [HW0.out]; go_at_call 12; refine N1.out.mono ?_; clear N1; rintro e w1 ⟨rfl, X1, C1⟩; replace X1 := Lib.hid X1; clear C1)
          | (go_at_call 12; refine (N2.out _ X1.out).mono ?_; clear N2; rintro e w2 ⟨rfl, X2, C2⟩; replace X2 := Lib.hid X2; clear C2)
          | (go_at_call 19; refine (N3.out _ X2.out).mono ?_; clear N3; rintro e w3 ⟨rfl, X3, C3⟩; replace X3 := Lib.hid X3; clear C3; obtain ⟨q0, q1, q2, q3, p0, p1, p2, p3⟩ := X3.out.cells))
        obtain ⟨U, hU⟩ : ∃ U, (((w3.setCell ⟨W.heap.size, 0, none⟩ (.int .i64 15)).setCell ⟨W.heap.size, 1, none⟩ (.int .i64 0)).setCell ⟨W.heap.size, 2, none⟩ (.string z)).setCell ⟨W.heap.size, 3, none⟩ (.slice none 0 0) = U := ⟨_, rfl⟩
        rw [hU]
        obtain ⟨f1, f2, f3, f4⟩ := X3.out.fin 15 0 z (.slice none 0 0) (Nw.leaf _ _ _ _ _ hz) hU
        refine bodyPost_ret (ret_N rfl _ rfl f1) rfl ?_
        exact ⟨_, rfl, f2, f3, by omega, f4⟩
      · obtain ⟨⟨t1, j1⟩, h1⟩ : ∃ p, sub 1 (i + 2) = p := ⟨_, rfl⟩
        have hG : TY.genI L true sub 2 (i + 2) = (.mk 17 0 TY.sMinus [t1], j1) := one_eq h1
        rw [hG]
        have S1 := Lib.hid (fun V (h : Ex W V lo b L (i + 2)) => sb hsub h (by omega) 1 1 rfl (by decide) h1)
        clear hG h1
        go_enter Try.func11, Try.ntmps11
        go_wp2_with (first
          | (rw [HW0.out]; go_at_call 12; refine N1.out.mono ?_; clear N1; rintro e w1 ⟨rfl, X1, C1⟩; replace X1 := Lib.hid X1; clear C1)
          | (go_at_call 12; refine (N2.out _ X1.out).mono ?_; clear N2; rintro e w2 ⟨rfl, X2, C2⟩; replace X2 := Lib.hid X2; clear C2)
          | (go_at_call 11; refine (S1.out _ X2.out).mono ?_; clear S1; rintro r w3 ⟨k1, n1, s1, A1, m1, c1, rfl, V1, X3, B1, C3⟩; replace X3 := Lib.hid X3; replace V1 := Lib.hid V1; clear C3; obtain ⟨q0, q1, q2, q3, p0, p1, p2, p3⟩ := (X3.out.alloc (.cells #[.int .i64 k1, .int .i64 n1, .string s1, .slice A1 m1 c1] 25)).cells))
        have hbig := X2.out.big
        have hbig3 := X3.out.big
        obtain ⟨U, hU⟩ : ∃ U, ((((w3.alloc (.cells #[.int .i64 k1, .int .i64 n1, .string s1, .slice A1 m1 c1] 25)).setCell ⟨W.heap.size, 0, none⟩ (.int .i64 17)).setCell ⟨W.heap.size, 1, none⟩ (.int .i64 0)).setCell ⟨W.heap.size, 2, none⟩ (.string ⟨#[45]⟩)).setCell ⟨W.heap.size, 3, none⟩ (.slice (some ⟨w3.heap.size, 0, none⟩) 1 1) = U := ⟨_, rfl⟩
        rw [hU]
        obtain ⟨f1, f2, f3, f4⟩ := (X3.out.alloc (.cells #[.int .i64 k1, .int .i64 n1, .string s1, .slice A1 m1 c1] 25)).fin 17 0 ⟨#[45]⟩ (.slice (some ⟨w3.heap.size, 0, none⟩) 1 1) (Nw.one hbig3 (by decide) (V1.out.lower hbig)) hU
        refine bodyPost_ret (ret_N rfl _ rfl f1) rfl ?_
        exact ⟨_, rfl, f2, f3, by omega, f4⟩
      · obtain ⟨⟨t1, j1⟩, h1⟩ : ∃ p, sub 1 (i + 2) = p := ⟨_, rfl⟩
        have hG : TY.genI L true sub 3 (i + 2) = (.mk 16 0 TY.eps [t1], j1) := one_eq h1
        rw [hG]
        have S1 := Lib.hid (fun V (h : Ex W V lo b L (i + 2)) => sb hsub h (by omega) 1 1 rfl (by decide) h1)
        clear hG h1
        go_enter Try.func11, Try.ntmps11
        go_wp2_with (first
          | (rw [HW0.out]; go_at_call 12; refine N1.out.mono ?_; clear N1; rintro e w1 ⟨rfl, X1, C1⟩; replace X1 := Lib.hid X1; clear C1)
          | (go_at_call 12; refine (N2.out _ X1.out).mono ?_; clear N2; rintro e w2 ⟨rfl, X2, C2⟩; replace X2 := Lib.hid X2; clear C2)
          | (go_at_call 11; refine (S1.out _ X2.out).mono ?_; clear S1; rintro r w3 ⟨k1, n1, s1, A1, m1, c1, rfl, V1, X3, B1, C3⟩; replace X3 := Lib.hid X3; replace V1 := Lib.hid V1; clear C3; obtain ⟨q0, q1, q2, q3, p0, p1, p2, p3⟩ := (X3.out.alloc (.cells #[.int .i64 k1, .int .i64 n1, .string s1, .slice A1 m1 c1] 25)).cells))
        have hbig := X2.out.big
        have hbig3 := X3.out.big
        obtain ⟨U, hU⟩ : ∃ U, ((((w3.alloc (.cells #[.int .i64 k1, .int .i64 n1, .string s1, .slice A1 m1 c1] 25)).setCell ⟨W.heap.size, 0, none⟩ (.int .i64 16)).setCell ⟨W.heap.size, 1, none⟩ (.int .i64 0)).setCell ⟨W.heap.size, 2, none⟩ (.string ⟨#[]⟩)).setCell ⟨W.heap.size, 3, none⟩ (.slice (some ⟨w3.heap.size, 0, none⟩) 1 1) = U := ⟨_, rfl⟩
        rw [hU]
        obtain ⟨f1, f2, f3, f4⟩ := (X3.out.alloc (.cells #[.int .i64 k1, .int .i64 n1, .string s1, .slice A1 m1 c1] 25)).fin 16 0 ⟨#[]⟩ (.slice (some ⟨w3.heap.size, 0, none⟩) 1 1) (Nw.one hbig3 (by decide) (V1.out.lower hbig)) hU
        refine bodyPost_ret (ret_N rfl _ rfl f1) rfl ?_
        exact ⟨_, rfl, f2, f3, by omega, f4⟩
      · obtain ⟨z, hzz⟩ : ∃ z, TY.pick TY.arith (TY.nxt L (i + 2) 4) = z := ⟨_, rfl⟩
        have hz : z.size ≤ 1000 := hzz ▸ pick_small (by decide) (TY.nxt_lt _ _ (by decide))
        have N3 := Lib.hid (fun V (h : Ex W V lo b L (i + 2)) => pk h (by omega) #[.string TY.sPlus, .string TY.sMinus, .string TY.sMul, .string TY.sDiv] TY.arith 4 (by decide) (by decide) (fun j hj => by
            match j, hj with
            | 0, _ => rfl
            | 1, _ => rfl
            | 2, _ => rfl
            | 3, _ => rfl) hzz)
        obtain ⟨⟨t1, j1⟩, h1⟩ : ∃ p, sub 1 (i + 3) = p := ⟨_, rfl⟩
        obtain ⟨⟨t2, j2⟩, h2⟩ : ∃ p, sub 1 j1 = p := ⟨_, rfl⟩
        have hG : TY.genI L true sub 4 (i + 2) = (.mk 18 0 z [t1, t2], j2) := by rw [← hzz]; exact two_eq h1 h2
        rw [hG]
        have S1 := Lib.hid (fun V (h : Ex W V lo b L (i + 3)) => sb hsub h (by omega) 1 1 rfl (by decide) h1)
        have S2 := Lib.hid (fun V (h : Ex W V lo b L j1) (hj : j1 ≤ i + 3 + e) => sb hsub h (by omega) 1 1 rfl (by decide) h2)
        clear hG h1 h2 hzz
        go_enter Try.func11, Try.ntmps11
        go_wp2_with (first
          | (rw [HW0.out]; go_at_call 12; refine N1.out.mono ?_; clear N1; rintro e w1 ⟨rfl, X1, C1⟩; replace X1 := Lib.hid X1; clear C1)
          | (go_at_call 12; refine (N2.out _ X1.out).mono ?_; clear N2; rintro e w2 ⟨rfl, X2, C2⟩; replace X2 := Lib.hid X2; clear C2)
          | (go_at_call 19; refine (N3.out _ X2.out).mono ?_; clear N3; rintro e w3 ⟨rfl, X3, C3⟩; replace X3 := Lib.hid X3; clear C3)
          | (go_at_call 11; refine (S1.out _ X3.out).mono ?_; clear S1; rintro r w4 ⟨k1, n1, s1, A1, m1, c1, rfl, V1, X4, B1, C4⟩; replace X4 := Lib.hid X4; replace V1 := Lib.hid V1; clear C4)
          | (go_at_call 11; refine (S2.out _ X4.out B1).mono ?_; clear S2; rintro r w5 ⟨k2, n2, s2, A2, m2, c2, rfl, V2, X5, B2, C5⟩; replace X5 := Lib.hid X5; replace V2 := Lib.hid V2; replace C5 := Lib.hid C5; obtain ⟨q0, q1, q2, q3, p0, p1, p2, p3⟩ := (X5.out.alloc (.cells #[.int .i64 k1, .int .i64 n1, .string s1, .slice A1 m1 c1, .int .i64 k2, .int .i64 n2, .string s2, .slice A2 m2 c2] 25)).cells))
        have hbig := X3.out.big
        have hbig4 := X4.out.big
        have hblt := X5.out.lt
        obtain ⟨U, hU⟩ : ∃ U, ((((w5.alloc (.cells #[.int .i64 k1, .int .i64 n1, .string s1, .slice A1 m1 c1, .int .i64 k2, .int .i64 n2, .string s2, .slice A2 m2 c2] 25)).setCell ⟨W.heap.size, 0, none⟩ (.int .i64 18)).setCell ⟨W.heap.size, 1, none⟩ (.int .i64 0)).setCell ⟨W.heap.size, 2, none⟩ (.string z)).setCell ⟨W.heap.size, 3, none⟩ (.slice (some ⟨w5.heap.size, 0, none⟩) 2 2) = U := ⟨_, rfl⟩
        rw [hU]
        obtain ⟨f1, f2, f3, f4⟩ := (X5.out.alloc (.cells #[.int .i64 k1, .int .i64 n1, .string s1, .slice A1 m1 c1, .int .i64 k2, .int .i64 n2, .string s2, .slice A2 m2 c2] 25)).fin 18 0 z (.slice (some ⟨w5.heap.size, 0, none⟩) 2 2) (Nw.two hbig4 (Nat.le_refl _) C5.out.size hz (V1.out.lower hbig) (fun c _ hc => C5.out.block c hc (by omega)) V2.out) hU
        refine bodyPost_ret (ret_N rfl _ rfl f1) rfl ?_
        exact ⟨_, rfl, f2, f3, by omega, f4⟩
      · obtain ⟨z, hzz⟩ : ∃ z, TY.pick TY.arith (TY.nxt L (i + 2) 4) = z := ⟨_, rfl⟩
        have hz : z.size ≤ 1000 := hzz ▸ pick_small (by decide) (TY.nxt_lt _ _ (by decide))
        have N3 := Lib.hid (fun V (h : Ex W V lo b L (i + 2)) => pk h (by omega) #[.string TY.sPlus, .string TY.sMinus, .string TY.sMul, .string TY.sDiv] TY.arith 4 (by decide) (by decide) (fun j hj => by
            match j, hj with
            | 0, _ => rfl
            | 1, _ => rfl
            | 2, _ => rfl
            | 3, _ => rfl) hzz)
        obtain ⟨⟨t1, j1⟩, h1⟩ : ∃ p, sub 1 (i + 3) = p := ⟨_, rfl⟩
        obtain ⟨⟨t2, j2⟩, h2⟩ : ∃ p, sub 1 j1 = p := ⟨_, rfl⟩
        have hG : TY.genI L true sub 5 (i + 2) = (.mk 18 0 z [t1, t2], j2) := by rw [← hzz]; exact two_eq h1 h2
        rw [hG]
        have S1 := Lib.hid (fun V (h : Ex W V lo b L (i + 3)) => sb hsub h (by omega) 1 1 rfl (by decide) h1)
        have S2 := Lib.hid (fun V (h : Ex W V lo b L j1) (hj : j1 ≤ i + 3 + e) => sb hsub h (by omega) 1 1 rfl (by decide) h2)
        clear hG h1 h2 hzz
        go_enter Try.func11, Try.ntmps11
        go_wp2_with (first
          | (rw [HW0.out]; go_at_call 12; refine N1.out.mono ?_; clear N1; rintro e w1 ⟨rfl, X1, C1⟩; replace X1 := Lib.hid X1; clear C1)
          | (go_at_call 12; refine (N2.out _ X1.out).mono ?_; clear N2; rintro e w2 ⟨rfl, X2, C2⟩; replace X2 := Lib.hid X2; clear C2)
          | (go_at_call 19; refine (N3.out _ X2.out).mono ?_; clear N3; rintro e w3 ⟨rfl, X3, C3⟩; replace X3 := Lib.hid X3; clear C3)
          | (go_at_call 11; refine (S1.out _ X3.out).mono ?_; clear S1; rintro r w4 ⟨k1, n1, s1, A1, m1, c1, rfl, V1, X4, B1, C4⟩; replace X4 := Lib.hid X4; replace V1 := Lib.hid V1; clear C4)
          | (go_at_call 11; refine (S2.out _ X4.out B1).mono ?_; clear S2; rintro r w5 ⟨k2, n2, s2, A2, m2, c2, rfl, V2, X5, B2, C5⟩; replace X5 := Lib.hid X5; replace V2 := Lib.hid V2; replace C5 := Lib.hid C5; obtain ⟨q0, q1, q2, q3, p0, p1, p2, p3⟩ := (X5.out.alloc (.cells #[.int .i64 k1, .int .i64 n1, .string s1, .slice A1 m1 c1, .int .i64 k2, .int .i64 n2, .string s2, .slice A2 m2 c2] 25)).cells))
        have hbig := X3.out.big
        have hbig4 := X4.out.big
        have hblt := X5.out.lt
        obtain ⟨U, hU⟩ : ∃ U, ((((w5.alloc (.cells #[.int .i64 k1, .int .i64 n1, .string s1, .slice A1 m1 c1, .int .i64 k2, .int .i64 n2, .string s2, .slice A2 m2 c2] 25)).setCell ⟨W.heap.size, 0, none⟩ (.int .i64 18)).setCell ⟨W.heap.size, 1, none⟩ (.int .i64 0)).setCell ⟨W.heap.size, 2, none⟩ (.string z)).setCell ⟨W.heap.size, 3, none⟩ (.slice (some ⟨w5.heap.size, 0, none⟩) 2 2) = U := ⟨_, rfl⟩
        rw [hU]
        obtain ⟨f1, f2, f3, f4⟩ := (X5.out.alloc (.cells #[.int .i64 k1, .int .i64 n1, .string s1, .slice A1 m1 c1, .int .i64 k2, .int .i64 n2, .string s2, .slice A2 m2 c2] 25)).fin 18 0 z (.slice (some ⟨w5.heap.size, 0, none⟩) 2 2) (Nw.two hbig4 (Nat.le_refl _) C5.out.size hz (V1.out.lower hbig) (fun c _ hc => C5.out.block c hc (by omega)) V2.out) hU
        refine bodyPost_ret (ret_N rfl _ rfl f1) rfl ?_
        exact ⟨_, rfl, f2, f3, by omega, f4⟩
    · rw [genF_way (f := 2) hx hk (by rw [if_neg h5])]
      rw [if_pos rfl]
      clear hx hk
      rcases hk' with rfl | rfl | rfl | rfl | rfl | rfl
      · obtain ⟨y, hy⟩ : ∃ y, TY.nxt L (i + 2) 2 = y := ⟨_, rfl⟩
        have N3 := Lib.hid (fun V (h : Ex W V lo b L (i + 2)) => nx h (by omega) 2 y 2 (by decide) (by decide) rfl hy)
        have hG : TY.genB L true sub 0 (i + 2) = (.mk 13 (y : Int) TY.eps [], i + 3) := by rw [← hy]; rfl
        rw [hG]
        clear hy hG
        go_enter Try.func11, Try.ntmps11
        go_wp2_with (first
          | (rw [HW0.out]; go_at_call 12; refine N1.out.mono ?_; clear N1; rintro e w1 ⟨rfl, X1, C1⟩; replace X1 := Lib.hid X1; clear C1)
          | (go_at_call 12; refine (N2.out _ X1.out).mono ?_; clear N2; rintro e w2 ⟨rfl, X2, C2⟩; replace X2 := Lib.hid X2; clear C2)
          | (go_at_call 12; refine (N3.out _ X2.out).mono ?_; clear N3; rintro e w3 ⟨rfl, X3, C3⟩; replace X3 := Lib.hid X3; clear C3; obtain ⟨q0, q1, q2, q3, p0, p1, p2, p3⟩ := X3.out.cells))
        obtain ⟨U, hU⟩ : ∃ U, (((w3.setCell ⟨W.heap.size, 0, none⟩ (.int .i64 13)).setCell ⟨W.heap.size, 1, none⟩ (.int .i64 (y : Int))).setCell ⟨W.heap.size, 2, none⟩ (.string ⟨#[]⟩)).setCell ⟨W.heap.size, 3, none⟩ (.slice none 0 0) = U := ⟨_, rfl⟩
        rw [hU]
        obtain ⟨f1, f2, f3, f4⟩ := X3.out.fin 13 (y : Int) ⟨#[]⟩ (.slice none 0 0) (Nw.leaf _ _ _ _ _ (by decide)) hU
        refine bodyPost_ret (ret_N rfl _ rfl f1) rfl ?_
        exact ⟨_, rfl, f2, f3, by omega, f4⟩
      · obtain ⟨⟨t1, j1⟩, h1⟩ : ∃ p, sub 2 (i + 2) = p := ⟨_, rfl⟩
        have hG : TY.genB L true sub 1 (i + 2) = (.mk 17 0 TY.sNot [t1], j1) := one_eq h1
        rw [hG]
        have S1 := Lib.hid (fun V (h : Ex W V lo b L (i + 2)) => sb hsub h (by omega) 2 2 rfl (by decide) h1)
        clear hG h1
        go_enter Try.func11, Try.ntmps11
        go_wp2_with (first
          | (rw [HW0.out]; go_at_call 12; refine N1.out.mono ?_; clear N1; rintro e w1 ⟨rfl, X1, C1⟩; replace X1 := Lib.hid X1; clear C1)
          | (go_at_call 12; refine (N2.out _ X1.out).mono ?_; clear N2; rintro e w2 ⟨rfl, X2, C2⟩; replace X2 := Lib.hid X2; clear C2)
          | (go_at_call 11; refine (S1.out _ X2.out).mono ?_; clear S1; rintro r w3 ⟨k1, n1, s1, A1, m1, c1, rfl, V1, X3, B1, C3⟩; replace X3 := Lib.hid X3; replace V1 := Lib.hid V1; clear C3; obtain ⟨q0, q1, q2, q3, p0, p1, p2, p3⟩ := (X3.out.alloc (.cells #[.int .i64 k1, .int .i64 n1, .string s1, .slice A1 m1 c1] 25)).cells))
        have hbig := X2.out.big
        have hbig3 := X3.out.big
        obtain ⟨U, hU⟩ : ∃ U, ((((w3.alloc (.cells #[.int .i64 k1, .int .i64 n1, .string s1, .slice A1 m1 c1] 25)).setCell ⟨W.heap.size, 0, none⟩ (.int .i64 17)).setCell ⟨W.heap.size, 1, none⟩ (.int .i64 0)).setCell ⟨W.heap.size, 2, none⟩ (.string ⟨#[33]⟩)).setCell ⟨W.heap.size, 3, none⟩ (.slice (some ⟨w3.heap.size, 0, none⟩) 1 1) = U := ⟨_, rfl⟩
        rw [hU]
        obtain ⟨f1, f2, f3, f4⟩ := (X3.out.alloc (.cells #[.int .i64 k1, .int .i64 n1, .string s1, .slice A1 m1 c1] 25)).fin 17 0 ⟨#[33]⟩ (.slice (some ⟨w3.heap.size, 0, none⟩) 1 1) (Nw.one hbig3 (by decide) (V1.out.lower hbig)) hU
        refine bodyPost_ret (ret_N rfl _ rfl f1) rfl ?_
        exact ⟨_, rfl, f2, f3, by omega, f4⟩
      · obtain ⟨z, hzz⟩ : ∃ z, TY.pick TY.logic (TY.nxt L (i + 2) 2) = z := ⟨_, rfl⟩
        have hz : z.size ≤ 1000 := hzz ▸ pick_small (by decide) (TY.nxt_lt _ _ (by decide))
        have N3 := Lib.hid (fun V (h : Ex W V lo b L (i + 2)) => pk h (by omega) #[.string TY.sAnd, .string TY.sOr] TY.logic 2 (by decide) (by decide) (fun j hj => by
            match j, hj with
            | 0, _ => rfl
            | 1, _ => rfl) hzz)
        obtain ⟨⟨t1, j1⟩, h1⟩ : ∃ p, sub 2 (i + 3) = p := ⟨_, rfl⟩
        obtain ⟨⟨t2, j2⟩, h2⟩ : ∃ p, sub 2 j1 = p := ⟨_, rfl⟩
        have hG : TY.genB L true sub 2 (i + 2) = (.mk 18 0 z [t1, t2], j2) := by rw [← hzz]; exact two_eq h1 h2
        rw [hG]
        have S1 := Lib.hid (fun V (h : Ex W V lo b L (i + 3)) => sb hsub h (by omega) 2 2 rfl (by decide) h1)
        have S2 := Lib.hid (fun V (h : Ex W V lo b L j1) (hj : j1 ≤ i + 3 + e) => sb hsub h (by omega) 2 2 rfl (by decide) h2)
        clear hG h1 h2 hzz
        go_enter Try.func11, Try.ntmps11
        go_wp2_with (first
          | (rw [HW0.out]; go_at_call 12; refine N1.out.mono ?_; clear N1; rintro e w1 ⟨rfl, X1, C1⟩; replace X1 := Lib.hid X1; clear C1)
          | (go_at_call 12; refine (N2.out _ X1.out).mono ?_; clear N2; rintro e w2 ⟨rfl, X2, C2⟩; replace X2 := Lib.hid X2; clear C2)
          | (go_at_call 19; refine (N3.out _ X2.out).mono ?_; clear N3; rintro e w3 ⟨rfl, X3, C3⟩; replace X3 := Lib.hid X3; clear C3)
          | (go_at_call 11; refine (S1.out _ X3.out).mono ?_; clear S1; rintro r w4 ⟨k1, n1, s1, A1, m1, c1, rfl, V1, X4, B1, C4⟩; replace X4 := Lib.hid X4; replace V1 := Lib.hid V1; clear C4)
          | (go_at_call 11; refine (S2.out _ X4.out B1).mono ?_; clear S2; rintro r w5 ⟨k2, n2, s2, A2, m2, c2, rfl, V2, X5, B2, C5⟩; replace X5 := Lib.hid X5; replace V2 := Lib.hid V2; replace C5 := Lib.hid C5; obtain ⟨q0, q1, q2, q3, p0, p1, p2, p3⟩ := (X5.out.alloc (.cells #[.int .i64 k1, .int .i64 n1, .string s1, .slice A1 m1 c1, .int .i64 k2, .int .i64 n2, .string s2, .slice A2 m2 c2] 25)).cells))
        have hbig := X3.out.big
        have hbig4 := X4.out.big
        have hblt := X5.out.lt
        obtain ⟨U, hU⟩ : ∃ U, ((((w5.alloc (.cells #[.int .i64 k1, .int .i64 n1, .string s1, .slice A1 m1 c1, .int .i64 k2, .int .i64 n2, .string s2, .slice A2 m2 c2] 25)).setCell ⟨W.heap.size, 0, none⟩ (.int .i64 18)).setCell ⟨W.heap.size, 1, none⟩ (.int .i64 0)).setCell ⟨W.heap.size, 2, none⟩ (.string z)).setCell ⟨W.heap.size, 3, none⟩ (.slice (some ⟨w5.heap.size, 0, none⟩) 2 2) = U := ⟨_, rfl⟩
        rw [hU]
        obtain ⟨f1, f2, f3, f4⟩ := (X5.out.alloc (.cells #[.int .i64 k1, .int .i64 n1, .string s1, .slice A1 m1 c1, .int .i64 k2, .int .i64 n2, .string s2, .slice A2 m2 c2] 25)).fin 18 0 z (.slice (some ⟨w5.heap.size, 0, none⟩) 2 2) (Nw.two hbig4 (Nat.le_refl _) C5.out.size hz (V1.out.lower hbig) (fun c _ hc => C5.out.block c hc (by omega)) V2.out) hU
        refine bodyPost_ret (ret_N rfl _ rfl f1) rfl ?_
        exact ⟨_, rfl, f2, f3, by omega, f4⟩
      · obtain ⟨z, hzz⟩ : ∃ z, TY.pick TY.compar (TY.nxt L (i + 2) 6) = z := ⟨_, rfl⟩
        have hz : z.size ≤ 1000 := hzz ▸ pick_small (by decide) (TY.nxt_lt _ _ (by decide))
        have N3 := Lib.hid (fun V (h : Ex W V lo b L (i + 2)) => pk h (by omega) #[.string TY.sLt, .string TY.sLe, .string TY.sGt, .string TY.sGe, .string TY.sEq, .string TY.sNe] TY.compar 6 (by decide) (by decide) (fun j hj => by
            match j, hj with
            | 0, _ => rfl
            | 1, _ => rfl
            | 2, _ => rfl
            | 3, _ => rfl
            | 4, _ => rfl
            | 5, _ => rfl) hzz)
        obtain ⟨⟨t1, j1⟩, h1⟩ : ∃ p, sub 1 (i + 3) = p := ⟨_, rfl⟩
        obtain ⟨⟨t2, j2⟩, h2⟩ : ∃ p, sub 1 j1 = p := ⟨_, rfl⟩
        have hG : TY.genB L true sub 3 (i + 2) = (.mk 18 0 z [t1, t2], j2) := by rw [← hzz]; exact two_eq h1 h2
        rw [hG]
        have S1 := Lib.hid (fun V (h : Ex W V lo b L (i + 3)) => sb hsub h (by omega) 1 1 rfl (by decide) h1)
        have S2 := Lib.hid (fun V (h : Ex W V lo b L j1) (hj : j1 ≤ i + 3 + e) => sb hsub h (by omega) 1 1 rfl (by decide) h2)
        clear hG h1 h2 hzz
        go_enter Try.func11, Try.ntmps11
        go_wp2_with (first
          | (rw [HW0.out]; go_at_call 12; refine N1.out.mono ?_; clear N1; rintro e w1 ⟨rfl, X1, C1⟩; replace X1 := Lib.hid X1; clear C1)
          | (go_at_call 12; refine (N2.out _ X1.out).mono ?_; clear N2; rintro e w2 ⟨rfl, X2, C2⟩; replace X2 := Lib.hid X2; clear C2)
          | (go_at_call 19; refine (N3.out _ X2.out).mono ?_; clear N3; rintro e w3 ⟨rfl, X3, C3⟩; replace X3 := Lib.hid X3; clear C3)
          | (go_at_call 11; refine (S1.out _ X3.out).mono ?_; clear S1; rintro r w4 ⟨k1, n1, s1, A1, m1, c1, rfl, V1, X4, B1, C4⟩; replace X4 := Lib.hid X4; replace V1 := Lib.hid V1; clear C4)
          | (go_at_call 11; refine (S2.out _ X4.out B1).mono ?_; clear S2; rintro r w5 ⟨k2, n2, s2, A2, m2, c2, rfl, V2, X5, B2, C5⟩; replace X5 := Lib.hid X5; replace V2 := Lib.hid V2; replace C5 := Lib.hid C5; obtain ⟨q0, q1, q2, q3, p0, p1, p2, p3⟩ := (X5.out.alloc (.cells #[.int .i64 k1, .int .i64 n1, .string s1, .slice A1 m1 c1, .int .i64 k2, .int .i64 n2, .string s2, .slice A2 m2 c2] 25)).cells))
        have hbig := X3.out.big
        have hbig4 := X4.out.big
        have hblt := X5.out.lt
        obtain ⟨U, hU⟩ : ∃ U, ((((w5.alloc (.cells #[.int .i64 k1, .int .i64 n1, .string s1, .slice A1 m1 c1, .int .i64 k2, .int .i64 n2, .string s2, .slice A2 m2 c2] 25)).setCell ⟨W.heap.size, 0, none⟩ (.int .i64 18)).setCell ⟨W.heap.size, 1, none⟩ (.int .i64 0)).setCell ⟨W.heap.size, 2, none⟩ (.string z)).setCell ⟨W.heap.size, 3, none⟩ (.slice (some ⟨w5.heap.size, 0, none⟩) 2 2) = U := ⟨_, rfl⟩
        rw [hU]
        obtain ⟨f1, f2, f3, f4⟩ := (X5.out.alloc (.cells #[.int .i64 k1, .int .i64 n1, .string s1, .slice A1 m1 c1, .int .i64 k2, .int .i64 n2, .string s2, .slice A2 m2 c2] 25)).fin 18 0 z (.slice (some ⟨w5.heap.size, 0, none⟩) 2 2) (Nw.two hbig4 (Nat.le_refl _) C5.out.size hz (V1.out.lower hbig) (fun c _ hc => C5.out.block c hc (by omega)) V2.out) hU
        refine bodyPost_ret (ret_N rfl _ rfl f1) rfl ?_
        exact ⟨_, rfl, f2, f3, by omega, f4⟩
      · obtain ⟨z, hzz⟩ : ∃ z, TY.pick TY.compar (TY.nxt L (i + 2) 6) = z := ⟨_, rfl⟩
        have hz : z.size ≤ 1000 := hzz ▸ pick_small (by decide) (TY.nxt_lt _ _ (by decide))
        have N3 := Lib.hid (fun V (h : Ex W V lo b L (i + 2)) => pk h (by omega) #[.string TY.sLt, .string TY.sLe, .string TY.sGt, .string TY.sGe, .string TY.sEq, .string TY.sNe] TY.compar 6 (by decide) (by decide) (fun j hj => by
            match j, hj with
            | 0, _ => rfl
            | 1, _ => rfl
            | 2, _ => rfl
            | 3, _ => rfl
            | 4, _ => rfl
            | 5, _ => rfl) hzz)
        obtain ⟨⟨t1, j1⟩, h1⟩ : ∃ p, sub 1 (i + 3) = p := ⟨_, rfl⟩
        obtain ⟨⟨t2, j2⟩, h2⟩ : ∃ p, sub 1 j1 = p := ⟨_, rfl⟩
        have hG : TY.genB L true sub 4 (i + 2) = (.mk 18 0 z [t1, t2], j2) := by rw [← hzz]; exact two_eq h1 h2
        rw [hG]
        have S1 := Lib.hid (fun V (h : Ex W V lo b L (i + 3)) => sb hsub h (by omega) 1 1 rfl (by decide) h1)
        have S2 := Lib.hid (fun V (h : Ex W V lo b L j1) (hj : j1 ≤ i + 3 + e) => sb hsub h (by omega) 1 1 rfl (by decide) h2)
        clear hG h1 h2 hzz
        go_enter Try.func11, Try.ntmps11
        go_wp2_with (first
          | (rw [HW0.out]; go_at_call 12; refine N1.out.mono ?_; clear N1; rintro e w1 ⟨rfl, X1, C1⟩; replace X1 := Lib.hid X1; clear C1)
          | (go_at_call 12; refine (N2.out _ X1.out).mono ?_; clear N2; rintro e w2 ⟨rfl, X2, C2⟩; replace X2 := Lib.hid X2; clear C2)
          | (go_at_call 19; refine (N3.out _ X2.out).mono ?_; clear N3; rintro e w3 ⟨rfl, X3, C3⟩; replace X3 := Lib.hid X3; clear C3)
          | (go_at_call 11; refine (S1.out _ X3.out).mono ?_; clear S1; rintro r w4 ⟨k1, n1, s1, A1, m1, c1, rfl, V1, X4, B1, C4⟩; replace X4 := Lib.hid X4; replace V1 := Lib.hid V1; clear C4)
          | (go_at_call 11; refine (S2.out _ X4.out B1).mono ?_; clear S2; rintro r w5 ⟨k2, n2, s2, A2, m2, c2, rfl, V2, X5, B2, C5⟩; replace X5 := Lib.hid X5; replace V2 := Lib.hid V2; replace C5 := Lib.hid C5; obtain ⟨q0, q1, q2, q3, p0, p1, p2, p3⟩ := (X5.out.alloc (.cells #[.int .i64 k1, .int .i64 n1, .string s1, .slice A1 m1 c1, .int .i64 k2, .int .i64 n2, .string s2, .slice A2 m2 c2] 25)).cells))
        have hbig := X3.out.big
        have hbig4 := X4.out.big
        have hblt := X5.out.lt
        obtain ⟨U, hU⟩ : ∃ U, ((((w5.alloc (.cells #[.int .i64 k1, .int .i64 n1, .string s1, .slice A1 m1 c1, .int .i64 k2, .int .i64 n2, .string s2, .slice A2 m2 c2] 25)).setCell ⟨W.heap.size, 0, none⟩ (.int .i64 18)).setCell ⟨W.heap.size, 1, none⟩ (.int .i64 0)).setCell ⟨W.heap.size, 2, none⟩ (.string z)).setCell ⟨W.heap.size, 3, none⟩ (.slice (some ⟨w5.heap.size, 0, none⟩) 2 2) = U := ⟨_, rfl⟩
        rw [hU]
        obtain ⟨f1, f2, f3, f4⟩ := (X5.out.alloc (.cells #[.int .i64 k1, .int .i64 n1, .string s1, .slice A1 m1 c1, .int .i64 k2, .int .i64 n2, .string s2, .slice A2 m2 c2] 25)).fin 18 0 z (.slice (some ⟨w5.heap.size, 0, none⟩) 2 2) (Nw.two hbig4 (Nat.le_refl _) C5.out.size hz (V1.out.lower hbig) (fun c _ hc => C5.out.block c hc (by omega)) V2.out) hU
        refine bodyPost_ret (ret_N rfl _ rfl f1) rfl ?_
        exact ⟨_, rfl, f2, f3, by omega, f4⟩
      · obtain ⟨z, hzz⟩ : ∃ z, TY.pick TY.compar (TY.nxt L (i + 2) 6) = z := ⟨_, rfl⟩
        have hz : z.size ≤ 1000 := hzz ▸ pick_small (by decide) (TY.nxt_lt _ _ (by decide))
        have N3 := Lib.hid (fun V (h : Ex W V lo b L (i + 2)) => pk h (by omega) #[.string TY.sLt, .string TY.sLe, .string TY.sGt, .string TY.sGe, .string TY.sEq, .string TY.sNe] TY.compar 6 (by decide) (by decide) (fun j hj => by
            match j, hj with
            | 0, _ => rfl
            | 1, _ => rfl
            | 2, _ => rfl
            | 3, _ => rfl
            | 4, _ => rfl
            | 5, _ => rfl) hzz)
        obtain ⟨⟨t1, j1⟩, h1⟩ : ∃ p, sub 1 (i + 3) = p := ⟨_, rfl⟩
        obtain ⟨⟨t2, j2⟩, h2⟩ : ∃ p, sub 1 j1 = p := ⟨_, rfl⟩
        have hG : TY.genB L true sub 5 (i + 2) = (.mk 18 0 z [t1, t2], j2) := by rw [← hzz]; exact two_eq h1 h2
        rw [hG]
        have S1 := Lib.hid (fun V (h : Ex W V lo b L (i + 3)) => sb hsub h (by omega) 1 1 rfl (by decide) h1)
        have S2 := Lib.hid (fun V (h : Ex W V lo b L j1) (hj : j1 ≤ i + 3 + e) => sb hsub h (by omega) 1 1 rfl (by decide) h2)
        clear hG h1 h2 hzz
        go_enter Try.func11, Try.ntmps11
        go_wp2_with (first
          | (rw [HW0.out]; go_at_call 12; refine N1.out.mono ?_; clear N1; rintro e w1 ⟨rfl, X1, C1⟩; replace X1 := Lib.hid X1; clear C1)
          | (go_at_call 12; refine (N2.out _ X1.out).mono ?_; clear N2; rintro e w2 ⟨rfl, X2, C2⟩; replace X2 := Lib.hid X2; clear C2)
          | (go_at_call 19; refine (N3.out _ X2.out).mono ?_; clear N3; rintro e w3 ⟨rfl, X3, C3⟩; replace X3 := Lib.hid X3; clear C3)
          | (go_at_call 11; refine (S1.out _ X3.out).mono ?_; clear S1; rintro r w4 ⟨k1, n1, s1, A1, m1, c1, rfl, V1, X4, B1, C4⟩; replace X4 := Lib.hid X4; replace V1 := Lib.hid V1; clear C4)
          | (go_at_call 11; refine (S2.out _ X4.out B1).mono ?_; clear S2; rintro r w5 ⟨k2, n2, s2, A2, m2, c2, rfl, V2, X5, B2, C5⟩; replace X5 := Lib.hid X5; replace V2 := Lib.hid V2; replace C5 := Lib.hid C5; obtain ⟨q0, q1, q2, q3, p0, p1, p2, p3⟩ := (X5.out.alloc (.cells #[.int .i64 k1, .int .i64 n1, .string s1, .slice A1 m1 c1, .int .i64 k2, .int .i64 n2, .string s2, .slice A2 m2 c2] 25)).cells))
        have hbig := X3.out.big
        have hbig4 := X4.out.big
        have hblt := X5.out.lt
        obtain ⟨U, hU⟩ : ∃ U, ((((w5.alloc (.cells #[.int .i64 k1, .int .i64 n1, .string s1, .slice A1 m1 c1, .int .i64 k2, .int .i64 n2, .string s2, .slice A2 m2 c2] 25)).setCell ⟨W.heap.size, 0, none⟩ (.int .i64 18)).setCell ⟨W.heap.size, 1, none⟩ (.int .i64 0)).setCell ⟨W.heap.size, 2, none⟩ (.string z)).setCell ⟨W.heap.size, 3, none⟩ (.slice (some ⟨w5.heap.size, 0, none⟩) 2 2) = U := ⟨_, rfl⟩
        rw [hU]
        obtain ⟨f1, f2, f3, f4⟩ := (X5.out.alloc (.cells #[.int .i64 k1, .int .i64 n1, .string s1, .slice A1 m1 c1, .int .i64 k2, .int .i64 n2, .string s2, .slice A2 m2 c2] 25)).fin 18 0 z (.slice (some ⟨w5.heap.size, 0, none⟩) 2 2) (Nw.two hbig4 (Nat.le_refl _) C5.out.size hz (V1.out.lower hbig) (fun c _ hc => C5.out.block c hc (by omega)) V2.out) hU
        refine bodyPost_ret (ret_N rfl _ rfl f1) rfl ?_
        exact ⟨_, rfl, f2, f3, by omega, f4⟩
end Go.Proofs.Ytligbandpmgmaaa
