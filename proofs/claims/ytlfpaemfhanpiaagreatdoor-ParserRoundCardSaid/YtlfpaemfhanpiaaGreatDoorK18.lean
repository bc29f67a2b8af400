/-
  The printer: a statement, one contract for each kind (written by wip/gen/prst.py).
  The printer: blocks; all statements, by induction.
  The printer: all statements and blocks, by induction.
  The printer: declarations. Conditions: the names are no empty texts.
-/
import Derived.Test.YtlfpaemfhanpiaaGreatDoorK17
import Derived.Test.YtlfpaemfhanpiaaGreatDoorK12

namespace Go.Proofs.YtlfpaemfhanpiaaGreatDoor
open Go Go.RowKit Go.Proofs
attribute [local go_sem] Oper.semAt_some

set_option maxRecDepth 100000 in
set_option maxHeartbeats 4000000 in
theorem st_asg (s : ByteArray) (t0 : TY.Nd) (hs : PP.ob s ≠ []) (e0 : ExprC t0) : StC (.mk 1 0 s [t0]) := by
  intro lo g hi W x v hv hP hT hl hlen
  obtain ⟨b, off, c, rfl, hc, hcm, _⟩ := hv.kids (by simp)
  have hc : 1 ≤ c := hc
  obtain ⟨k0, n0, s0, A0, m0, c0, hn0, g0⟩ := hv.kid (i := 0) rfl
  rw [Nat.zero_mul, Nat.add_zero] at g0
  have G0 := Lib.hid g0
  have N0 := Lib.hid hn0
  have S0 := Lib.hid (Sgp.start hP hl hT (.int .i64 1) (.int .i64 0) (.string s) (.slice (some ⟨b, off, none⟩) 1 c))
  have HV := Lib.hid hv
  have hbt : PP.tS false (.mk 1 0 s [t0]) = [PP.ob s, PS.yAsg] ++ PP.lst false [t0] ++ [PS.ySemi] := by rw [PP.tS_eq]; first | rfl | simp [PP.stF, PP.kd, PP.lst]
  rw [hbt] at hlen ⊢
  rw [PP.joins_append, PP.joins_append] at hlen ⊢
  have L3 := Lib.hid hlen
  have L2 := Lib.hid (len_in L3.out)
  have L1 := Lib.hid (len_in L2.out)
  have E0 := Lib.hid e0
  obtain ⟨B0, hB0⟩ : ∃ U, (W.alloc (.cells #[.int .i64 1, .int .i64 0, .string s, (.slice (some ⟨b, off, none⟩) 1 c)] 33)) = U := ⟨_, rfl⟩
  rw [hB0] at S0
  obtain ⟨a0, a1, a2, a3⟩ := S0.out.cells
  obtain ⟨p00, p01, p02, p03⟩ := (G0.out.qt S0.out.all).cells
  clear hv hP hT hl hlen hbt e0 hn0 g0
  go_enter Tryz.func70, Tryz.ntmps70
  go_wp2_with fail
  refine (put_new [PP.ob s, PS.yAsg] 2 _ rfl (by omega) (show #[Value.string (PS.bs (PP.ob s)), _] = _ from by rw [PP.bs_ob]) S0.out.1 S0.out.low (by intro t ht; simp only [List.mem_cons, List.not_mem_nil, or_false] at ht; rcases ht with rfl | rfl; exact hs; decide) L1.out).mono ?_
  rintro e w1 ⟨rfl, h1, h2⟩
  have S1 := Lib.hid (S0.out.step h1 h2)
  clear h1 h2 a0 a1 a2 a3 p00 p01 p02 p03
  obtain ⟨xb0, xb1, xb2, xb3⟩ := S1.out.cells
  obtain ⟨yb00, yb01, yb02, yb03⟩ := (G0.out.qt S1.out.all).cells
  go_wp2_with fail
  refine (list_nd (S1.out.nd HV.out) (fun t ht => by rw [List.mem_singleton.1 ht]; exact E0.out) S1.out.1 S1.out.tb S1.out.low L2.out).mono ?_
  rintro e w2 ⟨rfl, h1, h2⟩
  have S2 := Lib.hid (S1.out.step h1 h2)
  clear h1 h2 xb0 xb1 xb2 xb3 yb00 yb01 yb02 yb03
  obtain ⟨xc0, xc1, xc2, xc3⟩ := S2.out.cells
  obtain ⟨yc00, yc01, yc02, yc03⟩ := (G0.out.qt S2.out.all).cells
  go_wp2_with fail
  refine (put_new [PS.ySemi] 1 _ rfl (by omega) rfl S2.out.1 S2.out.low (by decide) L3.out).mono ?_
  rintro e w3 ⟨rfl, h1, h2⟩
  have S3 := Lib.hid (S2.out.step h1 h2)
  clear h1 h2 xc0 xc1 xc2 xc3 yc00 yc01 yc02 yc03
  obtain ⟨xd0, xd1, xd2, xd3⟩ := S3.out.cells
  obtain ⟨yd00, yd01, yd02, yd03⟩ := (G0.out.qt S3.out.all).cells
  go_wp2_with fail
  go_end0
  exact ⟨rfl, S3.out.fin⟩
set_option maxRecDepth 100000 in
set_option maxHeartbeats 4000000 in
theorem st_tim (n : Int) (h0 : 0 ≤ n) (h1 : n ≤ 2147483647) : StC (.mk 5 n TY.eps []) := by
  intro lo g hi W x v hv hP hT hl hlen
  obtain ⟨A, c, vs, rfl, _⟩ := hv.open_
  have S0 := Lib.hid (Sgp.start hP hl hT (.int .i64 5) (.int .i64 n) (.string TY.eps) (.slice A 0 c))
  have HV := Lib.hid hv
  have hbt : PP.tS false (.mk 5 n TY.eps []) = [PS.wTimer, PP.dec n] ++ [PS.ySemi] := by rw [PP.tS_eq]; first | rfl | simp [PP.stF, PP.kd, PP.lst]
  rw [hbt] at hlen ⊢
  rw [PP.joins_append] at hlen ⊢
  have L2 := Lib.hid hlen
  have L1 := Lib.hid (len_in L2.out)
  have H0 := Lib.hid h0
  have H1 := Lib.hid h1
  obtain ⟨B0, hB0⟩ : ∃ U, (W.alloc (.cells #[.int .i64 5, .int .i64 n, .string TY.eps, (.slice A 0 c)] 33)) = U := ⟨_, rfl⟩
  rw [hB0] at S0
  obtain ⟨a0, a1, a2, a3⟩ := S0.out.cells
  clear hv hP hT hl hlen hbt h0 h1
  go_enter Tryz.func70, Tryz.ntmps70
  go_wp2_with fail
  refine (itoa_any n H0.out H1.out _ S0.out.tb).mono ?_
  rintro e w1 ⟨rfl, h2⟩
  have S1 := Lib.hid (S0.out.below h2)
  clear h2 a0 a1 a2 a3
  obtain ⟨xb0, xb1, xb2, xb3⟩ := S1.out.cells
  go_wp2_with fail
  refine (put_new [PS.wTimer, PP.dec n] 2 _ rfl (by omega) rfl S1.out.1 S1.out.low (put_ne H0.out H1.out (by decide)) L1.out).mono ?_
  rintro e w2 ⟨rfl, h1, h2⟩
  have S2 := Lib.hid (S1.out.step h1 h2)
  clear h1 h2 xb0 xb1 xb2 xb3
  obtain ⟨xc0, xc1, xc2, xc3⟩ := S2.out.cells
  go_wp2_with fail
  refine (put_new [PS.ySemi] 1 _ rfl (by omega) rfl S2.out.1 S2.out.low (by decide) L2.out).mono ?_
  rintro e w3 ⟨rfl, h1, h2⟩
  have S3 := Lib.hid (S2.out.step h1 h2)
  clear h1 h2 xc0 xc1 xc2 xc3
  obtain ⟨xd0, xd1, xd2, xd3⟩ := S3.out.cells
  go_wp2_with fail
  go_end0
  exact ⟨rfl, S3.out.fin⟩
set_option maxRecDepth 100000 in
set_option maxHeartbeats 4000000 in
theorem st_can (n : Int) (h0 : 0 ≤ n) (h1 : n ≤ 2147483647) : StC (.mk 6 n TY.eps []) := by
  intro lo g hi W x v hv hP hT hl hlen
  obtain ⟨A, c, vs, rfl, _⟩ := hv.open_
  have S0 := Lib.hid (Sgp.start hP hl hT (.int .i64 6) (.int .i64 n) (.string TY.eps) (.slice A 0 c))
  have HV := Lib.hid hv
  have hbt : PP.tS false (.mk 6 n TY.eps []) = [PS.wCancel, PP.dec n] ++ [PS.ySemi] := by rw [PP.tS_eq]; first | rfl | simp [PP.stF, PP.kd, PP.lst]
  rw [hbt] at hlen ⊢
  rw [PP.joins_append] at hlen ⊢
  have L2 := Lib.hid hlen
  have L1 := Lib.hid (len_in L2.out)
  have H0 := Lib.hid h0
  have H1 := Lib.hid h1
  obtain ⟨B0, hB0⟩ : ∃ U, (W.alloc (.cells #[.int .i64 6, .int .i64 n, .string TY.eps, (.slice A 0 c)] 33)) = U := ⟨_, rfl⟩
  rw [hB0] at S0
  obtain ⟨a0, a1, a2, a3⟩ := S0.out.cells
  clear hv hP hT hl hlen hbt h0 h1
  go_enter Tryz.func70, Tryz.ntmps70
  go_wp2_with fail
  refine (itoa_any n H0.out H1.out _ S0.out.tb).mono ?_
  rintro e w1 ⟨rfl, h2⟩
  have S1 := Lib.hid (S0.out.below h2)
  clear h2 a0 a1 a2 a3
  obtain ⟨xb0, xb1, xb2, xb3⟩ := S1.out.cells
  go_wp2_with fail
  refine (put_new [PS.wCancel, PP.dec n] 2 _ rfl (by omega) rfl S1.out.1 S1.out.low (put_ne H0.out H1.out (by decide)) L1.out).mono ?_
  rintro e w2 ⟨rfl, h1, h2⟩
  have S2 := Lib.hid (S1.out.step h1 h2)
  clear h1 h2 xb0 xb1 xb2 xb3
  obtain ⟨xc0, xc1, xc2, xc3⟩ := S2.out.cells
  go_wp2_with fail
  refine (put_new [PS.ySemi] 1 _ rfl (by omega) rfl S2.out.1 S2.out.low (by decide) L2.out).mono ?_
  rintro e w3 ⟨rfl, h1, h2⟩
  have S3 := Lib.hid (S2.out.step h1 h2)
  clear h1 h2 xc0 xc1 xc2 xc3
  obtain ⟨xd0, xd1, xd2, xd3⟩ := S3.out.cells
  go_wp2_with fail
  go_end0
  exact ⟨rfl, S3.out.fin⟩
set_option maxRecDepth 100000 in
set_option maxHeartbeats 4000000 in
theorem st_syn  : StC (.mk 7 0 TY.eps []) := by
  intro lo g hi W x v hv hP hT hl hlen
  obtain ⟨A, c, vs, rfl, _⟩ := hv.open_
  have S0 := Lib.hid (Sgp.start hP hl hT (.int .i64 7) (.int .i64 0) (.string TY.eps) (.slice A 0 c))
  have HV := Lib.hid hv
  have hbt : PP.tS false (.mk 7 0 TY.eps []) = [PS.wSync] ++ [PS.ySemi] := by rw [PP.tS_eq]; first | rfl | simp [PP.stF, PP.kd, PP.lst]
  rw [hbt] at hlen ⊢
  rw [PP.joins_append] at hlen ⊢
  have L2 := Lib.hid hlen
  have L1 := Lib.hid (len_in L2.out)
  obtain ⟨B0, hB0⟩ : ∃ U, (W.alloc (.cells #[.int .i64 7, .int .i64 0, .string TY.eps, (.slice A 0 c)] 33)) = U := ⟨_, rfl⟩
  rw [hB0] at S0
  obtain ⟨a0, a1, a2, a3⟩ := S0.out.cells
  clear hv hP hT hl hlen hbt 
  go_enter Tryz.func70, Tryz.ntmps70
  go_wp2_with fail
  refine (put_new [PS.wSync] 1 _ rfl (by omega) rfl S0.out.1 S0.out.low (by decide) L1.out).mono ?_
  rintro e w1 ⟨rfl, h1, h2⟩
  have S1 := Lib.hid (S0.out.step h1 h2)
  clear h1 h2 a0 a1 a2 a3
  obtain ⟨xb0, xb1, xb2, xb3⟩ := S1.out.cells
  go_wp2_with fail
  refine (put_new [PS.ySemi] 1 _ rfl (by omega) rfl S1.out.1 S1.out.low (by decide) L2.out).mono ?_
  rintro e w2 ⟨rfl, h1, h2⟩
  have S2 := Lib.hid (S1.out.step h1 h2)
  clear h1 h2 xb0 xb1 xb2 xb3
  obtain ⟨xc0, xc1, xc2, xc3⟩ := S2.out.cells
  go_wp2_with fail
  go_end0
  exact ⟨rfl, S2.out.fin⟩
set_option maxRecDepth 100000 in
set_option maxHeartbeats 4000000 in
theorem st_stp  : StC (.mk 10 0 TY.eps []) := by
  intro lo g hi W x v hv hP hT hl hlen
  obtain ⟨A, c, vs, rfl, _⟩ := hv.open_
  have S0 := Lib.hid (Sgp.start hP hl hT (.int .i64 10) (.int .i64 0) (.string TY.eps) (.slice A 0 c))
  have HV := Lib.hid hv
  have hbt : PP.tS false (.mk 10 0 TY.eps []) = [PS.wStop] ++ [PS.ySemi] := by rw [PP.tS_eq]; first | rfl | simp [PP.stF, PP.kd, PP.lst]
  rw [hbt] at hlen ⊢
  rw [PP.joins_append] at hlen ⊢
  have L2 := Lib.hid hlen
  have L1 := Lib.hid (len_in L2.out)
  obtain ⟨B0, hB0⟩ : ∃ U, (W.alloc (.cells #[.int .i64 10, .int .i64 0, .string TY.eps, (.slice A 0 c)] 33)) = U := ⟨_, rfl⟩
  rw [hB0] at S0
  obtain ⟨a0, a1, a2, a3⟩ := S0.out.cells
  clear hv hP hT hl hlen hbt 
  go_enter Tryz.func70, Tryz.ntmps70
  go_wp2_with fail
  refine (put_new [PS.wStop] 1 _ rfl (by omega) rfl S0.out.1 S0.out.low (by decide) L1.out).mono ?_
  rintro e w1 ⟨rfl, h1, h2⟩
  have S1 := Lib.hid (S0.out.step h1 h2)
  clear h1 h2 a0 a1 a2 a3
  obtain ⟨xb0, xb1, xb2, xb3⟩ := S1.out.cells
  go_wp2_with fail
  refine (put_new [PS.ySemi] 1 _ rfl (by omega) rfl S1.out.1 S1.out.low (by decide) L2.out).mono ?_
  rintro e w2 ⟨rfl, h1, h2⟩
  have S2 := Lib.hid (S1.out.step h1 h2)
  clear h1 h2 xb0 xb1 xb2 xb3
  obtain ⟨xc0, xc1, xc2, xc3⟩ := S2.out.cells
  go_wp2_with fail
  go_end0
  exact ⟨rfl, S2.out.fin⟩
set_option maxRecDepth 100000 in
set_option maxHeartbeats 4000000 in
theorem st_rep (t0 t1 : TY.Nd) (e0 : ExprC t0) (e1 : ExprC t1) : StC (.mk 8 0 TY.eps [t0, t1]) := by
  intro lo g hi W x v hv hP hT hl hlen
  obtain ⟨b, off, c, rfl, hc, hcm, _⟩ := hv.kids (by simp)
  have hc : 2 ≤ c := hc
  obtain ⟨k0, n0, s0, A0, m0, c0, hn0, g0⟩ := hv.kid (i := 0) rfl
  rw [Nat.zero_mul, Nat.add_zero] at g0
  have G0 := Lib.hid g0
  have N0 := Lib.hid hn0
  obtain ⟨k1, n1, s1, A1, m1, c1, hn1, g1⟩ := hv.kid (i := 1) rfl
  rw [Nat.one_mul] at g1
  have G1 := Lib.hid g1
  have N1 := Lib.hid hn1
  have S0 := Lib.hid (Sgp.start hP hl hT (.int .i64 8) (.int .i64 0) (.string TY.eps) (.slice (some ⟨b, off, none⟩) 2 c))
  have HV := Lib.hid hv
  have hbt : PP.tS false (.mk 8 0 TY.eps [t0, t1]) = [PS.wReply] ++ PP.lst false [t0, t1] ++ [PS.ySemi] := by rw [PP.tS_eq]; first | rfl | simp [PP.stF, PP.kd, PP.lst]
  rw [hbt] at hlen ⊢
  rw [PP.joins_append, PP.joins_append] at hlen ⊢
  have L3 := Lib.hid hlen
  have L2 := Lib.hid (len_in L3.out)
  have L1 := Lib.hid (len_in L2.out)
  have E0 := Lib.hid e0
  have E1 := Lib.hid e1
  obtain ⟨B0, hB0⟩ : ∃ U, (W.alloc (.cells #[.int .i64 8, .int .i64 0, .string TY.eps, (.slice (some ⟨b, off, none⟩) 2 c)] 33)) = U := ⟨_, rfl⟩
  rw [hB0] at S0
  obtain ⟨a0, a1, a2, a3⟩ := S0.out.cells
  obtain ⟨p00, p01, p02, p03⟩ := (G0.out.qt S0.out.all).cells
  obtain ⟨p10, p11, p12, p13⟩ := (G1.out.qt S0.out.all).cells
  clear hv hP hT hl hlen hbt e0 e1 hn0 g0 hn1 g1
  go_enter Tryz.func70, Tryz.ntmps70
  go_wp2_with fail
  refine (put_new [PS.wReply] 1 _ rfl (by omega) rfl S0.out.1 S0.out.low (by decide) L1.out).mono ?_
  rintro e w1 ⟨rfl, h1, h2⟩
  have S1 := Lib.hid (S0.out.step h1 h2)
  clear h1 h2 a0 a1 a2 a3 p00 p01 p02 p03 p10 p11 p12 p13
  obtain ⟨xb0, xb1, xb2, xb3⟩ := S1.out.cells
  obtain ⟨yb00, yb01, yb02, yb03⟩ := (G0.out.qt S1.out.all).cells
  obtain ⟨yb10, yb11, yb12, yb13⟩ := (G1.out.qt S1.out.all).cells
  go_wp2_with fail
  refine (list_nd (S1.out.nd HV.out) (fun t ht => by simp only [List.mem_cons, List.not_mem_nil, or_false] at ht; rcases ht with rfl | rfl; exact E0.out; exact E1.out) S1.out.1 S1.out.tb S1.out.low L2.out).mono ?_
  rintro e w2 ⟨rfl, h1, h2⟩
  have S2 := Lib.hid (S1.out.step h1 h2)
  clear h1 h2 xb0 xb1 xb2 xb3 yb00 yb01 yb02 yb03 yb10 yb11 yb12 yb13
  obtain ⟨xc0, xc1, xc2, xc3⟩ := S2.out.cells
  obtain ⟨yc00, yc01, yc02, yc03⟩ := (G0.out.qt S2.out.all).cells
  obtain ⟨yc10, yc11, yc12, yc13⟩ := (G1.out.qt S2.out.all).cells
  go_wp2_with fail
  refine (put_new [PS.ySemi] 1 _ rfl (by omega) rfl S2.out.1 S2.out.low (by decide) L3.out).mono ?_
  rintro e w3 ⟨rfl, h1, h2⟩
  have S3 := Lib.hid (S2.out.step h1 h2)
  clear h1 h2 xc0 xc1 xc2 xc3 yc00 yc01 yc02 yc03 yc10 yc11 yc12 yc13
  obtain ⟨xd0, xd1, xd2, xd3⟩ := S3.out.cells
  obtain ⟨yd00, yd01, yd02, yd03⟩ := (G0.out.qt S3.out.all).cells
  obtain ⟨yd10, yd11, yd12, yd13⟩ := (G1.out.qt S3.out.all).cells
  go_wp2_with fail
  go_end0
  exact ⟨rfl, S3.out.fin⟩
set_option maxRecDepth 100000 in
set_option maxHeartbeats 4000000 in
theorem st_fai (t0 : TY.Nd) (e0 : ExprC t0) : StC (.mk 9 0 TY.eps [t0]) := by
  intro lo g hi W x v hv hP hT hl hlen
  obtain ⟨b, off, c, rfl, hc, hcm, _⟩ := hv.kids (by simp)
  have hc : 1 ≤ c := hc
  obtain ⟨k0, n0, s0, A0, m0, c0, hn0, g0⟩ := hv.kid (i := 0) rfl
  rw [Nat.zero_mul, Nat.add_zero] at g0
  have G0 := Lib.hid g0
  have N0 := Lib.hid hn0
  have S0 := Lib.hid (Sgp.start hP hl hT (.int .i64 9) (.int .i64 0) (.string TY.eps) (.slice (some ⟨b, off, none⟩) 1 c))
  have HV := Lib.hid hv
  have hbt : PP.tS false (.mk 9 0 TY.eps [t0]) = [PS.wFail] ++ PP.lst false [t0] ++ [PS.ySemi] := by rw [PP.tS_eq]; first | rfl | simp [PP.stF, PP.kd, PP.lst]
  rw [hbt] at hlen ⊢
  rw [PP.joins_append, PP.joins_append] at hlen ⊢
  have L3 := Lib.hid hlen
  have L2 := Lib.hid (len_in L3.out)
  have L1 := Lib.hid (len_in L2.out)
  have E0 := Lib.hid e0
  obtain ⟨B0, hB0⟩ : ∃ U, (W.alloc (.cells #[.int .i64 9, .int .i64 0, .string TY.eps, (.slice (some ⟨b, off, none⟩) 1 c)] 33)) = U := ⟨_, rfl⟩
  rw [hB0] at S0
  obtain ⟨a0, a1, a2, a3⟩ := S0.out.cells
  obtain ⟨p00, p01, p02, p03⟩ := (G0.out.qt S0.out.all).cells
  clear hv hP hT hl hlen hbt e0 hn0 g0
  go_enter Tryz.func70, Tryz.ntmps70
  go_wp2_with fail
  refine (put_new [PS.wFail] 1 _ rfl (by omega) rfl S0.out.1 S0.out.low (by decide) L1.out).mono ?_
  rintro e w1 ⟨rfl, h1, h2⟩
  have S1 := Lib.hid (S0.out.step h1 h2)
  clear h1 h2 a0 a1 a2 a3 p00 p01 p02 p03
  obtain ⟨xb0, xb1, xb2, xb3⟩ := S1.out.cells
  obtain ⟨yb00, yb01, yb02, yb03⟩ := (G0.out.qt S1.out.all).cells
  go_wp2_with fail
  refine (list_nd (S1.out.nd HV.out) (fun t ht => by rw [List.mem_singleton.1 ht]; exact E0.out) S1.out.1 S1.out.tb S1.out.low L2.out).mono ?_
  rintro e w2 ⟨rfl, h1, h2⟩
  have S2 := Lib.hid (S1.out.step h1 h2)
  clear h1 h2 xb0 xb1 xb2 xb3 yb00 yb01 yb02 yb03
  obtain ⟨xc0, xc1, xc2, xc3⟩ := S2.out.cells
  obtain ⟨yc00, yc01, yc02, yc03⟩ := (G0.out.qt S2.out.all).cells
  go_wp2_with fail
  refine (put_new [PS.ySemi] 1 _ rfl (by omega) rfl S2.out.1 S2.out.low (by decide) L3.out).mono ?_
  rintro e w3 ⟨rfl, h1, h2⟩
  have S3 := Lib.hid (S2.out.step h1 h2)
  clear h1 h2 xc0 xc1 xc2 xc3 yc00 yc01 yc02 yc03
  obtain ⟨xd0, xd1, xd2, xd3⟩ := S3.out.cells
  obtain ⟨yd00, yd01, yd02, yd03⟩ := (G0.out.qt S3.out.all).cells
  go_wp2_with fail
  go_end0
  exact ⟨rfl, S3.out.fin⟩
set_option maxRecDepth 100000 in
set_option maxHeartbeats 4000000 in
theorem st_snd (n : Int) (t0 t1 t2 : TY.Nd) (h0 : 0 ≤ n) (h1 : n ≤ 2147483647) (e0 : ExprC t0) (e1 : ExprC t1) (e2 : ExprC t2) : StC (.mk 4 n TY.eps [t0, t1, t2]) := by
  intro lo g hi W x v hv hP hT hl hlen
  obtain ⟨b, off, c, rfl, hc, hcm, _⟩ := hv.kids (by simp)
  have hc : 3 ≤ c := hc
  obtain ⟨k0, n0, s0, A0, m0, c0, hn0, g0⟩ := hv.kid (i := 0) rfl
  rw [Nat.zero_mul, Nat.add_zero] at g0
  have G0 := Lib.hid g0
  have N0 := Lib.hid hn0
  obtain ⟨k1, n1, s1, A1, m1, c1, hn1, g1⟩ := hv.kid (i := 1) rfl
  rw [Nat.one_mul] at g1
  have G1 := Lib.hid g1
  have N1 := Lib.hid hn1
  obtain ⟨k2, n2, s2, A2, m2, c2, hn2, g2⟩ := hv.kid (i := 2) rfl
  rw [show 2 * 4 = 8 from rfl] at g2
  have G2 := Lib.hid g2
  have N2 := Lib.hid hn2
  have S0 := Lib.hid (Sgp.start hP hl hT (.int .i64 4) (.int .i64 n) (.string TY.eps) (.slice (some ⟨b, off, none⟩) 3 c))
  have HV := Lib.hid hv
  have hbt : PP.tS false (.mk 4 n TY.eps [t0, t1, t2]) = [PS.wSend] ++ PP.lst false [t0] ++ [PS.yComma, PP.dec n, PS.yComma] ++ PP.lst false [t1, t2] ++ [PS.ySemi] := by rw [PP.tS_eq]; first | rfl | simp [PP.stF, PP.kd, PP.lst]
  rw [hbt] at hlen ⊢
  rw [PP.joins_append, PP.joins_append, PP.joins_append, PP.joins_append] at hlen ⊢
  have L5 := Lib.hid hlen
  have L4 := Lib.hid (len_in L5.out)
  have L3 := Lib.hid (len_in L4.out)
  have L2 := Lib.hid (len_in L3.out)
  have L1 := Lib.hid (len_in L2.out)
  have H0 := Lib.hid h0
  have H1 := Lib.hid h1
  have E0 := Lib.hid e0
  have E1 := Lib.hid e1
  have E2 := Lib.hid e2
  obtain ⟨B0, hB0⟩ : ∃ U, (W.alloc (.cells #[.int .i64 4, .int .i64 n, .string TY.eps, (.slice (some ⟨b, off, none⟩) 3 c)] 33)) = U := ⟨_, rfl⟩
  rw [hB0] at S0
  obtain ⟨a0, a1, a2, a3⟩ := S0.out.cells
  obtain ⟨p00, p01, p02, p03⟩ := (G0.out.qt S0.out.all).cells
  obtain ⟨p10, p11, p12, p13⟩ := (G1.out.qt S0.out.all).cells
  obtain ⟨p20, p21, p22, p23⟩ := (G2.out.qt S0.out.all).cells
  clear hv hP hT hl hlen hbt h0 h1 e0 e1 e2 hn0 g0 hn1 g1 hn2 g2
  go_enter Tryz.func70, Tryz.ntmps70
  go_wp2_with fail
  refine (put_new [PS.wSend] 1 _ rfl (by omega) rfl S0.out.1 S0.out.low (by decide) L1.out).mono ?_
  rintro e w1 ⟨rfl, h1, h2⟩
  have S1 := Lib.hid (S0.out.step h1 h2)
  clear h1 h2 a0 a1 a2 a3 p00 p01 p02 p03 p10 p11 p12 p13 p20 p21 p22 p23
  obtain ⟨xb0, xb1, xb2, xb3⟩ := S1.out.cells
  obtain ⟨yb00, yb01, yb02, yb03⟩ := (G0.out.qt S1.out.all).cells
  obtain ⟨yb10, yb11, yb12, yb13⟩ := (G1.out.qt S1.out.all).cells
  obtain ⟨yb20, yb21, yb22, yb23⟩ := (G2.out.qt S1.out.all).cells
  go_wp2_with fail
  refine (list_one (S1.out.nd N0.out) E0.out S1.out.1 S1.out.tb S1.out.low L2.out).mono ?_
  rintro e w2 ⟨rfl, h1, h2⟩
  have S2 := Lib.hid (S1.out.step h1 h2)
  clear h1 h2 xb0 xb1 xb2 xb3 yb00 yb01 yb02 yb03 yb10 yb11 yb12 yb13 yb20 yb21 yb22 yb23
  obtain ⟨xc0, xc1, xc2, xc3⟩ := S2.out.cells
  obtain ⟨yc00, yc01, yc02, yc03⟩ := (G0.out.qt S2.out.all).cells
  obtain ⟨yc10, yc11, yc12, yc13⟩ := (G1.out.qt S2.out.all).cells
  obtain ⟨yc20, yc21, yc22, yc23⟩ := (G2.out.qt S2.out.all).cells
  go_wp2_with fail
  refine (itoa_any n H0.out H1.out _ S2.out.tb).mono ?_
  rintro e w3 ⟨rfl, h2⟩
  have S3 := Lib.hid (S2.out.below h2)
  clear h2 xc0 xc1 xc2 xc3 yc00 yc01 yc02 yc03 yc10 yc11 yc12 yc13 yc20 yc21 yc22 yc23
  obtain ⟨xd0, xd1, xd2, xd3⟩ := S3.out.cells
  obtain ⟨yd00, yd01, yd02, yd03⟩ := (G0.out.qt S3.out.all).cells
  obtain ⟨yd10, yd11, yd12, yd13⟩ := (G1.out.qt S3.out.all).cells
  obtain ⟨yd20, yd21, yd22, yd23⟩ := (G2.out.qt S3.out.all).cells
  go_wp2_with fail
  refine (put_new [PS.yComma, PP.dec n, PS.yComma] 3 _ rfl (by omega) rfl S3.out.1 S3.out.low (put_ne3 H0.out H1.out) L3.out).mono ?_
  rintro e w4 ⟨rfl, h1, h2⟩
  have S4 := Lib.hid (S3.out.step h1 h2)
  clear h1 h2 xd0 xd1 xd2 xd3 yd00 yd01 yd02 yd03 yd10 yd11 yd12 yd13 yd20 yd21 yd22 yd23
  obtain ⟨xe0, xe1, xe2, xe3⟩ := S4.out.cells
  obtain ⟨ye00, ye01, ye02, ye03⟩ := (G0.out.qt S4.out.all).cells
  obtain ⟨ye10, ye11, ye12, ye13⟩ := (G1.out.qt S4.out.all).cells
  obtain ⟨ye20, ye21, ye22, ye23⟩ := (G2.out.qt S4.out.all).cells
  go_wp2_with fail
  have hcn : ¬ c = 1 := by omega
  have hr := (S4.out.nd HV.out).tail
  rw [if_neg hcn] at hr
  refine (list_nd hr (fun t ht => by simp only [List.mem_cons, List.not_mem_nil, or_false] at ht; rcases ht with rfl | rfl; exact E1.out; exact E2.out) S4.out.1 S4.out.tb S4.out.low L4.out).mono ?_
  clear hr hcn
  rintro e w5 ⟨rfl, h1, h2⟩
  have S5 := Lib.hid (S4.out.step h1 h2)
  clear h1 h2 xe0 xe1 xe2 xe3 ye00 ye01 ye02 ye03 ye10 ye11 ye12 ye13 ye20 ye21 ye22 ye23
  obtain ⟨xf0, xf1, xf2, xf3⟩ := S5.out.cells
  obtain ⟨yf00, yf01, yf02, yf03⟩ := (G0.out.qt S5.out.all).cells
  obtain ⟨yf10, yf11, yf12, yf13⟩ := (G1.out.qt S5.out.all).cells
  obtain ⟨yf20, yf21, yf22, yf23⟩ := (G2.out.qt S5.out.all).cells
  go_wp2_with fail
  refine (put_new [PS.ySemi] 1 _ rfl (by omega) rfl S5.out.1 S5.out.low (by decide) L5.out).mono ?_
  rintro e w6 ⟨rfl, h1, h2⟩
  have S6 := Lib.hid (S5.out.step h1 h2)
  clear h1 h2 xf0 xf1 xf2 xf3 yf00 yf01 yf02 yf03 yf10 yf11 yf12 yf13 yf20 yf21 yf22 yf23
  obtain ⟨xg0, xg1, xg2, xg3⟩ := S6.out.cells
  obtain ⟨yg00, yg01, yg02, yg03⟩ := (G0.out.qt S6.out.all).cells
  obtain ⟨yg10, yg11, yg12, yg13⟩ := (G1.out.qt S6.out.all).cells
  obtain ⟨yg20, yg21, yg22, yg23⟩ := (G2.out.qt S6.out.all).cells
  go_wp2_with fail
  go_end0
  exact ⟨rfl, S6.out.fin⟩
set_option maxRecDepth 100000 in
set_option maxHeartbeats 4000000 in
theorem st_whl (t0 t1 : TY.Nd) (e0 : ExprC t0) (e1 : BlC t1) : StC (.mk 3 0 TY.eps [t0, t1]) := by
  intro lo g hi W x v hv hP hT hl hlen
  obtain ⟨b, off, c, rfl, hc, hcm, _⟩ := hv.kids (by simp)
  have hc : 2 ≤ c := hc
  obtain ⟨k0, n0, s0, A0, m0, c0, hn0, g0⟩ := hv.kid (i := 0) rfl
  rw [Nat.zero_mul, Nat.add_zero] at g0
  have G0 := Lib.hid g0
  have N0 := Lib.hid hn0
  obtain ⟨k1, n1, s1, A1, m1, c1, hn1, g1⟩ := hv.kid (i := 1) rfl
  rw [Nat.one_mul] at g1
  have G1 := Lib.hid g1
  have N1 := Lib.hid hn1
  have S0 := Lib.hid (Sgp.start hP hl hT (.int .i64 3) (.int .i64 0) (.string TY.eps) (.slice (some ⟨b, off, none⟩) 2 c))
  have HV := Lib.hid hv
  have hbt : PP.tS false (.mk 3 0 TY.eps [t0, t1]) = [PS.wWhile] ++ PP.tE false t0 1 ++ PP.tS false t1 := by rw [PP.tS_eq]; first | rfl | simp [PP.stF, PP.kd, PP.lst]
  rw [hbt] at hlen ⊢
  rw [PP.joins_append, PP.joins_append] at hlen ⊢
  have L3 := Lib.hid hlen
  have L2 := Lib.hid (len_in L3.out)
  have L1 := Lib.hid (len_in L2.out)
  have E0 := Lib.hid e0
  have E1 := Lib.hid e1
  obtain ⟨B0, hB0⟩ : ∃ U, (W.alloc (.cells #[.int .i64 3, .int .i64 0, .string TY.eps, (.slice (some ⟨b, off, none⟩) 2 c)] 33)) = U := ⟨_, rfl⟩
  rw [hB0] at S0
  obtain ⟨a0, a1, a2, a3⟩ := S0.out.cells
  obtain ⟨p00, p01, p02, p03⟩ := (G0.out.qt S0.out.all).cells
  obtain ⟨p10, p11, p12, p13⟩ := (G1.out.qt S0.out.all).cells
  clear hv hP hT hl hlen hbt e0 e1 hn0 g0 hn1 g1
  go_enter Tryz.func70, Tryz.ntmps70
  go_wp2_with fail
  refine (put_new [PS.wWhile] 1 _ rfl (by omega) rfl S0.out.1 S0.out.low (by decide) L1.out).mono ?_
  rintro e w1 ⟨rfl, h1, h2⟩
  have S1 := Lib.hid (S0.out.step h1 h2)
  clear h1 h2 a0 a1 a2 a3 p00 p01 p02 p03 p10 p11 p12 p13
  obtain ⟨xb0, xb1, xb2, xb3⟩ := S1.out.cells
  obtain ⟨yb00, yb01, yb02, yb03⟩ := (G0.out.qt S1.out.all).cells
  obtain ⟨yb10, yb11, yb12, yb13⟩ := (G1.out.qt S1.out.all).cells
  go_wp2_with fail
  refine (E0.out lo g hi 0 _ _ _ (by omega) (S1.out.nd N0.out) S1.out.1 S1.out.tb S1.out.low L2.out).mono ?_
  rintro e w2 ⟨rfl, h1, h2⟩
  have S2 := Lib.hid (S1.out.step h1 h2)
  clear h1 h2 xb0 xb1 xb2 xb3 yb00 yb01 yb02 yb03 yb10 yb11 yb12 yb13
  obtain ⟨xc0, xc1, xc2, xc3⟩ := S2.out.cells
  obtain ⟨yc00, yc01, yc02, yc03⟩ := (G0.out.qt S2.out.all).cells
  obtain ⟨yc10, yc11, yc12, yc13⟩ := (G1.out.qt S2.out.all).cells
  go_wp2_with fail
  refine (E1.out lo g hi _ _ _ (S2.out.nd N1.out) S2.out.1 S2.out.tb S2.out.low L3.out).mono ?_
  rintro e w3 ⟨rfl, h1, h2⟩
  have S3 := Lib.hid (S2.out.step h1 h2)
  clear h1 h2 xc0 xc1 xc2 xc3 yc00 yc01 yc02 yc03 yc10 yc11 yc12 yc13
  obtain ⟨xd0, xd1, xd2, xd3⟩ := S3.out.cells
  obtain ⟨yd00, yd01, yd02, yd03⟩ := (G0.out.qt S3.out.all).cells
  obtain ⟨yd10, yd11, yd12, yd13⟩ := (G1.out.qt S3.out.all).cells
  go_wp2_with fail
  refine bodyPost_ret (results_none rfl _ _ _) rfl ?_
  exact ⟨rfl, S3.out.fin⟩
set_option maxRecDepth 100000 in
set_option maxHeartbeats 4000000 in
theorem st_ite (t0 t1 t2 : TY.Nd) (e0 : IfC (.mk 2 0 TY.eps [t0, t1, t2])) : StC (.mk 2 0 TY.eps [t0, t1, t2]) := by
  intro lo g hi W x v hv hP hT hl hlen
  obtain ⟨b, off, c, rfl, hc, hcm, _⟩ := hv.kids (by simp)
  have hc : 3 ≤ c := hc
  obtain ⟨k0, n0, s0, A0, m0, c0, hn0, g0⟩ := hv.kid (i := 0) rfl
  rw [Nat.zero_mul, Nat.add_zero] at g0
  have G0 := Lib.hid g0
  have N0 := Lib.hid hn0
  obtain ⟨k1, n1, s1, A1, m1, c1, hn1, g1⟩ := hv.kid (i := 1) rfl
  rw [Nat.one_mul] at g1
  have G1 := Lib.hid g1
  have N1 := Lib.hid hn1
  obtain ⟨k2, n2, s2, A2, m2, c2, hn2, g2⟩ := hv.kid (i := 2) rfl
  rw [show 2 * 4 = 8 from rfl] at g2
  have G2 := Lib.hid g2
  have N2 := Lib.hid hn2
  have S0 := Lib.hid (Sgp.start hP hl hT (.int .i64 2) (.int .i64 0) (.string TY.eps) (.slice (some ⟨b, off, none⟩) 3 c))
  have HV := Lib.hid hv
  have L1 := Lib.hid hlen
  have E0 := Lib.hid e0
  obtain ⟨B0, hB0⟩ : ∃ U, (W.alloc (.cells #[.int .i64 2, .int .i64 0, .string TY.eps, (.slice (some ⟨b, off, none⟩) 3 c)] 33)) = U := ⟨_, rfl⟩
  rw [hB0] at S0
  obtain ⟨a0, a1, a2, a3⟩ := S0.out.cells
  obtain ⟨p00, p01, p02, p03⟩ := (G0.out.qt S0.out.all).cells
  obtain ⟨p10, p11, p12, p13⟩ := (G1.out.qt S0.out.all).cells
  obtain ⟨p20, p21, p22, p23⟩ := (G2.out.qt S0.out.all).cells
  clear hv hP hT hl hlen  e0 hn0 g0 hn1 g1 hn2 g2
  go_enter Tryz.func70, Tryz.ntmps70
  go_wp2_with fail
  refine (E0.out lo g hi _ _ _ (S0.out.nd HV.out) S0.out.1 S0.out.tb S0.out.low L1.out).mono ?_
  rintro e w1 ⟨rfl, h1, h2⟩
  have S1 := Lib.hid (S0.out.step h1 h2)
  clear h1 h2 a0 a1 a2 a3 p00 p01 p02 p03 p10 p11 p12 p13 p20 p21 p22 p23
  obtain ⟨xb0, xb1, xb2, xb3⟩ := S1.out.cells
  obtain ⟨yb00, yb01, yb02, yb03⟩ := (G0.out.qt S1.out.all).cells
  obtain ⟨yb10, yb11, yb12, yb13⟩ := (G1.out.qt S1.out.all).cells
  obtain ⟨yb20, yb21, yb22, yb23⟩ := (G2.out.qt S1.out.all).cells
  go_wp2_with fail
  refine bodyPost_ret (results_none rfl _ _ _) rfl ?_
  exact ⟨rfl, S1.out.fin⟩
set_option maxRecDepth 100000 in
set_option maxHeartbeats 4000000 in
theorem st_if0 (t0 t1 t2 : TY.Nd) (e0 : ExprC t0) (e1 : BlC t1) (h2 : PP.tS false t2 = [PS.yLB, PS.yRB]) (hm : ∀ (W : World) (hi : Nat) (k n : Int) (s : ByteArray) (A : Option Addr) (m c : Nat), NdV W hi t2 (ndv k n s (.slice A m c)) → m = 0) : IfC (.mk 2 0 TY.eps [t0, t1, t2]) := by
  intro lo g hi W x v hv hP hT hl hlen
  obtain ⟨b, off, c, rfl, hc, hcm, _⟩ := hv.kids (by simp)
  have hc : 3 ≤ c := hc
  obtain ⟨k0, n0, s0, A0, m0, c0, hn0, g0⟩ := hv.kid (i := 0) rfl
  rw [Nat.zero_mul, Nat.add_zero] at g0
  have G0 := Lib.hid g0
  have N0 := Lib.hid hn0
  obtain ⟨k1, n1, s1, A1, m1, c1, hn1, g1⟩ := hv.kid (i := 1) rfl
  rw [Nat.one_mul] at g1
  have G1 := Lib.hid g1
  have N1 := Lib.hid hn1
  obtain ⟨k2, n2, s2, A2, m2, c2, hn2, g2⟩ := hv.kid (i := 2) rfl
  rw [show 2 * 4 = 8 from rfl] at g2
  have G2 := Lib.hid g2
  have N2 := Lib.hid hn2
  have S0 := Lib.hid (Sgp.start hP hl hT (.int .i64 2) (.int .i64 0) (.string TY.eps) (.slice (some ⟨b, off, none⟩) 3 c))
  have HV := Lib.hid hv
  have hbt : PP.tS false (.mk 2 0 TY.eps [t0, t1, t2]) = [PS.wIf] ++ PP.tE false t0 1 ++ PP.tS false t1 := by rw [PP.tS_eq]; simp [PP.stF, PP.kd, PP.kdS, h2]
  rw [hbt] at hlen ⊢
  rw [PP.joins_append, PP.joins_append] at hlen ⊢
  have L3 := Lib.hid hlen
  have L2 := Lib.hid (len_in L3.out)
  have L1 := Lib.hid (len_in L2.out)
  obtain rfl : m2 = 0 := hm _ _ _ _ _ _ _ _ hn2
  clear hm h2
  have E0 := Lib.hid e0
  have E1 := Lib.hid e1
  obtain ⟨B0, hB0⟩ : ∃ U, (W.alloc (.cells #[.int .i64 2, .int .i64 0, .string TY.eps, (.slice (some ⟨b, off, none⟩) 3 c)] 33)) = U := ⟨_, rfl⟩
  rw [hB0] at S0
  obtain ⟨a0, a1, a2, a3⟩ := S0.out.cells
  obtain ⟨p00, p01, p02, p03⟩ := (G0.out.qt S0.out.all).cells
  obtain ⟨p10, p11, p12, p13⟩ := (G1.out.qt S0.out.all).cells
  obtain ⟨p20, p21, p22, p23⟩ := (G2.out.qt S0.out.all).cells
  clear hv hP hT hl hlen hbt e0 e1 hn0 g0 hn1 g1 hn2 g2
  go_enter Tryz.func90, Tryz.ntmps90
  go_wp2_with fail
  refine (put_new [PS.wIf] 1 _ rfl (by omega) rfl S0.out.1 S0.out.low (by decide) L1.out).mono ?_
  rintro e w1 ⟨rfl, h1, h2⟩
  have S1 := Lib.hid (S0.out.step h1 h2)
  clear h1 h2 a0 a1 a2 a3 p00 p01 p02 p03 p10 p11 p12 p13 p20 p21 p22 p23
  obtain ⟨xb0, xb1, xb2, xb3⟩ := S1.out.cells
  obtain ⟨yb00, yb01, yb02, yb03⟩ := (G0.out.qt S1.out.all).cells
  obtain ⟨yb10, yb11, yb12, yb13⟩ := (G1.out.qt S1.out.all).cells
  obtain ⟨yb20, yb21, yb22, yb23⟩ := (G2.out.qt S1.out.all).cells
  go_wp2_with fail
  refine (E0.out lo g hi 0 _ _ _ (by omega) (S1.out.nd N0.out) S1.out.1 S1.out.tb S1.out.low L2.out).mono ?_
  rintro e w2 ⟨rfl, h1, h2⟩
  have S2 := Lib.hid (S1.out.step h1 h2)
  clear h1 h2 xb0 xb1 xb2 xb3 yb00 yb01 yb02 yb03 yb10 yb11 yb12 yb13 yb20 yb21 yb22 yb23
  obtain ⟨xc0, xc1, xc2, xc3⟩ := S2.out.cells
  obtain ⟨yc00, yc01, yc02, yc03⟩ := (G0.out.qt S2.out.all).cells
  obtain ⟨yc10, yc11, yc12, yc13⟩ := (G1.out.qt S2.out.all).cells
  obtain ⟨yc20, yc21, yc22, yc23⟩ := (G2.out.qt S2.out.all).cells
  go_wp2_with fail
  refine (E1.out lo g hi _ _ _ (S2.out.nd N1.out) S2.out.1 S2.out.tb S2.out.low L3.out).mono ?_
  rintro e w3 ⟨rfl, h1, h2⟩
  have S3 := Lib.hid (S2.out.step h1 h2)
  clear h1 h2 xc0 xc1 xc2 xc3 yc00 yc01 yc02 yc03 yc10 yc11 yc12 yc13 yc20 yc21 yc22 yc23
  obtain ⟨xd0, xd1, xd2, xd3⟩ := S3.out.cells
  obtain ⟨yd00, yd01, yd02, yd03⟩ := (G0.out.qt S3.out.all).cells
  obtain ⟨yd10, yd11, yd12, yd13⟩ := (G1.out.qt S3.out.all).cells
  obtain ⟨yd20, yd21, yd22, yd23⟩ := (G2.out.qt S3.out.all).cells
  go_wp2_with fail
  go_end0
  exact ⟨rfl, S3.out.fin⟩
set_option maxRecDepth 100000 in
set_option maxHeartbeats 4000000 in
theorem st_if1 (t0 t1 t2 : TY.Nd) (e0 : ExprC t0) (e1 : BlC t1) (e2 : BlC t2) (h2 : PP.tS false t2 ≠ [PS.yLB, PS.yRB]) (hm : ∀ (W : World) (hi : Nat) (k n : Int) (s : ByteArray) (A : Option Addr) (m c : Nat), NdV W hi t2 (ndv k n s (.slice A m c)) → 0 < m) : IfC (.mk 2 0 TY.eps [t0, t1, t2]) := by
  intro lo g hi W x v hv hP hT hl hlen
  obtain ⟨b, off, c, rfl, hc, hcm, _⟩ := hv.kids (by simp)
  have hc : 3 ≤ c := hc
  obtain ⟨k0, n0, s0, A0, m0, c0, hn0, g0⟩ := hv.kid (i := 0) rfl
  rw [Nat.zero_mul, Nat.add_zero] at g0
  have G0 := Lib.hid g0
  have N0 := Lib.hid hn0
  obtain ⟨k1, n1, s1, A1, m1, c1, hn1, g1⟩ := hv.kid (i := 1) rfl
  rw [Nat.one_mul] at g1
  have G1 := Lib.hid g1
  have N1 := Lib.hid hn1
  obtain ⟨k2, n2, s2, A2, m2, c2, hn2, g2⟩ := hv.kid (i := 2) rfl
  rw [show 2 * 4 = 8 from rfl] at g2
  have G2 := Lib.hid g2
  have N2 := Lib.hid hn2
  have S0 := Lib.hid (Sgp.start hP hl hT (.int .i64 2) (.int .i64 0) (.string TY.eps) (.slice (some ⟨b, off, none⟩) 3 c))
  have HV := Lib.hid hv
  have hbt : PP.tS false (.mk 2 0 TY.eps [t0, t1, t2]) = [PS.wIf] ++ PP.tE false t0 1 ++ PP.tS false t1 ++ [PS.wElse] ++ PP.tS false t2 := by rw [PP.tS_eq]; simp [PP.stF, PP.kd, PP.kdS, h2]
  rw [hbt] at hlen ⊢
  rw [PP.joins_append, PP.joins_append, PP.joins_append, PP.joins_append] at hlen ⊢
  have L5 := Lib.hid hlen
  have L4 := Lib.hid (len_in L5.out)
  have L3 := Lib.hid (len_in L4.out)
  have L2 := Lib.hid (len_in L3.out)
  have L1 := Lib.hid (len_in L2.out)
  have hd : decide (0 < m2) = true := decide_eq_true (hm _ _ _ _ _ _ _ _ hn2)
  clear hm h2
  have E0 := Lib.hid e0
  have E1 := Lib.hid e1
  have E2 := Lib.hid e2
  obtain ⟨B0, hB0⟩ : ∃ U, (W.alloc (.cells #[.int .i64 2, .int .i64 0, .string TY.eps, (.slice (some ⟨b, off, none⟩) 3 c)] 33)) = U := ⟨_, rfl⟩
  rw [hB0] at S0
  obtain ⟨a0, a1, a2, a3⟩ := S0.out.cells
  obtain ⟨p00, p01, p02, p03⟩ := (G0.out.qt S0.out.all).cells
  obtain ⟨p10, p11, p12, p13⟩ := (G1.out.qt S0.out.all).cells
  obtain ⟨p20, p21, p22, p23⟩ := (G2.out.qt S0.out.all).cells
  clear hv hP hT hl hlen hbt e0 e1 e2 hn0 g0 hn1 g1 hn2 g2
  go_enter Tryz.func90, Tryz.ntmps90
  go_wp2_with fail
  refine (put_new [PS.wIf] 1 _ rfl (by omega) rfl S0.out.1 S0.out.low (by decide) L1.out).mono ?_
  rintro e w1 ⟨rfl, h1, h2⟩
  have S1 := Lib.hid (S0.out.step h1 h2)
  clear h1 h2 a0 a1 a2 a3 p00 p01 p02 p03 p10 p11 p12 p13 p20 p21 p22 p23
  obtain ⟨xb0, xb1, xb2, xb3⟩ := S1.out.cells
  obtain ⟨yb00, yb01, yb02, yb03⟩ := (G0.out.qt S1.out.all).cells
  obtain ⟨yb10, yb11, yb12, yb13⟩ := (G1.out.qt S1.out.all).cells
  obtain ⟨yb20, yb21, yb22, yb23⟩ := (G2.out.qt S1.out.all).cells
  go_wp2_with fail
  refine (E0.out lo g hi 0 _ _ _ (by omega) (S1.out.nd N0.out) S1.out.1 S1.out.tb S1.out.low L2.out).mono ?_
  rintro e w2 ⟨rfl, h1, h2⟩
  have S2 := Lib.hid (S1.out.step h1 h2)
  clear h1 h2 xb0 xb1 xb2 xb3 yb00 yb01 yb02 yb03 yb10 yb11 yb12 yb13 yb20 yb21 yb22 yb23
  obtain ⟨xc0, xc1, xc2, xc3⟩ := S2.out.cells
  obtain ⟨yc00, yc01, yc02, yc03⟩ := (G0.out.qt S2.out.all).cells
  obtain ⟨yc10, yc11, yc12, yc13⟩ := (G1.out.qt S2.out.all).cells
  obtain ⟨yc20, yc21, yc22, yc23⟩ := (G2.out.qt S2.out.all).cells
  go_wp2_with fail
  refine (E1.out lo g hi _ _ _ (S2.out.nd N1.out) S2.out.1 S2.out.tb S2.out.low L3.out).mono ?_
  rintro e w3 ⟨rfl, h1, h2⟩
  have S3 := Lib.hid (S2.out.step h1 h2)
  clear h1 h2 xc0 xc1 xc2 xc3 yc00 yc01 yc02 yc03 yc10 yc11 yc12 yc13 yc20 yc21 yc22 yc23
  obtain ⟨xd0, xd1, xd2, xd3⟩ := S3.out.cells
  obtain ⟨yd00, yd01, yd02, yd03⟩ := (G0.out.qt S3.out.all).cells
  obtain ⟨yd10, yd11, yd12, yd13⟩ := (G1.out.qt S3.out.all).cells
  obtain ⟨yd20, yd21, yd22, yd23⟩ := (G2.out.qt S3.out.all).cells
  go_wp2_with fail
  refine (put_new [PS.wElse] 1 _ rfl (by omega) rfl S3.out.1 S3.out.low (by decide) L4.out).mono ?_
  rintro e w4 ⟨rfl, h1, h2⟩
  have S4 := Lib.hid (S3.out.step h1 h2)
  clear h1 h2 xd0 xd1 xd2 xd3 yd00 yd01 yd02 yd03 yd10 yd11 yd12 yd13 yd20 yd21 yd22 yd23
  obtain ⟨xe0, xe1, xe2, xe3⟩ := S4.out.cells
  obtain ⟨ye00, ye01, ye02, ye03⟩ := (G0.out.qt S4.out.all).cells
  obtain ⟨ye10, ye11, ye12, ye13⟩ := (G1.out.qt S4.out.all).cells
  obtain ⟨ye20, ye21, ye22, ye23⟩ := (G2.out.qt S4.out.all).cells
  go_wp2_with fail
  refine (E2.out lo g hi _ _ _ (S4.out.nd N2.out) S4.out.1 S4.out.tb S4.out.low L5.out).mono ?_
  rintro e w5 ⟨rfl, h1, h2⟩
  have S5 := Lib.hid (S4.out.step h1 h2)
  clear h1 h2 xe0 xe1 xe2 xe3 ye00 ye01 ye02 ye03 ye10 ye11 ye12 ye13 ye20 ye21 ye22 ye23
  obtain ⟨xf0, xf1, xf2, xf3⟩ := S5.out.cells
  obtain ⟨yf00, yf01, yf02, yf03⟩ := (G0.out.qt S5.out.all).cells
  obtain ⟨yf10, yf11, yf12, yf13⟩ := (G1.out.qt S5.out.all).cells
  obtain ⟨yf20, yf21, yf22, yf23⟩ := (G2.out.qt S5.out.all).cells
  go_wp2_with fail
  go_end0
  exact ⟨rfl, S5.out.fin⟩
end Go.Proofs.YtlfpaemfhanpiaaGreatDoor

namespace Go.Proofs.YtlfpaemfhanpiaaGreatDoor
open Go Go.RowKit Go.Proofs
attribute [local go_sem] Oper.semAt_some

theorem flat_pre (l : List TY.Nd) (j : Nat) : ∃ ys, (l.map (PP.tS false)).flatten = ((l.take j).map (PP.tS false)).flatten ++ ys :=
  ⟨((l.drop j).map (PP.tS false)).flatten, by rw [← List.flatten_append, ← List.map_append, List.take_append_drop]⟩
set_option maxRecDepth 100000 in
set_option maxHeartbeats 4000000 in
theorem block_pr (l : List TY.Nd) (hS : ∀ t ∈ l, StC t) : BlC (.mk 11 0 TY.eps l) := by
  intro lo g hi W x v hv hP hT hl hlen
  obtain ⟨A, c, vs, rfl, hvl, hc, hcm, hm, _, hk, ht⟩ := hv.open_
  have S0 := Lib.hid (Sgp.start hP hl hT (.int .i64 11) (.int .i64 0) (.string TY.eps) (.slice A l.length c))
  have hbt : PP.tS false (.mk 11 0 TY.eps l) = [PS.yLB] ++ (l.map (PP.tS false)).flatten ++ [PS.yRB] := by rw [PP.tS_eq]; rfl
  rw [hbt] at hlen ⊢
  rw [PP.joins_append, PP.joins_append] at hlen ⊢
  have L3 := Lib.hid hlen
  have L2 := Lib.hid (len_in L3.out)
  have L1 := Lib.hid (len_in L2.out)
  obtain ⟨x1, hx1⟩ : ∃ y, PP.joins x [PS.yLB] = y := ⟨_, rfl⟩
  obtain ⟨m, hm0⟩ : ∃ m, l.length = m := ⟨_, rfl⟩
  rw [hm0] at hc hm S0 ⊢
  have HM := Lib.hid hm0
  have HVL := Lib.hid hvl
  have HE := Lib.hid hS
  have HK := Lib.hid hk
  have HT := Lib.hid ht
  have HX := Lib.hid hx1
  obtain ⟨B0, hB0⟩ : ∃ U, (W.alloc (.cells #[.int .i64 11, .int .i64 0, .string TY.eps, .slice A m c] 33)) = U := ⟨_, rfl⟩
  rw [hB0] at S0
  obtain ⟨a0, a1, a2, a3⟩ := S0.out.cells
  clear hm0 hvl hS hk ht hT hP hlen hv hbt hl hx1
  go_enter Tryz.func39, Tryz.ntmps39
  go_wp2_with fail
  refine (put_new [PS.yLB] 1 _ rfl (by omega) rfl S0.out.1 S0.out.low (by decide) L1.out).mono ?_
  rw [HX.out] at L2 L3 ⊢
  rintro e w1 ⟨rfl, h1, h2⟩
  have S1 := Lib.hid (S0.out.step h1 h2)
  obtain ⟨b0, b1, b2, b3⟩ := S1.out.cells
  clear h1 h2 a0 a1 a2 a3 hB0
  go_wp2_with fail
  go_loopw [12] (fun i V => ∃ j : Nat, j ≤ m ∧ i = .int .i64 (j : Int) ∧ Hid (Sgp lo g W (.int .i64 11) (.int .i64 0) (.string TY.eps) (.slice A m c) (PP.joins x1 ((l.take j).map (PP.tS false)).flatten) V)) (fun i _ => m - (intOf i).toNat)
  case atStart => exact ⟨0, by omega, rfl, S1.out⟩
  case round =>
    obtain ⟨j, hj, rfl, hQ⟩ := hrel
    clear S1 b0 b1 b2 b3
    by_cases hjm : j < m
    · obtain ⟨t, htj⟩ : ∃ t, l[j]? = some t := ⟨l[j]'(by rw [HM.out]; exact hjm), List.getElem?_eq_getElem (by rw [HM.out]; exact hjm)⟩
      obtain ⟨vj, hvj⟩ : ∃ x, vs[j]? = some x := ⟨vs[j]'(by rw [HVL.out, HM.out]; exact hjm), List.getElem?_eq_getElem (by rw [HVL.out, HM.out]; exact hjm)⟩
      have hnv := hQ.out.nd (HT.out j t vj htj hvj)
      obtain ⟨b, off, kj, nj, sj, Aj, lj, cj, rfl, hbh, rfl, c0, c1, c2, c3⟩ := Kd.treeE (hQ.out.all.kd HK.out) hvj hnv
      have R0 := Lib.hid (Sgp.start hQ.out.1 hQ.out.low hQ.out.tb (.int .i64 kj) (.int .i64 nj) (.string sj) (.slice Aj lj cj))
      have HNV := Lib.hid hnv
      have HEJ := Lib.hid (HE.out t (List.mem_of_getElem? htj))
      have HS := Lib.hid (show PP.joins x1 ((l.take (j + 1)).map (PP.tS false)).flatten = PP.joins (PP.joins x1 ((l.take j).map (PP.tS false)).flatten) (PP.tS false t) from by
        rw [← PP.joins_append, List.take_add_one, htj, List.map_append, List.flatten_append]
        simp)
      have HLJ := Lib.hid (show (PP.joins (PP.joins x1 ((l.take j).map (PP.tS false)).flatten) (PP.tS false t)).length ≤ 100000 from by
        rw [← HS.out]
        obtain ⟨ys, hys⟩ := flat_pre l (j + 1)
        have := L2.out
        rw [hys] at this
        exact len_pre this)
      obtain ⟨y, hy⟩ : ∃ y, PP.joins x1 ((l.take j).map (PP.tS false)).flatten = y := ⟨_, rfl⟩
      rw [hy] at HS HLJ R0 hQ
      clear hnv htj hvj hy
      go_wp2_with fail
      refine (HEJ.out lo g hi _ y _ (R0.out.nd HNV.out) R0.out.1 R0.out.tb R0.out.low HLJ.out).mono ?_
      rintro e w2 ⟨rfl, h1, h2⟩
      have S2 := Lib.hid (hQ.out.step h1 ((QT.of_below ((Below.refl _ _).alloc (Nat.le_refl _) _)).trans h2))
      clear h1 h2
      go_wp2_with fail
      go_roundw
      case rel => exact ⟨j + 1, by omega, by go_num, by show Sgp _ _ _ _ _ _ _ _ _; rw [HS.out]; exact S2.out⟩
      case measure => simp [intOf]; omega
    · obtain rfl : j = m := by omega
      rw [List.take_of_length_le (by rw [HM.out]; exact Nat.le_refl _)] at hQ
      obtain ⟨y, hy⟩ : ∃ y, PP.joins x1 (l.map (PP.tS false)).flatten = y := ⟨_, rfl⟩
      have HY := Lib.hid hy
      rw [hy] at hQ L3
      clear hy
      go_wp2_with fail
      refine (put_new [PS.yRB] 1 _ rfl (by omega) rfl hQ.out.1 hQ.out.low (by decide) L3.out).mono ?_
      rintro e w2 ⟨rfl, h1, h2⟩
      have S2 := Lib.hid (hQ.out.step h1 h2)
      clear h1 h2
      go_wp2_with fail
      go_end0
      rw [HX.out, HY.out]
      exact ⟨rfl, S2.out.fin⟩
end Go.Proofs.YtlfpaemfhanpiaaGreatDoor

namespace Go.Proofs.YtlfpaemfhanpiaaGreatDoor
open Go Go.RowKit Go.Proofs

theorem nd_len {W : World} {hi : Nat} {k n k' n' : Int} {s s' : ByteArray} {l : List TY.Nd} {A : Option Addr} {m c : Nat} (h : NdV W hi (.mk k' n' s' l) (ndv k n s (.slice A m c))) : m = l.length := by
  obtain ⟨A', c', vs, e, _⟩ := h.open_
  injection e with e
  injection e with e
  injection e with _ e
  injection e with _ e
  injection e with _ e
  injection e with e _
  injection e with _ e _
theorem pr_stm {b : Bool} {d : Nat} {t : TY.Nd} (h : PP.WS b d t) : (b = false → StC t) ∧ (b = true → BlC t) := by
  induction h with
  | blk d l hl ih => exact ⟨fun e => (by cases e), fun _ => block_pr l fun t ht => (ih t ht).1 rfl⟩
  | asg d s x hs hx => exact ⟨fun _ => st_asg s x (nm_ne hs) (pr_expr hx), fun e => (by cases e)⟩
  | ite d c a b hc ha hb i1 i2 =>
    refine ⟨fun _ => st_ite c a b ?_, fun e => (by cases e)⟩
    cases hb with
    | blk d l hl =>
      by_cases h0 : l = []
      · exact st_if0 c a _ (pr_expr hc) (i1.2 rfl) ((PP.blk_empty false hl).2 h0) fun W hi k n s A m c h => by rw [nd_len h, h0]; rfl
      · exact st_if1 c a _ (pr_expr hc) (i1.2 rfl) (i2.2 rfl) (fun e => h0 ((PP.blk_empty false hl).1 e)) fun W hi k n s A m c h => by rw [nd_len h]; exact List.length_pos_iff.2 h0
  | whl d c a hc ha i1 => exact ⟨fun _ => st_whl c a (pr_expr hc) (i1.2 rfl), fun e => (by cases e)⟩
  | snd d n a b c h0 h1 ha hb hc => exact ⟨fun _ => st_snd n a b c h0 (by omega) (pr_expr ha) (pr_expr hb) (pr_expr hc), fun e => (by cases e)⟩
  | tim d n h0 h1 => exact ⟨fun _ => st_tim n h0 (by omega), fun e => (by cases e)⟩
  | can d n h0 h1 => exact ⟨fun _ => st_can n h0 (by omega), fun e => (by cases e)⟩
  | syn d => exact ⟨fun _ => st_syn, fun e => (by cases e)⟩
  | rep d a b ha hb => exact ⟨fun _ => st_rep a b (pr_expr ha) (pr_expr hb), fun e => (by cases e)⟩
  | fai d a ha => exact ⟨fun _ => st_fai a (pr_expr ha), fun e => (by cases e)⟩
  | stp d => exact ⟨fun _ => st_stp, fun e => (by cases e)⟩
theorem block_any' {d : Nat} {t : TY.Nd} (h : PP.WS true d t) : BlC t := (pr_stm h).2 rfl
end Go.Proofs.YtlfpaemfhanpiaaGreatDoor

namespace Go.Proofs.YtlfpaemfhanpiaaGreatDoor
open Go Go.RowKit Go.Proofs
attribute [local go_sem] Oper.semAt_some

/-- A row of names. -/
def SN (W : World) (A : Option Addr) (l : List PS.Bs) : Prop := l = [] ∨ ∃ (b : Nat) (C : Array Value), A = some ⟨b, 0, none⟩ ∧ W.heap[b]? = some (.cells C 9 (0, 0)) ∧ ∀ (j : Nat) (s : PS.Bs), l[j]? = some s → C[j]? = some (.string (PS.bs s))
theorem SN.qt {lo : Nat} {W V : World} {A : Option Addr} {l : List PS.Bs} (h : SN W A l) (q : QT lo W V) : SN V A l := by
  rcases h with h | ⟨b, C, e, hb, hc⟩
  · exact .inl h
  · exact .inr ⟨b, C, e, q.ty _ _ _ hb (by decide) (by decide), hc⟩
theorem SN.at_ {W : World} {A : Option Addr} {l : List PS.Bs} (h : SN W A l) {j : Nat} {s : PS.Bs} (hj : l[j]? = some s) : ∃ b, A = some ⟨b, 0, none⟩ ∧ W.cell? ⟨b, j, none⟩ = some (.string (PS.bs s)) := by
  rcases h with rfl | ⟨b, C, e, hb, hc⟩
  · simp at hj
  · exact ⟨b, e, (cell_of_row W b j C _ (0, 0) hb).trans (hc j s hj)⟩
/-- The tokens of a declaration but for its end. -/
def tK (w : PS.Bs) (l : List PS.Bs) : List PS.Bs := if l = [] then [] else w :: PP.tN l
theorem tN_snoc (l : List PS.Bs) (s : PS.Bs) (h : l ≠ []) : PP.tN (l ++ [s]) = PP.tN l ++ [PS.yComma, s] := by
  induction l with
  | nil => exact absurd rfl h
  | cons x l ih =>
    cases l with
    | nil => rfl
    | cons y l =>
      show x :: PS.yComma :: PP.tN (y :: l ++ [s]) = (x :: PS.yComma :: PP.tN (y :: l)) ++ _
      rw [ih (by simp)]
      rfl
theorem tK_snoc (w : PS.Bs) (l : List PS.Bs) (s : PS.Bs) : tK w (l ++ [s]) = tK w l ++ [if l = [] then w else PS.yComma, s] := by
  unfold tK
  rw [if_neg (by simp)]
  by_cases h : l = []
  · subst h; rfl
  · rw [if_neg h, if_neg h, tN_snoc l s h]
    rfl
theorem tK_pre (w : PS.Bs) (l : List PS.Bs) (j : Nat) : ∃ ys, tK w l = tK w (l.take j) ++ ys := by
  induction h : l.length - j generalizing j with
  | zero => exact ⟨[], by rw [List.take_of_length_le (by omega), List.append_nil]⟩
  | succ n ih =>
    obtain ⟨ys, hy⟩ := ih (j + 1) (by omega)
    have hlt : j < l.length := by omega
    rw [hy, List.take_add_one, List.getElem?_eq_getElem hlt]
    show ∃ ys', tK w (l.take j ++ [l[j]]) ++ ys = _
    rw [tK_snoc, List.append_assoc]
    exact ⟨_, rfl⟩
set_option maxRecDepth 100000 in
set_option maxHeartbeats 4000000 in
theorem decl_pr (lo g : Nat) (W : World) (x w : PS.Bs) (l : List PS.Bs) (A : Option Addr) (c m : Nat) (hm : l.length = m) (hm2 : m ≤ 1000) (hc : m ≤ c) (hw : w ≠ []) (hne : ∀ s ∈ l, s ≠ []) (hS : SN W A l) (hP : PrV lo W g x) (hl : lo ≤ W.heap.size) (hlen : (PP.joins x (PP.tD w l)).length ≤ 100000) :
    Calls Tryz.prog 20 #[.pointer (some ⟨g, 0, none⟩), .string (PS.bs w), .slice A m c] W fun e w' => e = .returned (.tuple #[]) ∧ PrV lo w' g (PP.joins x (PP.tD w l)) ∧ QT lo W w' := by
  have hbt : PP.tD w l = tK w l ++ (if l = [] then [] else [PS.ySemi]) := by
    unfold PP.tD tK
    split <;> rfl
  rw [hbt] at hlen ⊢
  have L1 := Lib.hid (len_pre hlen)
  obtain ⟨tl, htl⟩ : ∃ tl, (if l = [] then [] else [PS.ySemi]) = tl := ⟨_, rfl⟩
  rw [htl] at hlen ⊢
  have HTL := Lib.hid htl
  clear htl
  rw [PP.joins_append] at hlen ⊢
  have L2 := Lib.hid hlen
  have HM := Lib.hid hm
  have HSN := Lib.hid hS
  have HNE := Lib.hid hne
  have HP := Lib.hid hP
  have HW := Lib.hid hw
  clear hm hS hP hlen hne hbt hw
  go_enter Tryz.func20, Tryz.ntmps20
  go_wp2_with fail
  go_loopw [6, 12] (fun q i V => ∃ j : Nat, j ≤ m ∧ i = .int .i64 (j : Int) ∧ q = .string (PS.bs (if j = 0 then w else PS.yComma)) ∧ Hid (PrV lo V g (PP.joins x (tK w (l.take j)))) ∧ Hid (QT lo W V)) (fun _ i _ => m - (intOf i).toNat)
  case atStart => exact ⟨0, by omega, rfl, rfl, HP.out, QT.refl _ _⟩
  case round =>
    obtain ⟨j, hj, rfl, rfl, hPr, hQ⟩ := hrel
    by_cases hjm : j < m
    · obtain ⟨s, htj⟩ : ∃ t, l[j]? = some t := ⟨l[j]'(by rw [HM.out]; exact hjm), List.getElem?_eq_getElem (by rw [HM.out]; exact hjm)⟩
      obtain ⟨nb, rfl, c0⟩ := (HSN.out.qt hQ.out).at_ htj
      obtain ⟨q, hq⟩ : ∃ q, (if j = 0 then w else PS.yComma) = q := ⟨_, rfl⟩
      have hqn : q ≠ [] := by rw [← hq]; split; exact HW.out; decide
      have hsn : tK w (l.take (j + 1)) = tK w (l.take j) ++ [q, s] := by
        rw [List.take_add_one, htj]
        show tK w (l.take j ++ [s]) = _
        rw [tK_snoc, ← hq]
        congr 3
        rw [show (l.take j = []) = (j = 0) from by
          rw [List.take_eq_nil_iff]
          simp only [eq_iff_iff, or_iff_left_iff_imp]
          rintro rfl
          simp at htj]
      have HS := Lib.hid (show PP.joins x (tK w (l.take (j + 1))) = PP.joins (PP.joins x (tK w (l.take j))) [q, s] from by rw [hsn, PP.joins_append])
      have HLJ := Lib.hid (show (PP.joins (PP.joins x (tK w (l.take j))) [q, s]).length ≤ 100000 from by
        rw [← HS.out]
        obtain ⟨ys, hys⟩ := tK_pre w l (j + 1)
        have := L1.out
        rw [hys] at this
        exact len_pre this)
      have HSN' := Lib.hid (HNE.out s (List.mem_of_getElem? htj))
      obtain ⟨y, hy⟩ : ∃ y, PP.joins x (tK w (l.take j)) = y := ⟨_, rfl⟩
      rw [hy] at HS HLJ hPr
      obtain ⟨z, hz⟩ : ∃ z, PS.bs s = z := ⟨_, rfl⟩
      have HZ := Lib.hid hz
      rw [hz] at c0
      rw [hq]
      have hlv := Nat.le_trans hl hQ.out.size
      clear htj hy hsn hq hz
      go_wp2_with fail
      refine (put_new [q, s] 2 _ rfl (by omega) (show #[Value.string (PS.bs q), Value.string (PS.bs s)] = _ from by rw [HZ.out]) hPr.out hlv (by intro t ht; simp only [List.mem_cons, List.not_mem_nil, or_false] at ht; rcases ht with rfl | rfl; exact hqn; exact HSN'.out) HLJ.out).mono ?_
      rintro e w2 ⟨rfl, h1, h2⟩
      have H1 := Lib.hid h1
      have H2 := Lib.hid (hQ.out.trans h2)
      clear h1 h2
      go_wp2_with fail
      go_roundw
      case rel => exact ⟨j + 1, by omega, by go_num, by rw [if_neg (by omega)], by show PrV _ _ _ _; rw [HS.out]; exact H1.out, H2.out⟩
      case measure => simp [intOf]; omega
    · obtain rfl : j = m := by omega
      have h := hPr.out
      rw [List.take_of_length_le (by rw [HM.out]; exact Nat.le_refl _)] at h
      have HH := Lib.hid h
      clear h hPr
      obtain ⟨q, hq⟩ : ∃ q, (if j = 0 then w else PS.yComma) = q := ⟨_, rfl⟩
      rw [hq]
      clear hq
      by_cases h0 : j = 0
      · have hl0 : l = [] := List.eq_nil_of_length_eq_zero (HM.out.trans h0)
        have hd : decide (0 < j) = false := decide_eq_false (by omega)
        have HL0 := Lib.hid hl0
        clear h0 hl0
        go_wp2_with fail
        go_end0
        rw [← HTL.out, if_pos HL0.out]
        exact ⟨rfl, HH.out, hQ.out⟩
      · have hl0 : l ≠ [] := fun e => h0 (by rw [← HM.out, e]; rfl)
        have hd : decide (0 < j) = true := decide_eq_true (by omega)
        have HL0 := Lib.hid hl0
        rw [← HTL.out, if_neg hl0] at L2
        have hlv := Nat.le_trans hl hQ.out.size
        clear h0 hl0
        go_wp2_with fail
        refine (put_new [PS.ySemi] 1 _ rfl (by omega) rfl HH.out hlv (by decide) L2.out).mono ?_
        rintro e w2 ⟨rfl, h1, h2⟩
        have H1 := Lib.hid h1
        have H2 := Lib.hid (hQ.out.trans h2)
        clear h1 h2
        go_wp2_with fail
        go_end0
        rw [← HTL.out, if_neg HL0.out]
        exact ⟨rfl, H1.out, H2.out⟩
end Go.Proofs.YtlfpaemfhanpiaaGreatDoor
