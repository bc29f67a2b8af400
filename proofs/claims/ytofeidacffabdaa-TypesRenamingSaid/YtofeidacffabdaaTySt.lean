/-
  The reference's source: statement, one level: given what block does one level down. Condition: the source lies in a block of its own.
-/
import Derived.Test.YtofeidacffabdaaTyTh
import Derived.Test.YtofeidacffabdaaTyV
namespace Go.Proofs.Ytofeidacffabdaa
open Go Go.RowKit Go.Proofs Go.Shelf
attribute [local go_sem] Oper.semAt_some


set_option maxRecDepth 100000 in
set_option maxHeartbeats 40000000 in
theorem stL_0 (L : List Int) (sub : TY.Gen) (W : World) (lo b i : Nat) (hs : SrcV W lo b L i) (hi : i + 100 ≤ 1000000000) (hk : TY.nxt L i 13 = 0) :
    Calls Try.prog 44 #[.pointer (some ⟨b, 0, none⟩), .int .i64 0] W fun r w' => ∃ v, r = .returned v ∧ Nw W.heap.size w' (TY.stF L false sub i).1 v ∧ SrcV w' lo b L (TY.stF L false sub i).2 ∧ (TY.stF L false sub i).2 ≤ i + 100 ∧ Chg (· = b) W w' := by
  obtain ⟨W0, hW0⟩ : ∃ U, W.alloc (.cells #[.int .i64 0, .int .i64 0, .string ⟨#[]⟩, .slice none 0 0] 25) = U := ⟨_, rfl⟩
  have X0 : Ex W W0 lo b L i := hW0 ▸ Ex.begin hs
  have N1 := Lib.hid (nx X0 (by omega) 13 0 13 (by decide) (by decide) rfl hk)
  have HW0 := Lib.hid hW0
  clear hs hW0 X0
  obtain ⟨y2, hy2⟩ : ∃ y, TY.nxt L (i + 1) 10 = y := ⟨_, rfl⟩
  have hz2 : y2 < 10 := hy2 ▸ TY.nxt_lt _ _ (by decide)
  have N2 := Lib.hid (fun V (h : Ex W V lo b L (i + 1)) => nx h (by omega) 10 y2 10 (by decide) (by decide) rfl hy2)
  have N3 := Lib.hid (fun V => nameY y2 hz2 V)
  have hzs := name_small y2
  obtain ⟨z, hzz⟩ : ∃ z, TY.vName y2 = z := ⟨_, rfl⟩
  rw [hzz] at N3 hzs
  obtain ⟨⟨t4, j4⟩, h4⟩ : ∃ p, TY.genE L 3 1 (i + 2) = p := ⟨_, rfl⟩
  have S4 := Lib.hid (fun V (h : Ex W V lo b L (i + 2)) => sb (d := 3) (expr_any L 3 (by decide)) h (by first | omega | (simp only [eb] at *; omega)) 1 1 rfl (by decide) h4)
  have hG : TY.stF L false sub i = (.mk 1 0 z [t4], j4) := by
    unfold TY.stF
    simp [hk, hy2, h4, hzz]
  rw [hG]
  clear hG hk hy2 h4 hzz
  go_enter Try.func44, Try.ntmps44
  go_wp2_with (first
    | (rw [HW0.out]; go_at_call 31; refine N1.out.mono ?_; clear N1; rintro e w1 ⟨rfl, X1, C1⟩; replace X1 := Lib.hid X1; clear C1)
    | (go_at_call 31; refine (N2.out _ X1.out).mono ?_; clear N2; rintro e w2 ⟨rfl, X2, C2⟩; replace X2 := Lib.hid X2; clear C2)
    | (go_at_call 25; refine (N3.out _).mono ?_; clear N3; rintro e w3 ⟨rfl, rfl⟩)
    | (go_at_call 30; refine (S4.out _ X2.out).mono ?_; clear S4; rintro r w4 ⟨k4, n4, s4, A4, m4, c4, rfl, V4, X4, B4, C4⟩; replace X4 := Lib.hid X4; replace V4 := Lib.hid V4; replace C4 := Lib.hid C4; obtain ⟨q0, q1, q2, q3, p0, p1, p2, p3⟩ := (X4.out.alloc (.cells #[.int .i64 k4, .int .i64 n4, .string s4, .slice A4 m4 c4] 25)).cells))
  obtain ⟨U, hU⟩ : ∃ U, ((((w4.alloc (.cells #[.int .i64 k4, .int .i64 n4, .string s4, .slice A4 m4 c4] 25)).setCell ⟨W.heap.size, 0, none⟩ (.int .i64 1)).setCell ⟨W.heap.size, 1, none⟩ (.int .i64 0)).setCell ⟨W.heap.size, 2, none⟩ (.string z)).setCell ⟨W.heap.size, 3, none⟩ (.slice (some ⟨w4.heap.size, 0, none⟩) 1 1) = U := ⟨_, rfl⟩
  rw [hU]
  have hbig4 := X4.out.big
  have hbig := X2.out.big
  have hblt := X4.out.lt
  have hsz4 := C4.out.size
  obtain ⟨f1, f2, f3, f4⟩ := (X4.out.alloc (.cells #[.int .i64 k4, .int .i64 n4, .string s4, .slice A4 m4 c4] 25)).fin 1 0 z (.slice (some ⟨w4.heap.size, 0, none⟩) 1 1) (Nw.one hbig4 hzs (V4.out.lower hbig)) hU
  refine bodyPost_ret (ret_N rfl _ rfl f1) rfl ?_
  exact ⟨_, rfl, f2, f3, by first | omega | (simp only [eb] at *; omega), f4⟩

set_option maxRecDepth 100000 in
set_option maxHeartbeats 40000000 in
theorem stL_1 (L : List Int) (sub : TY.Gen) (W : World) (lo b i : Nat) (hs : SrcV W lo b L i) (hi : i + 100 ≤ 1000000000) (hk : TY.nxt L i 13 = 1) :
    Calls Try.prog 44 #[.pointer (some ⟨b, 0, none⟩), .int .i64 0] W fun r w' => ∃ v, r = .returned v ∧ Nw W.heap.size w' (TY.stF L false sub i).1 v ∧ SrcV w' lo b L (TY.stF L false sub i).2 ∧ (TY.stF L false sub i).2 ≤ i + 100 ∧ Chg (· = b) W w' := by
  obtain ⟨W0, hW0⟩ : ∃ U, W.alloc (.cells #[.int .i64 0, .int .i64 0, .string ⟨#[]⟩, .slice none 0 0] 25) = U := ⟨_, rfl⟩
  have X0 : Ex W W0 lo b L i := hW0 ▸ Ex.begin hs
  have N1 := Lib.hid (nx X0 (by omega) 13 1 13 (by decide) (by decide) rfl hk)
  have HW0 := Lib.hid hW0
  clear hs hW0 X0
  obtain ⟨y2, hy2⟩ : ∃ y, TY.nxt L (i + 1) 10 = y := ⟨_, rfl⟩
  have hz2 : y2 < 10 := hy2 ▸ TY.nxt_lt _ _ (by decide)
  have N2 := Lib.hid (fun V (h : Ex W V lo b L (i + 1)) => nx h (by omega) 10 y2 10 (by decide) (by decide) rfl hy2)
  have N3 := Lib.hid (fun V => nameY y2 hz2 V)
  have hzs := name_small y2
  obtain ⟨z, hzz⟩ : ∃ z, TY.vName y2 = z := ⟨_, rfl⟩
  rw [hzz] at N3 hzs
  obtain ⟨⟨t4, j4⟩, h4⟩ : ∃ p, TY.genE L 3 1 (i + 2) = p := ⟨_, rfl⟩
  have S4 := Lib.hid (fun V (h : Ex W V lo b L (i + 2)) => sb (d := 3) (expr_any L 3 (by decide)) h (by first | omega | (simp only [eb] at *; omega)) 1 1 rfl (by decide) h4)
  have hG : TY.stF L false sub i = (.mk 1 0 z [t4], j4) := by
    unfold TY.stF
    simp [hk, hy2, h4, hzz]
  rw [hG]
  clear hG hk hy2 h4 hzz
  go_enter Try.func44, Try.ntmps44
  go_wp2_with (first
    | (rw [HW0.out]; go_at_call 31; refine N1.out.mono ?_; clear N1; rintro e w1 ⟨rfl, X1, C1⟩; replace X1 := Lib.hid X1; clear C1)
    | (go_at_call 31; refine (N2.out _ X1.out).mono ?_; clear N2; rintro e w2 ⟨rfl, X2, C2⟩; replace X2 := Lib.hid X2; clear C2)
    | (go_at_call 25; refine (N3.out _).mono ?_; clear N3; rintro e w3 ⟨rfl, rfl⟩)
    | (go_at_call 30; refine (S4.out _ X2.out).mono ?_; clear S4; rintro r w4 ⟨k4, n4, s4, A4, m4, c4, rfl, V4, X4, B4, C4⟩; replace X4 := Lib.hid X4; replace V4 := Lib.hid V4; replace C4 := Lib.hid C4; obtain ⟨q0, q1, q2, q3, p0, p1, p2, p3⟩ := (X4.out.alloc (.cells #[.int .i64 k4, .int .i64 n4, .string s4, .slice A4 m4 c4] 25)).cells))
  obtain ⟨U, hU⟩ : ∃ U, ((((w4.alloc (.cells #[.int .i64 k4, .int .i64 n4, .string s4, .slice A4 m4 c4] 25)).setCell ⟨W.heap.size, 0, none⟩ (.int .i64 1)).setCell ⟨W.heap.size, 1, none⟩ (.int .i64 0)).setCell ⟨W.heap.size, 2, none⟩ (.string z)).setCell ⟨W.heap.size, 3, none⟩ (.slice (some ⟨w4.heap.size, 0, none⟩) 1 1) = U := ⟨_, rfl⟩
  rw [hU]
  have hbig4 := X4.out.big
  have hbig := X2.out.big
  have hblt := X4.out.lt
  have hsz4 := C4.out.size
  obtain ⟨f1, f2, f3, f4⟩ := (X4.out.alloc (.cells #[.int .i64 k4, .int .i64 n4, .string s4, .slice A4 m4 c4] 25)).fin 1 0 z (.slice (some ⟨w4.heap.size, 0, none⟩) 1 1) (Nw.one hbig4 hzs (V4.out.lower hbig)) hU
  refine bodyPost_ret (ret_N rfl _ rfl f1) rfl ?_
  exact ⟨_, rfl, f2, f3, by first | omega | (simp only [eb] at *; omega), f4⟩

set_option maxRecDepth 100000 in
set_option maxHeartbeats 40000000 in
theorem stL_2 (L : List Int) (sub : TY.Gen) (W : World) (lo b i : Nat) (hs : SrcV W lo b L i) (hi : i + 100 ≤ 1000000000) (hk : TY.nxt L i 13 = 2) :
    Calls Try.prog 44 #[.pointer (some ⟨b, 0, none⟩), .int .i64 0] W fun r w' => ∃ v, r = .returned v ∧ Nw W.heap.size w' (TY.stF L false sub i).1 v ∧ SrcV w' lo b L (TY.stF L false sub i).2 ∧ (TY.stF L false sub i).2 ≤ i + 100 ∧ Chg (· = b) W w' := by
  obtain ⟨W0, hW0⟩ : ∃ U, W.alloc (.cells #[.int .i64 0, .int .i64 0, .string ⟨#[]⟩, .slice none 0 0] 25) = U := ⟨_, rfl⟩
  have X0 : Ex W W0 lo b L i := hW0 ▸ Ex.begin hs
  have N1 := Lib.hid (nx X0 (by omega) 13 2 13 (by decide) (by decide) rfl hk)
  have HW0 := Lib.hid hW0
  clear hs hW0 X0
  obtain ⟨y2, hy2⟩ : ∃ y, TY.nxt L (i + 1) 10 = y := ⟨_, rfl⟩
  have hz2 : y2 < 10 := hy2 ▸ TY.nxt_lt _ _ (by decide)
  have N2 := Lib.hid (fun V (h : Ex W V lo b L (i + 1)) => nx h (by omega) 10 y2 10 (by decide) (by decide) rfl hy2)
  have N3 := Lib.hid (fun V => nameY y2 hz2 V)
  have hzs := name_small y2
  obtain ⟨z, hzz⟩ : ∃ z, TY.vName y2 = z := ⟨_, rfl⟩
  rw [hzz] at N3 hzs
  obtain ⟨⟨t4, j4⟩, h4⟩ : ∃ p, TY.genE L 3 1 (i + 2) = p := ⟨_, rfl⟩
  have S4 := Lib.hid (fun V (h : Ex W V lo b L (i + 2)) => sb (d := 3) (expr_any L 3 (by decide)) h (by first | omega | (simp only [eb] at *; omega)) 1 1 rfl (by decide) h4)
  have hG : TY.stF L false sub i = (.mk 1 0 z [t4], j4) := by
    unfold TY.stF
    simp [hk, hy2, h4, hzz]
  rw [hG]
  clear hG hk hy2 h4 hzz
  go_enter Try.func44, Try.ntmps44
  go_wp2_with (first
    | (rw [HW0.out]; go_at_call 31; refine N1.out.mono ?_; clear N1; rintro e w1 ⟨rfl, X1, C1⟩; replace X1 := Lib.hid X1; clear C1)
    | (go_at_call 31; refine (N2.out _ X1.out).mono ?_; clear N2; rintro e w2 ⟨rfl, X2, C2⟩; replace X2 := Lib.hid X2; clear C2)
    | (go_at_call 25; refine (N3.out _).mono ?_; clear N3; rintro e w3 ⟨rfl, rfl⟩)
    | (go_at_call 30; refine (S4.out _ X2.out).mono ?_; clear S4; rintro r w4 ⟨k4, n4, s4, A4, m4, c4, rfl, V4, X4, B4, C4⟩; replace X4 := Lib.hid X4; replace V4 := Lib.hid V4; replace C4 := Lib.hid C4; obtain ⟨q0, q1, q2, q3, p0, p1, p2, p3⟩ := (X4.out.alloc (.cells #[.int .i64 k4, .int .i64 n4, .string s4, .slice A4 m4 c4] 25)).cells))
  obtain ⟨U, hU⟩ : ∃ U, ((((w4.alloc (.cells #[.int .i64 k4, .int .i64 n4, .string s4, .slice A4 m4 c4] 25)).setCell ⟨W.heap.size, 0, none⟩ (.int .i64 1)).setCell ⟨W.heap.size, 1, none⟩ (.int .i64 0)).setCell ⟨W.heap.size, 2, none⟩ (.string z)).setCell ⟨W.heap.size, 3, none⟩ (.slice (some ⟨w4.heap.size, 0, none⟩) 1 1) = U := ⟨_, rfl⟩
  rw [hU]
  have hbig4 := X4.out.big
  have hbig := X2.out.big
  have hblt := X4.out.lt
  have hsz4 := C4.out.size
  obtain ⟨f1, f2, f3, f4⟩ := (X4.out.alloc (.cells #[.int .i64 k4, .int .i64 n4, .string s4, .slice A4 m4 c4] 25)).fin 1 0 z (.slice (some ⟨w4.heap.size, 0, none⟩) 1 1) (Nw.one hbig4 hzs (V4.out.lower hbig)) hU
  refine bodyPost_ret (ret_N rfl _ rfl f1) rfl ?_
  exact ⟨_, rfl, f2, f3, by first | omega | (simp only [eb] at *; omega), f4⟩

set_option maxRecDepth 100000 in
set_option maxHeartbeats 40000000 in
theorem stL_3 (L : List Int) (sub : TY.Gen) (W : World) (lo b i : Nat) (hs : SrcV W lo b L i) (hi : i + 100 ≤ 1000000000) (hk : TY.nxt L i 13 = 3) :
    Calls Try.prog 44 #[.pointer (some ⟨b, 0, none⟩), .int .i64 0] W fun r w' => ∃ v, r = .returned v ∧ Nw W.heap.size w' (TY.stF L false sub i).1 v ∧ SrcV w' lo b L (TY.stF L false sub i).2 ∧ (TY.stF L false sub i).2 ≤ i + 100 ∧ Chg (· = b) W w' := by
  obtain ⟨W0, hW0⟩ : ∃ U, W.alloc (.cells #[.int .i64 0, .int .i64 0, .string ⟨#[]⟩, .slice none 0 0] 25) = U := ⟨_, rfl⟩
  have X0 : Ex W W0 lo b L i := hW0 ▸ Ex.begin hs
  have N1 := Lib.hid (nx X0 (by omega) 13 3 13 (by decide) (by decide) rfl hk)
  have HW0 := Lib.hid hW0
  clear hs hW0 X0
  obtain ⟨y2, hy2⟩ : ∃ y, TY.nxt L (i + 1) 30 = y := ⟨_, rfl⟩
  have N2 := Lib.hid (fun V (h : Ex W V lo b L (i + 1)) => nx h (by omega) 30 y2 30 (by decide) (by decide) rfl hy2)
  obtain ⟨⟨t3, j3⟩, h3⟩ : ∃ p, TY.genE L 2 1 (i + 2) = p := ⟨_, rfl⟩
  have S3 := Lib.hid (fun V (h : Ex W V lo b L (i + 2)) => sb (d := 2) (expr_any L 2 (by decide)) h (by first | omega | (simp only [eb] at *; omega)) 1 1 rfl (by decide) h3)
  obtain ⟨⟨t4, j4⟩, h4⟩ : ∃ p, TY.genE L 2 1 j3 = p := ⟨_, rfl⟩
  have S4 := Lib.hid (fun V (h : Ex W V lo b L j3) (B3 : j3 ≤ (i + 2) + eb 2) => sb (d := 2) (expr_any L 2 (by decide)) h (by first | omega | (simp only [eb] at *; omega)) 1 1 rfl (by decide) h4)
  obtain ⟨⟨t5, j5⟩, h5⟩ : ∃ p, TY.genE L 1 1 j4 = p := ⟨_, rfl⟩
  have S5 := Lib.hid (fun V (h : Ex W V lo b L j4) (B3 : j3 ≤ (i + 2) + eb 2) (B4 : j4 ≤ j3 + eb 2) => sb (d := 1) (expr_any L 1 (by decide)) h (by first | omega | (simp only [eb] at *; omega)) 1 1 rfl (by decide) h5)
  have hG : TY.stF L false sub i = (.mk 4 (y2 : Int) TY.eps [t3, t4, t5], j5) := by
    unfold TY.stF
    simp [hk, hy2, h3, h4, h5]
  rw [hG]
  clear hG hk hy2 h3 h4 h5
  go_enter Try.func44, Try.ntmps44
  go_wp2_with (first
    | (rw [HW0.out]; go_at_call 31; refine N1.out.mono ?_; clear N1; rintro e w1 ⟨rfl, X1, C1⟩; replace X1 := Lib.hid X1; clear C1)
    | (go_at_call 31; refine (N2.out _ X1.out).mono ?_; clear N2; rintro e w2 ⟨rfl, X2, C2⟩; replace X2 := Lib.hid X2; clear C2)
    | (go_at_call 30; refine (S3.out _ X2.out).mono ?_; clear S3; rintro r w3 ⟨k3, n3, s3, A3, m3, c3, rfl, V3, X3, B3, C3⟩; replace X3 := Lib.hid X3; replace V3 := Lib.hid V3; replace C3 := Lib.hid C3)
    | (go_at_call 30; refine (S4.out _ X3.out B3).mono ?_; clear S4; rintro r w4 ⟨k4, n4, s4, A4, m4, c4, rfl, V4, X4, B4, C4⟩; replace X4 := Lib.hid X4; replace V4 := Lib.hid V4; replace C4 := Lib.hid C4)
    | (go_at_call 30; refine (S5.out _ X4.out B3 B4).mono ?_; clear S5; rintro r w5 ⟨k5, n5, s5, A5, m5, c5, rfl, V5, X5, B5, C5⟩; replace X5 := Lib.hid X5; replace V5 := Lib.hid V5; replace C5 := Lib.hid C5; obtain ⟨q0, q1, q2, q3, p0, p1, p2, p3⟩ := (X5.out.alloc (.cells #[.int .i64 k3, .int .i64 n3, .string s3, .slice A3 m3 c3, .int .i64 k4, .int .i64 n4, .string s4, .slice A4 m4 c4, .int .i64 k5, .int .i64 n5, .string s5, .slice A5 m5 c5] 25)).cells))
  obtain ⟨U, hU⟩ : ∃ U, ((((w5.alloc (.cells #[.int .i64 k3, .int .i64 n3, .string s3, .slice A3 m3 c3, .int .i64 k4, .int .i64 n4, .string s4, .slice A4 m4 c4, .int .i64 k5, .int .i64 n5, .string s5, .slice A5 m5 c5] 25)).setCell ⟨W.heap.size, 0, none⟩ (.int .i64 4)).setCell ⟨W.heap.size, 1, none⟩ (.int .i64 (y2 : Int))).setCell ⟨W.heap.size, 2, none⟩ (.string ⟨#[]⟩)).setCell ⟨W.heap.size, 3, none⟩ (.slice (some ⟨w5.heap.size, 0, none⟩) 3 3) = U := ⟨_, rfl⟩
  rw [hU]
  have hbig3 := X3.out.big
  have hbig4 := X4.out.big
  have hbig5 := X5.out.big
  have hbig := X2.out.big
  have hblt := X5.out.lt
  have hsz3 := C3.out.size
  have hsz4 := C4.out.size
  have hsz5 := C5.out.size
  obtain ⟨f1, f2, f3, f4⟩ := (X5.out.alloc (.cells #[.int .i64 k3, .int .i64 n3, .string s3, .slice A3 m3 c3, .int .i64 k4, .int .i64 n4, .string s4, .slice A4 m4 c4, .int .i64 k5, .int .i64 n5, .string s5, .slice A5 m5 c5] 25)).fin 4 (y2 : Int) ⟨#[]⟩ (.slice (some ⟨w5.heap.size, 0, none⟩) 3 3) (Nw.three hbig3 (Nat.le_refl _) hsz4 (Nat.le_refl _) hsz5 (by decide) (V3.out.lower hbig) (fun g _ hc => (C5.out.block g (by omega) (by omega)).trans (C4.out.block g hc (by omega))) V4.out (fun g _ hc => C5.out.block g hc (by omega)) V5.out) hU
  refine bodyPost_ret (ret_N rfl _ rfl f1) rfl ?_
  exact ⟨_, rfl, f2, f3, by first | omega | (simp only [eb] at *; omega), f4⟩

set_option maxRecDepth 100000 in
set_option maxHeartbeats 40000000 in
theorem stL_4 (L : List Int) (sub : TY.Gen) (W : World) (lo b i : Nat) (hs : SrcV W lo b L i) (hi : i + 100 ≤ 1000000000) (hk : TY.nxt L i 13 = 4) :
    Calls Try.prog 44 #[.pointer (some ⟨b, 0, none⟩), .int .i64 0] W fun r w' => ∃ v, r = .returned v ∧ Nw W.heap.size w' (TY.stF L false sub i).1 v ∧ SrcV w' lo b L (TY.stF L false sub i).2 ∧ (TY.stF L false sub i).2 ≤ i + 100 ∧ Chg (· = b) W w' := by
  obtain ⟨W0, hW0⟩ : ∃ U, W.alloc (.cells #[.int .i64 0, .int .i64 0, .string ⟨#[]⟩, .slice none 0 0] 25) = U := ⟨_, rfl⟩
  have X0 : Ex W W0 lo b L i := hW0 ▸ Ex.begin hs
  have N1 := Lib.hid (nx X0 (by omega) 13 4 13 (by decide) (by decide) rfl hk)
  have HW0 := Lib.hid hW0
  clear hs hW0 X0
  obtain ⟨y2, hy2⟩ : ∃ y, TY.nxt L (i + 1) 30 = y := ⟨_, rfl⟩
  have N2 := Lib.hid (fun V (h : Ex W V lo b L (i + 1)) => nx h (by omega) 30 y2 30 (by decide) (by decide) rfl hy2)
  obtain ⟨⟨t3, j3⟩, h3⟩ : ∃ p, TY.genE L 2 1 (i + 2) = p := ⟨_, rfl⟩
  have S3 := Lib.hid (fun V (h : Ex W V lo b L (i + 2)) => sb (d := 2) (expr_any L 2 (by decide)) h (by first | omega | (simp only [eb] at *; omega)) 1 1 rfl (by decide) h3)
  obtain ⟨⟨t4, j4⟩, h4⟩ : ∃ p, TY.genE L 2 1 j3 = p := ⟨_, rfl⟩
  have S4 := Lib.hid (fun V (h : Ex W V lo b L j3) (B3 : j3 ≤ (i + 2) + eb 2) => sb (d := 2) (expr_any L 2 (by decide)) h (by first | omega | (simp only [eb] at *; omega)) 1 1 rfl (by decide) h4)
  obtain ⟨⟨t5, j5⟩, h5⟩ : ∃ p, TY.genE L 1 1 j4 = p := ⟨_, rfl⟩
  have S5 := Lib.hid (fun V (h : Ex W V lo b L j4) (B3 : j3 ≤ (i + 2) + eb 2) (B4 : j4 ≤ j3 + eb 2) => sb (d := 1) (expr_any L 1 (by decide)) h (by first | omega | (simp only [eb] at *; omega)) 1 1 rfl (by decide) h5)
  have hG : TY.stF L false sub i = (.mk 4 (y2 : Int) TY.eps [t3, t4, t5], j5) := by
    unfold TY.stF
    simp [hk, hy2, h3, h4, h5]
  rw [hG]
  clear hG hk hy2 h3 h4 h5
  go_enter Try.func44, Try.ntmps44
  go_wp2_with (first
    | (rw [HW0.out]; go_at_call 31; refine N1.out.mono ?_; clear N1; rintro e w1 ⟨rfl, X1, C1⟩; replace X1 := Lib.hid X1; clear C1)
    | (go_at_call 31; refine (N2.out _ X1.out).mono ?_; clear N2; rintro e w2 ⟨rfl, X2, C2⟩; replace X2 := Lib.hid X2; clear C2)
    | (go_at_call 30; refine (S3.out _ X2.out).mono ?_; clear S3; rintro r w3 ⟨k3, n3, s3, A3, m3, c3, rfl, V3, X3, B3, C3⟩; replace X3 := Lib.hid X3; replace V3 := Lib.hid V3; replace C3 := Lib.hid C3)
    | (go_at_call 30; refine (S4.out _ X3.out B3).mono ?_; clear S4; rintro r w4 ⟨k4, n4, s4, A4, m4, c4, rfl, V4, X4, B4, C4⟩; replace X4 := Lib.hid X4; replace V4 := Lib.hid V4; replace C4 := Lib.hid C4)
    | (go_at_call 30; refine (S5.out _ X4.out B3 B4).mono ?_; clear S5; rintro r w5 ⟨k5, n5, s5, A5, m5, c5, rfl, V5, X5, B5, C5⟩; replace X5 := Lib.hid X5; replace V5 := Lib.hid V5; replace C5 := Lib.hid C5; obtain ⟨q0, q1, q2, q3, p0, p1, p2, p3⟩ := (X5.out.alloc (.cells #[.int .i64 k3, .int .i64 n3, .string s3, .slice A3 m3 c3, .int .i64 k4, .int .i64 n4, .string s4, .slice A4 m4 c4, .int .i64 k5, .int .i64 n5, .string s5, .slice A5 m5 c5] 25)).cells))
  obtain ⟨U, hU⟩ : ∃ U, ((((w5.alloc (.cells #[.int .i64 k3, .int .i64 n3, .string s3, .slice A3 m3 c3, .int .i64 k4, .int .i64 n4, .string s4, .slice A4 m4 c4, .int .i64 k5, .int .i64 n5, .string s5, .slice A5 m5 c5] 25)).setCell ⟨W.heap.size, 0, none⟩ (.int .i64 4)).setCell ⟨W.heap.size, 1, none⟩ (.int .i64 (y2 : Int))).setCell ⟨W.heap.size, 2, none⟩ (.string ⟨#[]⟩)).setCell ⟨W.heap.size, 3, none⟩ (.slice (some ⟨w5.heap.size, 0, none⟩) 3 3) = U := ⟨_, rfl⟩
  rw [hU]
  have hbig3 := X3.out.big
  have hbig4 := X4.out.big
  have hbig5 := X5.out.big
  have hbig := X2.out.big
  have hblt := X5.out.lt
  have hsz3 := C3.out.size
  have hsz4 := C4.out.size
  have hsz5 := C5.out.size
  obtain ⟨f1, f2, f3, f4⟩ := (X5.out.alloc (.cells #[.int .i64 k3, .int .i64 n3, .string s3, .slice A3 m3 c3, .int .i64 k4, .int .i64 n4, .string s4, .slice A4 m4 c4, .int .i64 k5, .int .i64 n5, .string s5, .slice A5 m5 c5] 25)).fin 4 (y2 : Int) ⟨#[]⟩ (.slice (some ⟨w5.heap.size, 0, none⟩) 3 3) (Nw.three hbig3 (Nat.le_refl _) hsz4 (Nat.le_refl _) hsz5 (by decide) (V3.out.lower hbig) (fun g _ hc => (C5.out.block g (by omega) (by omega)).trans (C4.out.block g hc (by omega))) V4.out (fun g _ hc => C5.out.block g hc (by omega)) V5.out) hU
  refine bodyPost_ret (ret_N rfl _ rfl f1) rfl ?_
  exact ⟨_, rfl, f2, f3, by first | omega | (simp only [eb] at *; omega), f4⟩

set_option maxRecDepth 100000 in
set_option maxHeartbeats 40000000 in
theorem stL_5 (L : List Int) (sub : TY.Gen) (W : World) (lo b i : Nat) (hs : SrcV W lo b L i) (hi : i + 100 ≤ 1000000000) (hk : TY.nxt L i 13 = 5) :
    Calls Try.prog 44 #[.pointer (some ⟨b, 0, none⟩), .int .i64 0] W fun r w' => ∃ v, r = .returned v ∧ Nw W.heap.size w' (TY.stF L false sub i).1 v ∧ SrcV w' lo b L (TY.stF L false sub i).2 ∧ (TY.stF L false sub i).2 ≤ i + 100 ∧ Chg (· = b) W w' := by
  obtain ⟨W0, hW0⟩ : ∃ U, W.alloc (.cells #[.int .i64 0, .int .i64 0, .string ⟨#[]⟩, .slice none 0 0] 25) = U := ⟨_, rfl⟩
  have X0 : Ex W W0 lo b L i := hW0 ▸ Ex.begin hs
  have N1 := Lib.hid (nx X0 (by omega) 13 5 13 (by decide) (by decide) rfl hk)
  have HW0 := Lib.hid hW0
  clear hs hW0 X0
  obtain ⟨⟨t2, j2⟩, h2⟩ : ∃ p, TY.genE L 2 1 (i + 1) = p := ⟨_, rfl⟩
  have S2 := Lib.hid (fun V (h : Ex W V lo b L (i + 1)) => sb (d := 2) (expr_any L 2 (by decide)) h (by first | omega | (simp only [eb] at *; omega)) 1 1 rfl (by decide) h2)
  obtain ⟨⟨t3, j3⟩, h3⟩ : ∃ p, TY.genE L 2 1 j2 = p := ⟨_, rfl⟩
  have S3 := Lib.hid (fun V (h : Ex W V lo b L j2) (B2 : j2 ≤ (i + 1) + eb 2) => sb (d := 2) (expr_any L 2 (by decide)) h (by first | omega | (simp only [eb] at *; omega)) 1 1 rfl (by decide) h3)
  have hG : TY.stF L false sub i = (.mk 8 0 TY.eps [t2, t3], j3) := by
    unfold TY.stF
    simp [hk, h2, h3]
  rw [hG]
  clear hG hk h2 h3
  go_enter Try.func44, Try.ntmps44
  go_wp2_with (first
    | (rw [HW0.out]; go_at_call 31; refine N1.out.mono ?_; clear N1; rintro e w1 ⟨rfl, X1, C1⟩; replace X1 := Lib.hid X1; clear C1)
    | (go_at_call 30; refine (S2.out _ X1.out).mono ?_; clear S2; rintro r w2 ⟨k2, n2, s2, A2, m2, c2, rfl, V2, X2, B2, C2⟩; replace X2 := Lib.hid X2; replace V2 := Lib.hid V2; replace C2 := Lib.hid C2)
    | (go_at_call 30; refine (S3.out _ X2.out B2).mono ?_; clear S3; rintro r w3 ⟨k3, n3, s3, A3, m3, c3, rfl, V3, X3, B3, C3⟩; replace X3 := Lib.hid X3; replace V3 := Lib.hid V3; replace C3 := Lib.hid C3; obtain ⟨q0, q1, q2, q3, p0, p1, p2, p3⟩ := (X3.out.alloc (.cells #[.int .i64 k2, .int .i64 n2, .string s2, .slice A2 m2 c2, .int .i64 k3, .int .i64 n3, .string s3, .slice A3 m3 c3] 25)).cells))
  obtain ⟨U, hU⟩ : ∃ U, ((((w3.alloc (.cells #[.int .i64 k2, .int .i64 n2, .string s2, .slice A2 m2 c2, .int .i64 k3, .int .i64 n3, .string s3, .slice A3 m3 c3] 25)).setCell ⟨W.heap.size, 0, none⟩ (.int .i64 8)).setCell ⟨W.heap.size, 1, none⟩ (.int .i64 0)).setCell ⟨W.heap.size, 2, none⟩ (.string ⟨#[]⟩)).setCell ⟨W.heap.size, 3, none⟩ (.slice (some ⟨w3.heap.size, 0, none⟩) 2 2) = U := ⟨_, rfl⟩
  rw [hU]
  have hbig2 := X2.out.big
  have hbig3 := X3.out.big
  have hbig := X1.out.big
  have hblt := X3.out.lt
  have hsz2 := C2.out.size
  have hsz3 := C3.out.size
  obtain ⟨f1, f2, f3, f4⟩ := (X3.out.alloc (.cells #[.int .i64 k2, .int .i64 n2, .string s2, .slice A2 m2 c2, .int .i64 k3, .int .i64 n3, .string s3, .slice A3 m3 c3] 25)).fin 8 0 ⟨#[]⟩ (.slice (some ⟨w3.heap.size, 0, none⟩) 2 2) (Nw.two hbig2 (Nat.le_refl _) hsz3 (by decide) (V2.out.lower hbig) (fun c _ hc => C3.out.block c hc (by omega)) V3.out) hU
  refine bodyPost_ret (ret_N rfl _ rfl f1) rfl ?_
  exact ⟨_, rfl, f2, f3, by first | omega | (simp only [eb] at *; omega), f4⟩

set_option maxRecDepth 100000 in
set_option maxHeartbeats 40000000 in
theorem stL_6 (L : List Int) (sub : TY.Gen) (W : World) (lo b i : Nat) (hs : SrcV W lo b L i) (hi : i + 100 ≤ 1000000000) (hk : TY.nxt L i 13 = 6) :
    Calls Try.prog 44 #[.pointer (some ⟨b, 0, none⟩), .int .i64 0] W fun r w' => ∃ v, r = .returned v ∧ Nw W.heap.size w' (TY.stF L false sub i).1 v ∧ SrcV w' lo b L (TY.stF L false sub i).2 ∧ (TY.stF L false sub i).2 ≤ i + 100 ∧ Chg (· = b) W w' := by
  obtain ⟨W0, hW0⟩ : ∃ U, W.alloc (.cells #[.int .i64 0, .int .i64 0, .string ⟨#[]⟩, .slice none 0 0] 25) = U := ⟨_, rfl⟩
  have X0 : Ex W W0 lo b L i := hW0 ▸ Ex.begin hs
  have N1 := Lib.hid (nx X0 (by omega) 13 6 13 (by decide) (by decide) rfl hk)
  have HW0 := Lib.hid hW0
  clear hs hW0 X0
  obtain ⟨⟨t2, j2⟩, h2⟩ : ∃ p, TY.genE L 2 1 (i + 1) = p := ⟨_, rfl⟩
  have S2 := Lib.hid (fun V (h : Ex W V lo b L (i + 1)) => sb (d := 2) (expr_any L 2 (by decide)) h (by first | omega | (simp only [eb] at *; omega)) 1 1 rfl (by decide) h2)
  have hG : TY.stF L false sub i = (.mk 9 0 TY.eps [t2], j2) := by
    unfold TY.stF
    simp [hk, h2]
  rw [hG]
  clear hG hk h2
  go_enter Try.func44, Try.ntmps44
  go_wp2_with (first
    | (rw [HW0.out]; go_at_call 31; refine N1.out.mono ?_; clear N1; rintro e w1 ⟨rfl, X1, C1⟩; replace X1 := Lib.hid X1; clear C1)
    | (go_at_call 30; refine (S2.out _ X1.out).mono ?_; clear S2; rintro r w2 ⟨k2, n2, s2, A2, m2, c2, rfl, V2, X2, B2, C2⟩; replace X2 := Lib.hid X2; replace V2 := Lib.hid V2; replace C2 := Lib.hid C2; obtain ⟨q0, q1, q2, q3, p0, p1, p2, p3⟩ := (X2.out.alloc (.cells #[.int .i64 k2, .int .i64 n2, .string s2, .slice A2 m2 c2] 25)).cells))
  obtain ⟨U, hU⟩ : ∃ U, ((((w2.alloc (.cells #[.int .i64 k2, .int .i64 n2, .string s2, .slice A2 m2 c2] 25)).setCell ⟨W.heap.size, 0, none⟩ (.int .i64 9)).setCell ⟨W.heap.size, 1, none⟩ (.int .i64 0)).setCell ⟨W.heap.size, 2, none⟩ (.string ⟨#[]⟩)).setCell ⟨W.heap.size, 3, none⟩ (.slice (some ⟨w2.heap.size, 0, none⟩) 1 1) = U := ⟨_, rfl⟩
  rw [hU]
  have hbig2 := X2.out.big
  have hbig := X1.out.big
  have hblt := X2.out.lt
  have hsz2 := C2.out.size
  obtain ⟨f1, f2, f3, f4⟩ := (X2.out.alloc (.cells #[.int .i64 k2, .int .i64 n2, .string s2, .slice A2 m2 c2] 25)).fin 9 0 ⟨#[]⟩ (.slice (some ⟨w2.heap.size, 0, none⟩) 1 1) (Nw.one hbig2 (by decide) (V2.out.lower hbig)) hU
  refine bodyPost_ret (ret_N rfl _ rfl f1) rfl ?_
  exact ⟨_, rfl, f2, f3, by first | omega | (simp only [eb] at *; omega), f4⟩

set_option maxRecDepth 100000 in
set_option maxHeartbeats 40000000 in
theorem stL_7 (L : List Int) (sub : TY.Gen) (W : World) (lo b i : Nat) (hs : SrcV W lo b L i) (hi : i + 100 ≤ 1000000000) (hk : TY.nxt L i 13 = 7) :
    Calls Try.prog 44 #[.pointer (some ⟨b, 0, none⟩), .int .i64 0] W fun r w' => ∃ v, r = .returned v ∧ Nw W.heap.size w' (TY.stF L false sub i).1 v ∧ SrcV w' lo b L (TY.stF L false sub i).2 ∧ (TY.stF L false sub i).2 ≤ i + 100 ∧ Chg (· = b) W w' := by
  obtain ⟨W0, hW0⟩ : ∃ U, W.alloc (.cells #[.int .i64 0, .int .i64 0, .string ⟨#[]⟩, .slice none 0 0] 25) = U := ⟨_, rfl⟩
  have X0 : Ex W W0 lo b L i := hW0 ▸ Ex.begin hs
  have N1 := Lib.hid (nx X0 (by omega) 13 7 13 (by decide) (by decide) rfl hk)
  have HW0 := Lib.hid hW0
  clear hs hW0 X0
  obtain ⟨y2, hy2⟩ : ∃ y, TY.nxt L (i + 1) 8 = y := ⟨_, rfl⟩
  have N2 := Lib.hid (fun V (h : Ex W V lo b L (i + 1)) => nx h (by omega) 8 y2 8 (by decide) (by decide) rfl hy2)
  have hG : TY.stF L false sub i = (.mk 5 (y2 : Int) TY.eps [], i + 2) := by
    unfold TY.stF
    simp [hk, hy2]
  rw [hG]
  clear hG hk hy2
  go_enter Try.func44, Try.ntmps44
  go_wp2_with (first
    | (rw [HW0.out]; go_at_call 31; refine N1.out.mono ?_; clear N1; rintro e w1 ⟨rfl, X1, C1⟩; replace X1 := Lib.hid X1; clear C1)
    | (go_at_call 31; refine (N2.out _ X1.out).mono ?_; clear N2; rintro e w2 ⟨rfl, X2, C2⟩; replace X2 := Lib.hid X2; clear C2; obtain ⟨q0, q1, q2, q3, p0, p1, p2, p3⟩ := X2.out.cells))
  obtain ⟨U, hU⟩ : ∃ U, (((w2.setCell ⟨W.heap.size, 0, none⟩ (.int .i64 5)).setCell ⟨W.heap.size, 1, none⟩ (.int .i64 (y2 : Int))).setCell ⟨W.heap.size, 2, none⟩ (.string ⟨#[]⟩)).setCell ⟨W.heap.size, 3, none⟩ (.slice none 0 0) = U := ⟨_, rfl⟩
  rw [hU]
  obtain ⟨f1, f2, f3, f4⟩ := X2.out.fin 5 (y2 : Int) ⟨#[]⟩ (.slice none 0 0) (Nw.leaf _ _ _ _ _ (by decide)) hU
  refine bodyPost_ret (ret_N rfl _ rfl f1) rfl ?_
  exact ⟨_, rfl, f2, f3, by first | omega | (simp only [eb] at *; omega), f4⟩

set_option maxRecDepth 100000 in
set_option maxHeartbeats 40000000 in
theorem stL_8 (L : List Int) (sub : TY.Gen) (W : World) (lo b i : Nat) (hs : SrcV W lo b L i) (hi : i + 100 ≤ 1000000000) (hk : TY.nxt L i 13 = 8) :
    Calls Try.prog 44 #[.pointer (some ⟨b, 0, none⟩), .int .i64 0] W fun r w' => ∃ v, r = .returned v ∧ Nw W.heap.size w' (TY.stF L false sub i).1 v ∧ SrcV w' lo b L (TY.stF L false sub i).2 ∧ (TY.stF L false sub i).2 ≤ i + 100 ∧ Chg (· = b) W w' := by
  obtain ⟨W0, hW0⟩ : ∃ U, W.alloc (.cells #[.int .i64 0, .int .i64 0, .string ⟨#[]⟩, .slice none 0 0] 25) = U := ⟨_, rfl⟩
  have X0 : Ex W W0 lo b L i := hW0 ▸ Ex.begin hs
  have N1 := Lib.hid (nx X0 (by omega) 13 8 13 (by decide) (by decide) rfl hk)
  have HW0 := Lib.hid hW0
  clear hs hW0 X0
  obtain ⟨y2, hy2⟩ : ∃ y, TY.nxt L (i + 1) 8 = y := ⟨_, rfl⟩
  have N2 := Lib.hid (fun V (h : Ex W V lo b L (i + 1)) => nx h (by omega) 8 y2 8 (by decide) (by decide) rfl hy2)
  have hG : TY.stF L false sub i = (.mk 6 (y2 : Int) TY.eps [], i + 2) := by
    unfold TY.stF
    simp [hk, hy2]
  rw [hG]
  clear hG hk hy2
  go_enter Try.func44, Try.ntmps44
  go_wp2_with (first
    | (rw [HW0.out]; go_at_call 31; refine N1.out.mono ?_; clear N1; rintro e w1 ⟨rfl, X1, C1⟩; replace X1 := Lib.hid X1; clear C1)
    | (go_at_call 31; refine (N2.out _ X1.out).mono ?_; clear N2; rintro e w2 ⟨rfl, X2, C2⟩; replace X2 := Lib.hid X2; clear C2; obtain ⟨q0, q1, q2, q3, p0, p1, p2, p3⟩ := X2.out.cells))
  obtain ⟨U, hU⟩ : ∃ U, (((w2.setCell ⟨W.heap.size, 0, none⟩ (.int .i64 6)).setCell ⟨W.heap.size, 1, none⟩ (.int .i64 (y2 : Int))).setCell ⟨W.heap.size, 2, none⟩ (.string ⟨#[]⟩)).setCell ⟨W.heap.size, 3, none⟩ (.slice none 0 0) = U := ⟨_, rfl⟩
  rw [hU]
  obtain ⟨f1, f2, f3, f4⟩ := X2.out.fin 6 (y2 : Int) ⟨#[]⟩ (.slice none 0 0) (Nw.leaf _ _ _ _ _ (by decide)) hU
  refine bodyPost_ret (ret_N rfl _ rfl f1) rfl ?_
  exact ⟨_, rfl, f2, f3, by first | omega | (simp only [eb] at *; omega), f4⟩

set_option maxRecDepth 100000 in
set_option maxHeartbeats 40000000 in
theorem stL_9 (L : List Int) (sub : TY.Gen) (W : World) (lo b i : Nat) (hs : SrcV W lo b L i) (hi : i + 100 ≤ 1000000000) (hk : TY.nxt L i 13 = 9) :
    Calls Try.prog 44 #[.pointer (some ⟨b, 0, none⟩), .int .i64 0] W fun r w' => ∃ v, r = .returned v ∧ Nw W.heap.size w' (TY.stF L false sub i).1 v ∧ SrcV w' lo b L (TY.stF L false sub i).2 ∧ (TY.stF L false sub i).2 ≤ i + 100 ∧ Chg (· = b) W w' := by
  obtain ⟨W0, hW0⟩ : ∃ U, W.alloc (.cells #[.int .i64 0, .int .i64 0, .string ⟨#[]⟩, .slice none 0 0] 25) = U := ⟨_, rfl⟩
  have X0 : Ex W W0 lo b L i := hW0 ▸ Ex.begin hs
  have N1 := Lib.hid (nx X0 (by omega) 13 9 13 (by decide) (by decide) rfl hk)
  have HW0 := Lib.hid hW0
  clear hs hW0 X0
  have hG : TY.stF L false sub i = (.mk 7 0 TY.eps [], i + 1) := by
    unfold TY.stF
    simp [hk]
  rw [hG]
  clear hG hk
  go_enter Try.func44, Try.ntmps44
  go_wp2_with (first
    | (rw [HW0.out]; go_at_call 31; refine N1.out.mono ?_; clear N1; rintro e w1 ⟨rfl, X1, C1⟩; replace X1 := Lib.hid X1; clear C1; obtain ⟨q0, q1, q2, q3, p0, p1, p2, p3⟩ := X1.out.cells))
  obtain ⟨U, hU⟩ : ∃ U, (((w1.setCell ⟨W.heap.size, 0, none⟩ (.int .i64 7)).setCell ⟨W.heap.size, 1, none⟩ (.int .i64 0)).setCell ⟨W.heap.size, 2, none⟩ (.string ⟨#[]⟩)).setCell ⟨W.heap.size, 3, none⟩ (.slice none 0 0) = U := ⟨_, rfl⟩
  rw [hU]
  obtain ⟨f1, f2, f3, f4⟩ := X1.out.fin 7 0 ⟨#[]⟩ (.slice none 0 0) (Nw.leaf _ _ _ _ _ (by decide)) hU
  refine bodyPost_ret (ret_N rfl _ rfl f1) rfl ?_
  exact ⟨_, rfl, f2, f3, by first | omega | (simp only [eb] at *; omega), f4⟩

set_option maxRecDepth 100000 in
set_option maxHeartbeats 40000000 in
theorem stL_10 (L : List Int) (sub : TY.Gen) (W : World) (lo b i : Nat) (hs : SrcV W lo b L i) (hi : i + 100 ≤ 1000000000) (hk : TY.nxt L i 13 = 10) :
    Calls Try.prog 44 #[.pointer (some ⟨b, 0, none⟩), .int .i64 0] W fun r w' => ∃ v, r = .returned v ∧ Nw W.heap.size w' (TY.stF L false sub i).1 v ∧ SrcV w' lo b L (TY.stF L false sub i).2 ∧ (TY.stF L false sub i).2 ≤ i + 100 ∧ Chg (· = b) W w' := by
  obtain ⟨W0, hW0⟩ : ∃ U, W.alloc (.cells #[.int .i64 0, .int .i64 0, .string ⟨#[]⟩, .slice none 0 0] 25) = U := ⟨_, rfl⟩
  have X0 : Ex W W0 lo b L i := hW0 ▸ Ex.begin hs
  have N1 := Lib.hid (nx X0 (by omega) 13 10 13 (by decide) (by decide) rfl hk)
  have HW0 := Lib.hid hW0
  clear hs hW0 X0
  have hG : TY.stF L false sub i = (.mk 10 0 TY.eps [], i + 1) := by
    unfold TY.stF
    simp [hk]
  rw [hG]
  clear hG hk
  go_enter Try.func44, Try.ntmps44
  go_wp2_with (first
    | (rw [HW0.out]; go_at_call 31; refine N1.out.mono ?_; clear N1; rintro e w1 ⟨rfl, X1, C1⟩; replace X1 := Lib.hid X1; clear C1; obtain ⟨q0, q1, q2, q3, p0, p1, p2, p3⟩ := X1.out.cells))
  obtain ⟨U, hU⟩ : ∃ U, (((w1.setCell ⟨W.heap.size, 0, none⟩ (.int .i64 10)).setCell ⟨W.heap.size, 1, none⟩ (.int .i64 0)).setCell ⟨W.heap.size, 2, none⟩ (.string ⟨#[]⟩)).setCell ⟨W.heap.size, 3, none⟩ (.slice none 0 0) = U := ⟨_, rfl⟩
  rw [hU]
  obtain ⟨f1, f2, f3, f4⟩ := X1.out.fin 10 0 ⟨#[]⟩ (.slice none 0 0) (Nw.leaf _ _ _ _ _ (by decide)) hU
  refine bodyPost_ret (ret_N rfl _ rfl f1) rfl ?_
  exact ⟨_, rfl, f2, f3, by first | omega | (simp only [eb] at *; omega), f4⟩

set_option maxRecDepth 100000 in
set_option maxHeartbeats 40000000 in
theorem stL_11 (L : List Int) (sub : TY.Gen) (W : World) (lo b i : Nat) (hs : SrcV W lo b L i) (hi : i + 100 ≤ 1000000000) (hk : TY.nxt L i 13 = 11) :
    Calls Try.prog 44 #[.pointer (some ⟨b, 0, none⟩), .int .i64 0] W fun r w' => ∃ v, r = .returned v ∧ Nw W.heap.size w' (TY.stF L false sub i).1 v ∧ SrcV w' lo b L (TY.stF L false sub i).2 ∧ (TY.stF L false sub i).2 ≤ i + 100 ∧ Chg (· = b) W w' := by
  obtain ⟨W0, hW0⟩ : ∃ U, W.alloc (.cells #[.int .i64 0, .int .i64 0, .string ⟨#[]⟩, .slice none 0 0] 25) = U := ⟨_, rfl⟩
  have X0 : Ex W W0 lo b L i := hW0 ▸ Ex.begin hs
  have N1 := Lib.hid (nx X0 (by omega) 13 11 13 (by decide) (by decide) rfl hk)
  have HW0 := Lib.hid hW0
  clear hs hW0 X0
  obtain ⟨y2, hy2⟩ : ∃ y, TY.nxt L (i + 1) 10 = y := ⟨_, rfl⟩
  have hz2 : y2 < 10 := hy2 ▸ TY.nxt_lt _ _ (by decide)
  have N2 := Lib.hid (fun V (h : Ex W V lo b L (i + 1)) => nx h (by omega) 10 y2 10 (by decide) (by decide) rfl hy2)
  have N3 := Lib.hid (fun V => nameY y2 hz2 V)
  have hzs := name_small y2
  obtain ⟨z, hzz⟩ : ∃ z, TY.vName y2 = z := ⟨_, rfl⟩
  rw [hzz] at N3 hzs
  obtain ⟨⟨t4, j4⟩, h4⟩ : ∃ p, TY.genE L 3 1 (i + 2) = p := ⟨_, rfl⟩
  have S4 := Lib.hid (fun V (h : Ex W V lo b L (i + 2)) => sb (d := 3) (expr_any L 3 (by decide)) h (by first | omega | (simp only [eb] at *; omega)) 1 1 rfl (by decide) h4)
  have hG : TY.stF L false sub i = (.mk 1 0 z [t4], j4) := by
    unfold TY.stF
    simp [hk, hy2, h4, hzz]
  rw [hG]
  clear hG hk hy2 h4 hzz
  go_enter Try.func44, Try.ntmps44
  go_wp2_with (first
    | (rw [HW0.out]; go_at_call 31; refine N1.out.mono ?_; clear N1; rintro e w1 ⟨rfl, X1, C1⟩; replace X1 := Lib.hid X1; clear C1)
    | (go_at_call 31; refine (N2.out _ X1.out).mono ?_; clear N2; rintro e w2 ⟨rfl, X2, C2⟩; replace X2 := Lib.hid X2; clear C2)
    | (go_at_call 25; refine (N3.out _).mono ?_; clear N3; rintro e w3 ⟨rfl, rfl⟩)
    | (go_at_call 30; refine (S4.out _ X2.out).mono ?_; clear S4; rintro r w4 ⟨k4, n4, s4, A4, m4, c4, rfl, V4, X4, B4, C4⟩; replace X4 := Lib.hid X4; replace V4 := Lib.hid V4; replace C4 := Lib.hid C4; obtain ⟨q0, q1, q2, q3, p0, p1, p2, p3⟩ := (X4.out.alloc (.cells #[.int .i64 k4, .int .i64 n4, .string s4, .slice A4 m4 c4] 25)).cells))
  obtain ⟨U, hU⟩ : ∃ U, ((((w4.alloc (.cells #[.int .i64 k4, .int .i64 n4, .string s4, .slice A4 m4 c4] 25)).setCell ⟨W.heap.size, 0, none⟩ (.int .i64 1)).setCell ⟨W.heap.size, 1, none⟩ (.int .i64 0)).setCell ⟨W.heap.size, 2, none⟩ (.string z)).setCell ⟨W.heap.size, 3, none⟩ (.slice (some ⟨w4.heap.size, 0, none⟩) 1 1) = U := ⟨_, rfl⟩
  rw [hU]
  have hbig4 := X4.out.big
  have hbig := X2.out.big
  have hblt := X4.out.lt
  have hsz4 := C4.out.size
  obtain ⟨f1, f2, f3, f4⟩ := (X4.out.alloc (.cells #[.int .i64 k4, .int .i64 n4, .string s4, .slice A4 m4 c4] 25)).fin 1 0 z (.slice (some ⟨w4.heap.size, 0, none⟩) 1 1) (Nw.one hbig4 hzs (V4.out.lower hbig)) hU
  refine bodyPost_ret (ret_N rfl _ rfl f1) rfl ?_
  exact ⟨_, rfl, f2, f3, by first | omega | (simp only [eb] at *; omega), f4⟩

set_option maxRecDepth 100000 in
set_option maxHeartbeats 40000000 in
theorem stL_12 (L : List Int) (sub : TY.Gen) (W : World) (lo b i : Nat) (hs : SrcV W lo b L i) (hi : i + 100 ≤ 1000000000) (hk : TY.nxt L i 13 = 12) :
    Calls Try.prog 44 #[.pointer (some ⟨b, 0, none⟩), .int .i64 0] W fun r w' => ∃ v, r = .returned v ∧ Nw W.heap.size w' (TY.stF L false sub i).1 v ∧ SrcV w' lo b L (TY.stF L false sub i).2 ∧ (TY.stF L false sub i).2 ≤ i + 100 ∧ Chg (· = b) W w' := by
  obtain ⟨W0, hW0⟩ : ∃ U, W.alloc (.cells #[.int .i64 0, .int .i64 0, .string ⟨#[]⟩, .slice none 0 0] 25) = U := ⟨_, rfl⟩
  have X0 : Ex W W0 lo b L i := hW0 ▸ Ex.begin hs
  have N1 := Lib.hid (nx X0 (by omega) 13 12 13 (by decide) (by decide) rfl hk)
  have HW0 := Lib.hid hW0
  clear hs hW0 X0
  obtain ⟨y2, hy2⟩ : ∃ y, TY.nxt L (i + 1) 10 = y := ⟨_, rfl⟩
  have hz2 : y2 < 10 := hy2 ▸ TY.nxt_lt _ _ (by decide)
  have N2 := Lib.hid (fun V (h : Ex W V lo b L (i + 1)) => nx h (by omega) 10 y2 10 (by decide) (by decide) rfl hy2)
  have N3 := Lib.hid (fun V => nameY y2 hz2 V)
  have hzs := name_small y2
  obtain ⟨z, hzz⟩ : ∃ z, TY.vName y2 = z := ⟨_, rfl⟩
  rw [hzz] at N3 hzs
  obtain ⟨⟨t4, j4⟩, h4⟩ : ∃ p, TY.genE L 3 1 (i + 2) = p := ⟨_, rfl⟩
  have S4 := Lib.hid (fun V (h : Ex W V lo b L (i + 2)) => sb (d := 3) (expr_any L 3 (by decide)) h (by first | omega | (simp only [eb] at *; omega)) 1 1 rfl (by decide) h4)
  have hG : TY.stF L false sub i = (.mk 1 0 z [t4], j4) := by
    unfold TY.stF
    simp [hk, hy2, h4, hzz]
  rw [hG]
  clear hG hk hy2 h4 hzz
  go_enter Try.func44, Try.ntmps44
  go_wp2_with (first
    | (rw [HW0.out]; go_at_call 31; refine N1.out.mono ?_; clear N1; rintro e w1 ⟨rfl, X1, C1⟩; replace X1 := Lib.hid X1; clear C1)
    | (go_at_call 31; refine (N2.out _ X1.out).mono ?_; clear N2; rintro e w2 ⟨rfl, X2, C2⟩; replace X2 := Lib.hid X2; clear C2)
    | (go_at_call 25; refine (N3.out _).mono ?_; clear N3; rintro e w3 ⟨rfl, rfl⟩)
    | (go_at_call 30; refine (S4.out _ X2.out).mono ?_; clear S4; rintro r w4 ⟨k4, n4, s4, A4, m4, c4, rfl, V4, X4, B4, C4⟩; replace X4 := Lib.hid X4; replace V4 := Lib.hid V4; replace C4 := Lib.hid C4; obtain ⟨q0, q1, q2, q3, p0, p1, p2, p3⟩ := (X4.out.alloc (.cells #[.int .i64 k4, .int .i64 n4, .string s4, .slice A4 m4 c4] 25)).cells))
  obtain ⟨U, hU⟩ : ∃ U, ((((w4.alloc (.cells #[.int .i64 k4, .int .i64 n4, .string s4, .slice A4 m4 c4] 25)).setCell ⟨W.heap.size, 0, none⟩ (.int .i64 1)).setCell ⟨W.heap.size, 1, none⟩ (.int .i64 0)).setCell ⟨W.heap.size, 2, none⟩ (.string z)).setCell ⟨W.heap.size, 3, none⟩ (.slice (some ⟨w4.heap.size, 0, none⟩) 1 1) = U := ⟨_, rfl⟩
  rw [hU]
  have hbig4 := X4.out.big
  have hbig := X2.out.big
  have hblt := X4.out.lt
  have hsz4 := C4.out.size
  obtain ⟨f1, f2, f3, f4⟩ := (X4.out.alloc (.cells #[.int .i64 k4, .int .i64 n4, .string s4, .slice A4 m4 c4] 25)).fin 1 0 z (.slice (some ⟨w4.heap.size, 0, none⟩) 1 1) (Nw.one hbig4 hzs (V4.out.lower hbig)) hU
  refine bodyPost_ret (ret_N rfl _ rfl f1) rfl ?_
  exact ⟨_, rfl, f2, f3, by first | omega | (simp only [eb] at *; omega), f4⟩

set_option maxRecDepth 100000 in
set_option maxHeartbeats 40000000 in
theorem stM_0 (L : List Int) (D : Nat) (sub : TY.Gen) (e : Nat) (hD : 1 ≤ D) (hD2 : D ≤ 100) (W : World) (lo b i : Nat) (hs : SrcV W lo b L i) (hi : i + (100 + 2 * e) ≤ 1000000000) (hk : TY.nxt L i 13 = 0) :
    Calls Try.prog 44 #[.pointer (some ⟨b, 0, none⟩), .int .i64 ((D : Nat) : Int)] W fun r w' => ∃ v, r = .returned v ∧ Nw W.heap.size w' (TY.stF L true sub i).1 v ∧ SrcV w' lo b L (TY.stF L true sub i).2 ∧ (TY.stF L true sub i).2 ≤ i + (100 + 2 * e) ∧ Chg (· = b) W w' := by
  obtain ⟨W0, hW0⟩ : ∃ U, W.alloc (.cells #[.int .i64 0, .int .i64 0, .string ⟨#[]⟩, .slice none 0 0] 25) = U := ⟨_, rfl⟩
  have X0 : Ex W W0 lo b L i := hW0 ▸ Ex.begin hs
  have N1 := Lib.hid (nx X0 (by omega) 13 0 13 (by decide) (by decide) rfl hk)
  have HW0 := Lib.hid hW0
  clear hs hW0 X0
  have hd1 : decide ((D : Int) < 1) = false := by rw [decide_eq_false_iff_not]; omega
  obtain ⟨y2, hy2⟩ : ∃ y, TY.nxt L (i + 1) 10 = y := ⟨_, rfl⟩
  have hz2 : y2 < 10 := hy2 ▸ TY.nxt_lt _ _ (by decide)
  have N2 := Lib.hid (fun V (h : Ex W V lo b L (i + 1)) => nx h (by omega) 10 y2 10 (by decide) (by decide) rfl hy2)
  have N3 := Lib.hid (fun V => nameY y2 hz2 V)
  have hzs := name_small y2
  obtain ⟨z, hzz⟩ : ∃ z, TY.vName y2 = z := ⟨_, rfl⟩
  rw [hzz] at N3 hzs
  obtain ⟨⟨t4, j4⟩, h4⟩ : ∃ p, TY.genE L 3 1 (i + 2) = p := ⟨_, rfl⟩
  have S4 := Lib.hid (fun V (h : Ex W V lo b L (i + 2)) => sb (d := 3) (expr_any L 3 (by decide)) h (by first | omega | (simp only [eb] at *; omega)) 1 1 rfl (by decide) h4)
  have hG : TY.stF L true sub i = (.mk 1 0 z [t4], j4) := by
    unfold TY.stF
    simp [hk, hy2, h4, hzz]
  rw [hG]
  clear hG hk hy2 h4 hzz
  go_enter Try.func44, Try.ntmps44
  go_wp2_with (first
    | (rw [HW0.out]; go_at_call 31; refine N1.out.mono ?_; clear N1; rintro e w1 ⟨rfl, X1, C1⟩; replace X1 := Lib.hid X1; clear C1)
    | (go_at_call 31; refine (N2.out _ X1.out).mono ?_; clear N2; rintro e w2 ⟨rfl, X2, C2⟩; replace X2 := Lib.hid X2; clear C2)
    | (go_at_call 25; refine (N3.out _).mono ?_; clear N3; rintro e w3 ⟨rfl, rfl⟩)
    | (go_at_call 30; refine (S4.out _ X2.out).mono ?_; clear S4; rintro r w4 ⟨k4, n4, s4, A4, m4, c4, rfl, V4, X4, B4, C4⟩; replace X4 := Lib.hid X4; replace V4 := Lib.hid V4; replace C4 := Lib.hid C4; obtain ⟨q0, q1, q2, q3, p0, p1, p2, p3⟩ := (X4.out.alloc (.cells #[.int .i64 k4, .int .i64 n4, .string s4, .slice A4 m4 c4] 25)).cells))
  obtain ⟨U, hU⟩ : ∃ U, ((((w4.alloc (.cells #[.int .i64 k4, .int .i64 n4, .string s4, .slice A4 m4 c4] 25)).setCell ⟨W.heap.size, 0, none⟩ (.int .i64 1)).setCell ⟨W.heap.size, 1, none⟩ (.int .i64 0)).setCell ⟨W.heap.size, 2, none⟩ (.string z)).setCell ⟨W.heap.size, 3, none⟩ (.slice (some ⟨w4.heap.size, 0, none⟩) 1 1) = U := ⟨_, rfl⟩
  rw [hU]
  have hbig4 := X4.out.big
  have hbig := X2.out.big
  have hblt := X4.out.lt
  have hsz4 := C4.out.size
  obtain ⟨f1, f2, f3, f4⟩ := (X4.out.alloc (.cells #[.int .i64 k4, .int .i64 n4, .string s4, .slice A4 m4 c4] 25)).fin 1 0 z (.slice (some ⟨w4.heap.size, 0, none⟩) 1 1) (Nw.one hbig4 hzs (V4.out.lower hbig)) hU
  refine bodyPost_ret (ret_N rfl _ rfl f1) rfl ?_
  exact ⟨_, rfl, f2, f3, by first | omega | (simp only [eb] at *; omega), f4⟩

set_option maxRecDepth 100000 in
set_option maxHeartbeats 40000000 in
theorem stM_1 (L : List Int) (D : Nat) (sub : TY.Gen) (e : Nat) (hD : 1 ≤ D) (hD2 : D ≤ 100) (W : World) (lo b i : Nat) (hs : SrcV W lo b L i) (hi : i + (100 + 2 * e) ≤ 1000000000) (hk : TY.nxt L i 13 = 1) :
    Calls Try.prog 44 #[.pointer (some ⟨b, 0, none⟩), .int .i64 ((D : Nat) : Int)] W fun r w' => ∃ v, r = .returned v ∧ Nw W.heap.size w' (TY.stF L true sub i).1 v ∧ SrcV w' lo b L (TY.stF L true sub i).2 ∧ (TY.stF L true sub i).2 ≤ i + (100 + 2 * e) ∧ Chg (· = b) W w' := by
  obtain ⟨W0, hW0⟩ : ∃ U, W.alloc (.cells #[.int .i64 0, .int .i64 0, .string ⟨#[]⟩, .slice none 0 0] 25) = U := ⟨_, rfl⟩
  have X0 : Ex W W0 lo b L i := hW0 ▸ Ex.begin hs
  have N1 := Lib.hid (nx X0 (by omega) 13 1 13 (by decide) (by decide) rfl hk)
  have HW0 := Lib.hid hW0
  clear hs hW0 X0
  have hd1 : decide ((D : Int) < 1) = false := by rw [decide_eq_false_iff_not]; omega
  obtain ⟨y2, hy2⟩ : ∃ y, TY.nxt L (i + 1) 10 = y := ⟨_, rfl⟩
  have hz2 : y2 < 10 := hy2 ▸ TY.nxt_lt _ _ (by decide)
  have N2 := Lib.hid (fun V (h : Ex W V lo b L (i + 1)) => nx h (by omega) 10 y2 10 (by decide) (by decide) rfl hy2)
  have N3 := Lib.hid (fun V => nameY y2 hz2 V)
  have hzs := name_small y2
  obtain ⟨z, hzz⟩ : ∃ z, TY.vName y2 = z := ⟨_, rfl⟩
  rw [hzz] at N3 hzs
  obtain ⟨⟨t4, j4⟩, h4⟩ : ∃ p, TY.genE L 3 1 (i + 2) = p := ⟨_, rfl⟩
  have S4 := Lib.hid (fun V (h : Ex W V lo b L (i + 2)) => sb (d := 3) (expr_any L 3 (by decide)) h (by first | omega | (simp only [eb] at *; omega)) 1 1 rfl (by decide) h4)
  have hG : TY.stF L true sub i = (.mk 1 0 z [t4], j4) := by
    unfold TY.stF
    simp [hk, hy2, h4, hzz]
  rw [hG]
  clear hG hk hy2 h4 hzz
  go_enter Try.func44, Try.ntmps44
  go_wp2_with (first
    | (rw [HW0.out]; go_at_call 31; refine N1.out.mono ?_; clear N1; rintro e w1 ⟨rfl, X1, C1⟩; replace X1 := Lib.hid X1; clear C1)
    | (go_at_call 31; refine (N2.out _ X1.out).mono ?_; clear N2; rintro e w2 ⟨rfl, X2, C2⟩; replace X2 := Lib.hid X2; clear C2)
    | (go_at_call 25; refine (N3.out _).mono ?_; clear N3; rintro e w3 ⟨rfl, rfl⟩)
    | (go_at_call 30; refine (S4.out _ X2.out).mono ?_; clear S4; rintro r w4 ⟨k4, n4, s4, A4, m4, c4, rfl, V4, X4, B4, C4⟩; replace X4 := Lib.hid X4; replace V4 := Lib.hid V4; replace C4 := Lib.hid C4; obtain ⟨q0, q1, q2, q3, p0, p1, p2, p3⟩ := (X4.out.alloc (.cells #[.int .i64 k4, .int .i64 n4, .string s4, .slice A4 m4 c4] 25)).cells))
  obtain ⟨U, hU⟩ : ∃ U, ((((w4.alloc (.cells #[.int .i64 k4, .int .i64 n4, .string s4, .slice A4 m4 c4] 25)).setCell ⟨W.heap.size, 0, none⟩ (.int .i64 1)).setCell ⟨W.heap.size, 1, none⟩ (.int .i64 0)).setCell ⟨W.heap.size, 2, none⟩ (.string z)).setCell ⟨W.heap.size, 3, none⟩ (.slice (some ⟨w4.heap.size, 0, none⟩) 1 1) = U := ⟨_, rfl⟩
  rw [hU]
  have hbig4 := X4.out.big
  have hbig := X2.out.big
  have hblt := X4.out.lt
  have hsz4 := C4.out.size
  obtain ⟨f1, f2, f3, f4⟩ := (X4.out.alloc (.cells #[.int .i64 k4, .int .i64 n4, .string s4, .slice A4 m4 c4] 25)).fin 1 0 z (.slice (some ⟨w4.heap.size, 0, none⟩) 1 1) (Nw.one hbig4 hzs (V4.out.lower hbig)) hU
  refine bodyPost_ret (ret_N rfl _ rfl f1) rfl ?_
  exact ⟨_, rfl, f2, f3, by first | omega | (simp only [eb] at *; omega), f4⟩

set_option maxRecDepth 100000 in
set_option maxHeartbeats 40000000 in
theorem stM_2 (L : List Int) (D : Nat) (sub : TY.Gen) (e : Nat) (hD : 1 ≤ D) (hD2 : D ≤ 100) (W : World) (lo b i : Nat) (hs : SrcV W lo b L i) (hi : i + (100 + 2 * e) ≤ 1000000000) (hk : TY.nxt L i 13 = 2) :
    Calls Try.prog 44 #[.pointer (some ⟨b, 0, none⟩), .int .i64 ((D : Nat) : Int)] W fun r w' => ∃ v, r = .returned v ∧ Nw W.heap.size w' (TY.stF L true sub i).1 v ∧ SrcV w' lo b L (TY.stF L true sub i).2 ∧ (TY.stF L true sub i).2 ≤ i + (100 + 2 * e) ∧ Chg (· = b) W w' := by
  obtain ⟨W0, hW0⟩ : ∃ U, W.alloc (.cells #[.int .i64 0, .int .i64 0, .string ⟨#[]⟩, .slice none 0 0] 25) = U := ⟨_, rfl⟩
  have X0 : Ex W W0 lo b L i := hW0 ▸ Ex.begin hs
  have N1 := Lib.hid (nx X0 (by omega) 13 2 13 (by decide) (by decide) rfl hk)
  have HW0 := Lib.hid hW0
  clear hs hW0 X0
  have hd1 : decide ((D : Int) < 1) = false := by rw [decide_eq_false_iff_not]; omega
  obtain ⟨y2, hy2⟩ : ∃ y, TY.nxt L (i + 1) 10 = y := ⟨_, rfl⟩
  have hz2 : y2 < 10 := hy2 ▸ TY.nxt_lt _ _ (by decide)
  have N2 := Lib.hid (fun V (h : Ex W V lo b L (i + 1)) => nx h (by omega) 10 y2 10 (by decide) (by decide) rfl hy2)
  have N3 := Lib.hid (fun V => nameY y2 hz2 V)
  have hzs := name_small y2
  obtain ⟨z, hzz⟩ : ∃ z, TY.vName y2 = z := ⟨_, rfl⟩
  rw [hzz] at N3 hzs
  obtain ⟨⟨t4, j4⟩, h4⟩ : ∃ p, TY.genE L 3 1 (i + 2) = p := ⟨_, rfl⟩
  have S4 := Lib.hid (fun V (h : Ex W V lo b L (i + 2)) => sb (d := 3) (expr_any L 3 (by decide)) h (by first | omega | (simp only [eb] at *; omega)) 1 1 rfl (by decide) h4)
  have hG : TY.stF L true sub i = (.mk 1 0 z [t4], j4) := by
    unfold TY.stF
    simp [hk, hy2, h4, hzz]
  rw [hG]
  clear hG hk hy2 h4 hzz
  go_enter Try.func44, Try.ntmps44
  go_wp2_with (first
    | (rw [HW0.out]; go_at_call 31; refine N1.out.mono ?_; clear N1; rintro e w1 ⟨rfl, X1, C1⟩; replace X1 := Lib.hid X1; clear C1)
    | (go_at_call 31; refine (N2.out _ X1.out).mono ?_; clear N2; rintro e w2 ⟨rfl, X2, C2⟩; replace X2 := Lib.hid X2; clear C2)
    | (go_at_call 25; refine (N3.out _).mono ?_; clear N3; rintro e w3 ⟨rfl, rfl⟩)
    | (go_at_call 30; refine (S4.out _ X2.out).mono ?_; clear S4; rintro r w4 ⟨k4, n4, s4, A4, m4, c4, rfl, V4, X4, B4, C4⟩; replace X4 := Lib.hid X4; replace V4 := Lib.hid V4; replace C4 := Lib.hid C4; obtain ⟨q0, q1, q2, q3, p0, p1, p2, p3⟩ := (X4.out.alloc (.cells #[.int .i64 k4, .int .i64 n4, .string s4, .slice A4 m4 c4] 25)).cells))
  obtain ⟨U, hU⟩ : ∃ U, ((((w4.alloc (.cells #[.int .i64 k4, .int .i64 n4, .string s4, .slice A4 m4 c4] 25)).setCell ⟨W.heap.size, 0, none⟩ (.int .i64 1)).setCell ⟨W.heap.size, 1, none⟩ (.int .i64 0)).setCell ⟨W.heap.size, 2, none⟩ (.string z)).setCell ⟨W.heap.size, 3, none⟩ (.slice (some ⟨w4.heap.size, 0, none⟩) 1 1) = U := ⟨_, rfl⟩
  rw [hU]
  have hbig4 := X4.out.big
  have hbig := X2.out.big
  have hblt := X4.out.lt
  have hsz4 := C4.out.size
  obtain ⟨f1, f2, f3, f4⟩ := (X4.out.alloc (.cells #[.int .i64 k4, .int .i64 n4, .string s4, .slice A4 m4 c4] 25)).fin 1 0 z (.slice (some ⟨w4.heap.size, 0, none⟩) 1 1) (Nw.one hbig4 hzs (V4.out.lower hbig)) hU
  refine bodyPost_ret (ret_N rfl _ rfl f1) rfl ?_
  exact ⟨_, rfl, f2, f3, by first | omega | (simp only [eb] at *; omega), f4⟩

set_option maxRecDepth 100000 in
set_option maxHeartbeats 40000000 in
theorem stM_3 (L : List Int) (D : Nat) (sub : TY.Gen) (e : Nat) (hD : 1 ≤ D) (hD2 : D ≤ 100) (W : World) (lo b i : Nat) (hs : SrcV W lo b L i) (hi : i + (100 + 2 * e) ≤ 1000000000) (hk : TY.nxt L i 13 = 3) :
    Calls Try.prog 44 #[.pointer (some ⟨b, 0, none⟩), .int .i64 ((D : Nat) : Int)] W fun r w' => ∃ v, r = .returned v ∧ Nw W.heap.size w' (TY.stF L true sub i).1 v ∧ SrcV w' lo b L (TY.stF L true sub i).2 ∧ (TY.stF L true sub i).2 ≤ i + (100 + 2 * e) ∧ Chg (· = b) W w' := by
  obtain ⟨W0, hW0⟩ : ∃ U, W.alloc (.cells #[.int .i64 0, .int .i64 0, .string ⟨#[]⟩, .slice none 0 0] 25) = U := ⟨_, rfl⟩
  have X0 : Ex W W0 lo b L i := hW0 ▸ Ex.begin hs
  have N1 := Lib.hid (nx X0 (by omega) 13 3 13 (by decide) (by decide) rfl hk)
  have HW0 := Lib.hid hW0
  clear hs hW0 X0
  have hd1 : decide ((D : Int) < 1) = false := by rw [decide_eq_false_iff_not]; omega
  obtain ⟨y2, hy2⟩ : ∃ y, TY.nxt L (i + 1) 30 = y := ⟨_, rfl⟩
  have N2 := Lib.hid (fun V (h : Ex W V lo b L (i + 1)) => nx h (by omega) 30 y2 30 (by decide) (by decide) rfl hy2)
  obtain ⟨⟨t3, j3⟩, h3⟩ : ∃ p, TY.genE L 2 1 (i + 2) = p := ⟨_, rfl⟩
  have S3 := Lib.hid (fun V (h : Ex W V lo b L (i + 2)) => sb (d := 2) (expr_any L 2 (by decide)) h (by first | omega | (simp only [eb] at *; omega)) 1 1 rfl (by decide) h3)
  obtain ⟨⟨t4, j4⟩, h4⟩ : ∃ p, TY.genE L 2 1 j3 = p := ⟨_, rfl⟩
  have S4 := Lib.hid (fun V (h : Ex W V lo b L j3) (B3 : j3 ≤ (i + 2) + eb 2) => sb (d := 2) (expr_any L 2 (by decide)) h (by first | omega | (simp only [eb] at *; omega)) 1 1 rfl (by decide) h4)
  obtain ⟨⟨t5, j5⟩, h5⟩ : ∃ p, TY.genE L 1 1 j4 = p := ⟨_, rfl⟩
  have S5 := Lib.hid (fun V (h : Ex W V lo b L j4) (B3 : j3 ≤ (i + 2) + eb 2) (B4 : j4 ≤ j3 + eb 2) => sb (d := 1) (expr_any L 1 (by decide)) h (by first | omega | (simp only [eb] at *; omega)) 1 1 rfl (by decide) h5)
  have hG : TY.stF L true sub i = (.mk 4 (y2 : Int) TY.eps [t3, t4, t5], j5) := by
    unfold TY.stF
    simp [hk, hy2, h3, h4, h5]
  rw [hG]
  clear hG hk hy2 h3 h4 h5
  go_enter Try.func44, Try.ntmps44
  go_wp2_with (first
    | (rw [HW0.out]; go_at_call 31; refine N1.out.mono ?_; clear N1; rintro e w1 ⟨rfl, X1, C1⟩; replace X1 := Lib.hid X1; clear C1)
    | (go_at_call 31; refine (N2.out _ X1.out).mono ?_; clear N2; rintro e w2 ⟨rfl, X2, C2⟩; replace X2 := Lib.hid X2; clear C2)
    | (go_at_call 30; refine (S3.out _ X2.out).mono ?_; clear S3; rintro r w3 ⟨k3, n3, s3, A3, m3, c3, rfl, V3, X3, B3, C3⟩; replace X3 := Lib.hid X3; replace V3 := Lib.hid V3; replace C3 := Lib.hid C3)
    | (go_at_call 30; refine (S4.out _ X3.out B3).mono ?_; clear S4; rintro r w4 ⟨k4, n4, s4, A4, m4, c4, rfl, V4, X4, B4, C4⟩; replace X4 := Lib.hid X4; replace V4 := Lib.hid V4; replace C4 := Lib.hid C4)
    | (go_at_call 30; refine (S5.out _ X4.out B3 B4).mono ?_; clear S5; rintro r w5 ⟨k5, n5, s5, A5, m5, c5, rfl, V5, X5, B5, C5⟩; replace X5 := Lib.hid X5; replace V5 := Lib.hid V5; replace C5 := Lib.hid C5; obtain ⟨q0, q1, q2, q3, p0, p1, p2, p3⟩ := (X5.out.alloc (.cells #[.int .i64 k3, .int .i64 n3, .string s3, .slice A3 m3 c3, .int .i64 k4, .int .i64 n4, .string s4, .slice A4 m4 c4, .int .i64 k5, .int .i64 n5, .string s5, .slice A5 m5 c5] 25)).cells))
  obtain ⟨U, hU⟩ : ∃ U, ((((w5.alloc (.cells #[.int .i64 k3, .int .i64 n3, .string s3, .slice A3 m3 c3, .int .i64 k4, .int .i64 n4, .string s4, .slice A4 m4 c4, .int .i64 k5, .int .i64 n5, .string s5, .slice A5 m5 c5] 25)).setCell ⟨W.heap.size, 0, none⟩ (.int .i64 4)).setCell ⟨W.heap.size, 1, none⟩ (.int .i64 (y2 : Int))).setCell ⟨W.heap.size, 2, none⟩ (.string ⟨#[]⟩)).setCell ⟨W.heap.size, 3, none⟩ (.slice (some ⟨w5.heap.size, 0, none⟩) 3 3) = U := ⟨_, rfl⟩
  rw [hU]
  have hbig3 := X3.out.big
  have hbig4 := X4.out.big
  have hbig5 := X5.out.big
  have hbig := X2.out.big
  have hblt := X5.out.lt
  have hsz3 := C3.out.size
  have hsz4 := C4.out.size
  have hsz5 := C5.out.size
  obtain ⟨f1, f2, f3, f4⟩ := (X5.out.alloc (.cells #[.int .i64 k3, .int .i64 n3, .string s3, .slice A3 m3 c3, .int .i64 k4, .int .i64 n4, .string s4, .slice A4 m4 c4, .int .i64 k5, .int .i64 n5, .string s5, .slice A5 m5 c5] 25)).fin 4 (y2 : Int) ⟨#[]⟩ (.slice (some ⟨w5.heap.size, 0, none⟩) 3 3) (Nw.three hbig3 (Nat.le_refl _) hsz4 (Nat.le_refl _) hsz5 (by decide) (V3.out.lower hbig) (fun g _ hc => (C5.out.block g (by omega) (by omega)).trans (C4.out.block g hc (by omega))) V4.out (fun g _ hc => C5.out.block g hc (by omega)) V5.out) hU
  refine bodyPost_ret (ret_N rfl _ rfl f1) rfl ?_
  exact ⟨_, rfl, f2, f3, by first | omega | (simp only [eb] at *; omega), f4⟩

set_option maxRecDepth 100000 in
set_option maxHeartbeats 40000000 in
theorem stM_4 (L : List Int) (D : Nat) (sub : TY.Gen) (e : Nat) (hD : 1 ≤ D) (hD2 : D ≤ 100) (W : World) (lo b i : Nat) (hs : SrcV W lo b L i) (hi : i + (100 + 2 * e) ≤ 1000000000) (hk : TY.nxt L i 13 = 4) :
    Calls Try.prog 44 #[.pointer (some ⟨b, 0, none⟩), .int .i64 ((D : Nat) : Int)] W fun r w' => ∃ v, r = .returned v ∧ Nw W.heap.size w' (TY.stF L true sub i).1 v ∧ SrcV w' lo b L (TY.stF L true sub i).2 ∧ (TY.stF L true sub i).2 ≤ i + (100 + 2 * e) ∧ Chg (· = b) W w' := by
  obtain ⟨W0, hW0⟩ : ∃ U, W.alloc (.cells #[.int .i64 0, .int .i64 0, .string ⟨#[]⟩, .slice none 0 0] 25) = U := ⟨_, rfl⟩
  have X0 : Ex W W0 lo b L i := hW0 ▸ Ex.begin hs
  have N1 := Lib.hid (nx X0 (by omega) 13 4 13 (by decide) (by decide) rfl hk)
  have HW0 := Lib.hid hW0
  clear hs hW0 X0
  have hd1 : decide ((D : Int) < 1) = false := by rw [decide_eq_false_iff_not]; omega
  obtain ⟨y2, hy2⟩ : ∃ y, TY.nxt L (i + 1) 30 = y := ⟨_, rfl⟩
  have N2 := Lib.hid (fun V (h : Ex W V lo b L (i + 1)) => nx h (by omega) 30 y2 30 (by decide) (by decide) rfl hy2)
  obtain ⟨⟨t3, j3⟩, h3⟩ : ∃ p, TY.genE L 2 1 (i + 2) = p := ⟨_, rfl⟩
  have S3 := Lib.hid (fun V (h : Ex W V lo b L (i + 2)) => sb (d := 2) (expr_any L 2 (by decide)) h (by first | omega | (simp only [eb] at *; omega)) 1 1 rfl (by decide) h3)
  obtain ⟨⟨t4, j4⟩, h4⟩ : ∃ p, TY.genE L 2 1 j3 = p := ⟨_, rfl⟩
  have S4 := Lib.hid (fun V (h : Ex W V lo b L j3) (B3 : j3 ≤ (i + 2) + eb 2) => sb (d := 2) (expr_any L 2 (by decide)) h (by first | omega | (simp only [eb] at *; omega)) 1 1 rfl (by decide) h4)
  obtain ⟨⟨t5, j5⟩, h5⟩ : ∃ p, TY.genE L 1 1 j4 = p := ⟨_, rfl⟩
  have S5 := Lib.hid (fun V (h : Ex W V lo b L j4) (B3 : j3 ≤ (i + 2) + eb 2) (B4 : j4 ≤ j3 + eb 2) => sb (d := 1) (expr_any L 1 (by decide)) h (by first | omega | (simp only [eb] at *; omega)) 1 1 rfl (by decide) h5)
  have hG : TY.stF L true sub i = (.mk 4 (y2 : Int) TY.eps [t3, t4, t5], j5) := by
    unfold TY.stF
    simp [hk, hy2, h3, h4, h5]
  rw [hG]
  clear hG hk hy2 h3 h4 h5
  go_enter Try.func44, Try.ntmps44
  go_wp2_with (first
    | (rw [HW0.out]; go_at_call 31; refine N1.out.mono ?_; clear N1; rintro e w1 ⟨rfl, X1, C1⟩; replace X1 := Lib.hid X1; clear C1)
    | (go_at_call 31; refine (N2.out _ X1.out).mono ?_; clear N2; rintro e w2 ⟨rfl, X2, C2⟩; replace X2 := Lib.hid X2; clear C2)
    | (go_at_call 30; refine (S3.out _ X2.out).mono ?_; clear S3; rintro r w3 ⟨k3, n3, s3, A3, m3, c3, rfl, V3, X3, B3, C3⟩; replace X3 := Lib.hid X3; replace V3 := Lib.hid V3; replace C3 := Lib.hid C3)
    | (go_at_call 30; refine (S4.out _ X3.out B3).mono ?_; clear S4; rintro r w4 ⟨k4, n4, s4, A4, m4, c4, rfl, V4, X4, B4, C4⟩; replace X4 := Lib.hid X4; replace V4 := Lib.hid V4; replace C4 := Lib.hid C4)
    | (go_at_call 30; refine (S5.out _ X4.out B3 B4).mono ?_; clear S5; rintro r w5 ⟨k5, n5, s5, A5, m5, c5, rfl, V5, X5, B5, C5⟩; replace X5 := Lib.hid X5; replace V5 := Lib.hid V5; replace C5 := Lib.hid C5; obtain ⟨q0, q1, q2, q3, p0, p1, p2, p3⟩ := (X5.out.alloc (.cells #[.int .i64 k3, .int .i64 n3, .string s3, .slice A3 m3 c3, .int .i64 k4, .int .i64 n4, .string s4, .slice A4 m4 c4, .int .i64 k5, .int .i64 n5, .string s5, .slice A5 m5 c5] 25)).cells))
  obtain ⟨U, hU⟩ : ∃ U, ((((w5.alloc (.cells #[.int .i64 k3, .int .i64 n3, .string s3, .slice A3 m3 c3, .int .i64 k4, .int .i64 n4, .string s4, .slice A4 m4 c4, .int .i64 k5, .int .i64 n5, .string s5, .slice A5 m5 c5] 25)).setCell ⟨W.heap.size, 0, none⟩ (.int .i64 4)).setCell ⟨W.heap.size, 1, none⟩ (.int .i64 (y2 : Int))).setCell ⟨W.heap.size, 2, none⟩ (.string ⟨#[]⟩)).setCell ⟨W.heap.size, 3, none⟩ (.slice (some ⟨w5.heap.size, 0, none⟩) 3 3) = U := ⟨_, rfl⟩
  rw [hU]
  have hbig3 := X3.out.big
  have hbig4 := X4.out.big
  have hbig5 := X5.out.big
  have hbig := X2.out.big
  have hblt := X5.out.lt
  have hsz3 := C3.out.size
  have hsz4 := C4.out.size
  have hsz5 := C5.out.size
  obtain ⟨f1, f2, f3, f4⟩ := (X5.out.alloc (.cells #[.int .i64 k3, .int .i64 n3, .string s3, .slice A3 m3 c3, .int .i64 k4, .int .i64 n4, .string s4, .slice A4 m4 c4, .int .i64 k5, .int .i64 n5, .string s5, .slice A5 m5 c5] 25)).fin 4 (y2 : Int) ⟨#[]⟩ (.slice (some ⟨w5.heap.size, 0, none⟩) 3 3) (Nw.three hbig3 (Nat.le_refl _) hsz4 (Nat.le_refl _) hsz5 (by decide) (V3.out.lower hbig) (fun g _ hc => (C5.out.block g (by omega) (by omega)).trans (C4.out.block g hc (by omega))) V4.out (fun g _ hc => C5.out.block g hc (by omega)) V5.out) hU
  refine bodyPost_ret (ret_N rfl _ rfl f1) rfl ?_
  exact ⟨_, rfl, f2, f3, by first | omega | (simp only [eb] at *; omega), f4⟩

set_option maxRecDepth 100000 in
set_option maxHeartbeats 40000000 in
theorem stM_5 (L : List Int) (D : Nat) (sub : TY.Gen) (e : Nat) (hD : 1 ≤ D) (hD2 : D ≤ 100) (W : World) (lo b i : Nat) (hs : SrcV W lo b L i) (hi : i + (100 + 2 * e) ≤ 1000000000) (hk : TY.nxt L i 13 = 5) :
    Calls Try.prog 44 #[.pointer (some ⟨b, 0, none⟩), .int .i64 ((D : Nat) : Int)] W fun r w' => ∃ v, r = .returned v ∧ Nw W.heap.size w' (TY.stF L true sub i).1 v ∧ SrcV w' lo b L (TY.stF L true sub i).2 ∧ (TY.stF L true sub i).2 ≤ i + (100 + 2 * e) ∧ Chg (· = b) W w' := by
  obtain ⟨W0, hW0⟩ : ∃ U, W.alloc (.cells #[.int .i64 0, .int .i64 0, .string ⟨#[]⟩, .slice none 0 0] 25) = U := ⟨_, rfl⟩
  have X0 : Ex W W0 lo b L i := hW0 ▸ Ex.begin hs
  have N1 := Lib.hid (nx X0 (by omega) 13 5 13 (by decide) (by decide) rfl hk)
  have HW0 := Lib.hid hW0
  clear hs hW0 X0
  have hd1 : decide ((D : Int) < 1) = false := by rw [decide_eq_false_iff_not]; omega
  obtain ⟨⟨t2, j2⟩, h2⟩ : ∃ p, TY.genE L 2 1 (i + 1) = p := ⟨_, rfl⟩
  have S2 := Lib.hid (fun V (h : Ex W V lo b L (i + 1)) => sb (d := 2) (expr_any L 2 (by decide)) h (by first | omega | (simp only [eb] at *; omega)) 1 1 rfl (by decide) h2)
  obtain ⟨⟨t3, j3⟩, h3⟩ : ∃ p, TY.genE L 2 1 j2 = p := ⟨_, rfl⟩
  have S3 := Lib.hid (fun V (h : Ex W V lo b L j2) (B2 : j2 ≤ (i + 1) + eb 2) => sb (d := 2) (expr_any L 2 (by decide)) h (by first | omega | (simp only [eb] at *; omega)) 1 1 rfl (by decide) h3)
  have hG : TY.stF L true sub i = (.mk 8 0 TY.eps [t2, t3], j3) := by
    unfold TY.stF
    simp [hk, h2, h3]
  rw [hG]
  clear hG hk h2 h3
  go_enter Try.func44, Try.ntmps44
  go_wp2_with (first
    | (rw [HW0.out]; go_at_call 31; refine N1.out.mono ?_; clear N1; rintro e w1 ⟨rfl, X1, C1⟩; replace X1 := Lib.hid X1; clear C1)
    | (go_at_call 30; refine (S2.out _ X1.out).mono ?_; clear S2; rintro r w2 ⟨k2, n2, s2, A2, m2, c2, rfl, V2, X2, B2, C2⟩; replace X2 := Lib.hid X2; replace V2 := Lib.hid V2; replace C2 := Lib.hid C2)
    | (go_at_call 30; refine (S3.out _ X2.out B2).mono ?_; clear S3; rintro r w3 ⟨k3, n3, s3, A3, m3, c3, rfl, V3, X3, B3, C3⟩; replace X3 := Lib.hid X3; replace V3 := Lib.hid V3; replace C3 := Lib.hid C3; obtain ⟨q0, q1, q2, q3, p0, p1, p2, p3⟩ := (X3.out.alloc (.cells #[.int .i64 k2, .int .i64 n2, .string s2, .slice A2 m2 c2, .int .i64 k3, .int .i64 n3, .string s3, .slice A3 m3 c3] 25)).cells))
  obtain ⟨U, hU⟩ : ∃ U, ((((w3.alloc (.cells #[.int .i64 k2, .int .i64 n2, .string s2, .slice A2 m2 c2, .int .i64 k3, .int .i64 n3, .string s3, .slice A3 m3 c3] 25)).setCell ⟨W.heap.size, 0, none⟩ (.int .i64 8)).setCell ⟨W.heap.size, 1, none⟩ (.int .i64 0)).setCell ⟨W.heap.size, 2, none⟩ (.string ⟨#[]⟩)).setCell ⟨W.heap.size, 3, none⟩ (.slice (some ⟨w3.heap.size, 0, none⟩) 2 2) = U := ⟨_, rfl⟩
  rw [hU]
  have hbig2 := X2.out.big
  have hbig3 := X3.out.big
  have hbig := X1.out.big
  have hblt := X3.out.lt
  have hsz2 := C2.out.size
  have hsz3 := C3.out.size
  obtain ⟨f1, f2, f3, f4⟩ := (X3.out.alloc (.cells #[.int .i64 k2, .int .i64 n2, .string s2, .slice A2 m2 c2, .int .i64 k3, .int .i64 n3, .string s3, .slice A3 m3 c3] 25)).fin 8 0 ⟨#[]⟩ (.slice (some ⟨w3.heap.size, 0, none⟩) 2 2) (Nw.two hbig2 (Nat.le_refl _) hsz3 (by decide) (V2.out.lower hbig) (fun c _ hc => C3.out.block c hc (by omega)) V3.out) hU
  refine bodyPost_ret (ret_N rfl _ rfl f1) rfl ?_
  exact ⟨_, rfl, f2, f3, by first | omega | (simp only [eb] at *; omega), f4⟩

set_option maxRecDepth 100000 in
set_option maxHeartbeats 40000000 in
theorem stM_6 (L : List Int) (D : Nat) (sub : TY.Gen) (e : Nat) (hD : 1 ≤ D) (hD2 : D ≤ 100) (W : World) (lo b i : Nat) (hs : SrcV W lo b L i) (hi : i + (100 + 2 * e) ≤ 1000000000) (hk : TY.nxt L i 13 = 6) :
    Calls Try.prog 44 #[.pointer (some ⟨b, 0, none⟩), .int .i64 ((D : Nat) : Int)] W fun r w' => ∃ v, r = .returned v ∧ Nw W.heap.size w' (TY.stF L true sub i).1 v ∧ SrcV w' lo b L (TY.stF L true sub i).2 ∧ (TY.stF L true sub i).2 ≤ i + (100 + 2 * e) ∧ Chg (· = b) W w' := by
  obtain ⟨W0, hW0⟩ : ∃ U, W.alloc (.cells #[.int .i64 0, .int .i64 0, .string ⟨#[]⟩, .slice none 0 0] 25) = U := ⟨_, rfl⟩
  have X0 : Ex W W0 lo b L i := hW0 ▸ Ex.begin hs
  have N1 := Lib.hid (nx X0 (by omega) 13 6 13 (by decide) (by decide) rfl hk)
  have HW0 := Lib.hid hW0
  clear hs hW0 X0
  have hd1 : decide ((D : Int) < 1) = false := by rw [decide_eq_false_iff_not]; omega
  obtain ⟨⟨t2, j2⟩, h2⟩ : ∃ p, TY.genE L 2 1 (i + 1) = p := ⟨_, rfl⟩
  have S2 := Lib.hid (fun V (h : Ex W V lo b L (i + 1)) => sb (d := 2) (expr_any L 2 (by decide)) h (by first | omega | (simp only [eb] at *; omega)) 1 1 rfl (by decide) h2)
  have hG : TY.stF L true sub i = (.mk 9 0 TY.eps [t2], j2) := by
    unfold TY.stF
    simp [hk, h2]
  rw [hG]
  clear hG hk h2
  go_enter Try.func44, Try.ntmps44
  go_wp2_with (first
    | (rw [HW0.out]; go_at_call 31; refine N1.out.mono ?_; clear N1; rintro e w1 ⟨rfl, X1, C1⟩; replace X1 := Lib.hid X1; clear C1)
    | (go_at_call 30; refine (S2.out _ X1.out).mono ?_; clear S2; rintro r w2 ⟨k2, n2, s2, A2, m2, c2, rfl, V2, X2, B2, C2⟩; replace X2 := Lib.hid X2; replace V2 := Lib.hid V2; replace C2 := Lib.hid C2; obtain ⟨q0, q1, q2, q3, p0, p1, p2, p3⟩ := (X2.out.alloc (.cells #[.int .i64 k2, .int .i64 n2, .string s2, .slice A2 m2 c2] 25)).cells))
  obtain ⟨U, hU⟩ : ∃ U, ((((w2.alloc (.cells #[.int .i64 k2, .int .i64 n2, .string s2, .slice A2 m2 c2] 25)).setCell ⟨W.heap.size, 0, none⟩ (.int .i64 9)).setCell ⟨W.heap.size, 1, none⟩ (.int .i64 0)).setCell ⟨W.heap.size, 2, none⟩ (.string ⟨#[]⟩)).setCell ⟨W.heap.size, 3, none⟩ (.slice (some ⟨w2.heap.size, 0, none⟩) 1 1) = U := ⟨_, rfl⟩
  rw [hU]
  have hbig2 := X2.out.big
  have hbig := X1.out.big
  have hblt := X2.out.lt
  have hsz2 := C2.out.size
  obtain ⟨f1, f2, f3, f4⟩ := (X2.out.alloc (.cells #[.int .i64 k2, .int .i64 n2, .string s2, .slice A2 m2 c2] 25)).fin 9 0 ⟨#[]⟩ (.slice (some ⟨w2.heap.size, 0, none⟩) 1 1) (Nw.one hbig2 (by decide) (V2.out.lower hbig)) hU
  refine bodyPost_ret (ret_N rfl _ rfl f1) rfl ?_
  exact ⟨_, rfl, f2, f3, by first | omega | (simp only [eb] at *; omega), f4⟩

set_option maxRecDepth 100000 in
set_option maxHeartbeats 40000000 in
theorem stM_7 (L : List Int) (D : Nat) (sub : TY.Gen) (e : Nat) (hD : 1 ≤ D) (hD2 : D ≤ 100) (W : World) (lo b i : Nat) (hs : SrcV W lo b L i) (hi : i + (100 + 2 * e) ≤ 1000000000) (hk : TY.nxt L i 13 = 7) :
    Calls Try.prog 44 #[.pointer (some ⟨b, 0, none⟩), .int .i64 ((D : Nat) : Int)] W fun r w' => ∃ v, r = .returned v ∧ Nw W.heap.size w' (TY.stF L true sub i).1 v ∧ SrcV w' lo b L (TY.stF L true sub i).2 ∧ (TY.stF L true sub i).2 ≤ i + (100 + 2 * e) ∧ Chg (· = b) W w' := by
  obtain ⟨W0, hW0⟩ : ∃ U, W.alloc (.cells #[.int .i64 0, .int .i64 0, .string ⟨#[]⟩, .slice none 0 0] 25) = U := ⟨_, rfl⟩
  have X0 : Ex W W0 lo b L i := hW0 ▸ Ex.begin hs
  have N1 := Lib.hid (nx X0 (by omega) 13 7 13 (by decide) (by decide) rfl hk)
  have HW0 := Lib.hid hW0
  clear hs hW0 X0
  have hd1 : decide ((D : Int) < 1) = false := by rw [decide_eq_false_iff_not]; omega
  obtain ⟨y2, hy2⟩ : ∃ y, TY.nxt L (i + 1) 8 = y := ⟨_, rfl⟩
  have N2 := Lib.hid (fun V (h : Ex W V lo b L (i + 1)) => nx h (by omega) 8 y2 8 (by decide) (by decide) rfl hy2)
  have hG : TY.stF L true sub i = (.mk 5 (y2 : Int) TY.eps [], i + 2) := by
    unfold TY.stF
    simp [hk, hy2]
  rw [hG]
  clear hG hk hy2
  go_enter Try.func44, Try.ntmps44
  go_wp2_with (first
    | (rw [HW0.out]; go_at_call 31; refine N1.out.mono ?_; clear N1; rintro e w1 ⟨rfl, X1, C1⟩; replace X1 := Lib.hid X1; clear C1)
    | (go_at_call 31; refine (N2.out _ X1.out).mono ?_; clear N2; rintro e w2 ⟨rfl, X2, C2⟩; replace X2 := Lib.hid X2; clear C2; obtain ⟨q0, q1, q2, q3, p0, p1, p2, p3⟩ := X2.out.cells))
  obtain ⟨U, hU⟩ : ∃ U, (((w2.setCell ⟨W.heap.size, 0, none⟩ (.int .i64 5)).setCell ⟨W.heap.size, 1, none⟩ (.int .i64 (y2 : Int))).setCell ⟨W.heap.size, 2, none⟩ (.string ⟨#[]⟩)).setCell ⟨W.heap.size, 3, none⟩ (.slice none 0 0) = U := ⟨_, rfl⟩
  rw [hU]
  obtain ⟨f1, f2, f3, f4⟩ := X2.out.fin 5 (y2 : Int) ⟨#[]⟩ (.slice none 0 0) (Nw.leaf _ _ _ _ _ (by decide)) hU
  refine bodyPost_ret (ret_N rfl _ rfl f1) rfl ?_
  exact ⟨_, rfl, f2, f3, by first | omega | (simp only [eb] at *; omega), f4⟩

set_option maxRecDepth 100000 in
set_option maxHeartbeats 40000000 in
theorem stM_8 (L : List Int) (D : Nat) (sub : TY.Gen) (e : Nat) (hD : 1 ≤ D) (hD2 : D ≤ 100) (W : World) (lo b i : Nat) (hs : SrcV W lo b L i) (hi : i + (100 + 2 * e) ≤ 1000000000) (hk : TY.nxt L i 13 = 8) :
    Calls Try.prog 44 #[.pointer (some ⟨b, 0, none⟩), .int .i64 ((D : Nat) : Int)] W fun r w' => ∃ v, r = .returned v ∧ Nw W.heap.size w' (TY.stF L true sub i).1 v ∧ SrcV w' lo b L (TY.stF L true sub i).2 ∧ (TY.stF L true sub i).2 ≤ i + (100 + 2 * e) ∧ Chg (· = b) W w' := by
  obtain ⟨W0, hW0⟩ : ∃ U, W.alloc (.cells #[.int .i64 0, .int .i64 0, .string ⟨#[]⟩, .slice none 0 0] 25) = U := ⟨_, rfl⟩
  have X0 : Ex W W0 lo b L i := hW0 ▸ Ex.begin hs
  have N1 := Lib.hid (nx X0 (by omega) 13 8 13 (by decide) (by decide) rfl hk)
  have HW0 := Lib.hid hW0
  clear hs hW0 X0
  have hd1 : decide ((D : Int) < 1) = false := by rw [decide_eq_false_iff_not]; omega
  obtain ⟨y2, hy2⟩ : ∃ y, TY.nxt L (i + 1) 8 = y := ⟨_, rfl⟩
  have N2 := Lib.hid (fun V (h : Ex W V lo b L (i + 1)) => nx h (by omega) 8 y2 8 (by decide) (by decide) rfl hy2)
  have hG : TY.stF L true sub i = (.mk 6 (y2 : Int) TY.eps [], i + 2) := by
    unfold TY.stF
    simp [hk, hy2]
  rw [hG]
  clear hG hk hy2
  go_enter Try.func44, Try.ntmps44
  go_wp2_with (first
    | (rw [HW0.out]; go_at_call 31; refine N1.out.mono ?_; clear N1; rintro e w1 ⟨rfl, X1, C1⟩; replace X1 := Lib.hid X1; clear C1)
    | (go_at_call 31; refine (N2.out _ X1.out).mono ?_; clear N2; rintro e w2 ⟨rfl, X2, C2⟩; replace X2 := Lib.hid X2; clear C2; obtain ⟨q0, q1, q2, q3, p0, p1, p2, p3⟩ := X2.out.cells))
  obtain ⟨U, hU⟩ : ∃ U, (((w2.setCell ⟨W.heap.size, 0, none⟩ (.int .i64 6)).setCell ⟨W.heap.size, 1, none⟩ (.int .i64 (y2 : Int))).setCell ⟨W.heap.size, 2, none⟩ (.string ⟨#[]⟩)).setCell ⟨W.heap.size, 3, none⟩ (.slice none 0 0) = U := ⟨_, rfl⟩
  rw [hU]
  obtain ⟨f1, f2, f3, f4⟩ := X2.out.fin 6 (y2 : Int) ⟨#[]⟩ (.slice none 0 0) (Nw.leaf _ _ _ _ _ (by decide)) hU
  refine bodyPost_ret (ret_N rfl _ rfl f1) rfl ?_
  exact ⟨_, rfl, f2, f3, by first | omega | (simp only [eb] at *; omega), f4⟩

set_option maxRecDepth 100000 in
set_option maxHeartbeats 40000000 in
theorem stM_9 (L : List Int) (D : Nat) (sub : TY.Gen) (e : Nat) (hD : 1 ≤ D) (hD2 : D ≤ 100) (W : World) (lo b i : Nat) (hs : SrcV W lo b L i) (hi : i + (100 + 2 * e) ≤ 1000000000) (hk : TY.nxt L i 13 = 9) :
    Calls Try.prog 44 #[.pointer (some ⟨b, 0, none⟩), .int .i64 ((D : Nat) : Int)] W fun r w' => ∃ v, r = .returned v ∧ Nw W.heap.size w' (TY.stF L true sub i).1 v ∧ SrcV w' lo b L (TY.stF L true sub i).2 ∧ (TY.stF L true sub i).2 ≤ i + (100 + 2 * e) ∧ Chg (· = b) W w' := by
  obtain ⟨W0, hW0⟩ : ∃ U, W.alloc (.cells #[.int .i64 0, .int .i64 0, .string ⟨#[]⟩, .slice none 0 0] 25) = U := ⟨_, rfl⟩
  have X0 : Ex W W0 lo b L i := hW0 ▸ Ex.begin hs
  have N1 := Lib.hid (nx X0 (by omega) 13 9 13 (by decide) (by decide) rfl hk)
  have HW0 := Lib.hid hW0
  clear hs hW0 X0
  have hd1 : decide ((D : Int) < 1) = false := by rw [decide_eq_false_iff_not]; omega
  have hG : TY.stF L true sub i = (.mk 7 0 TY.eps [], i + 1) := by
    unfold TY.stF
    simp [hk]
  rw [hG]
  clear hG hk
  go_enter Try.func44, Try.ntmps44
  go_wp2_with (first
    | (rw [HW0.out]; go_at_call 31; refine N1.out.mono ?_; clear N1; rintro e w1 ⟨rfl, X1, C1⟩; replace X1 := Lib.hid X1; clear C1; obtain ⟨q0, q1, q2, q3, p0, p1, p2, p3⟩ := X1.out.cells))
  obtain ⟨U, hU⟩ : ∃ U, (((w1.setCell ⟨W.heap.size, 0, none⟩ (.int .i64 7)).setCell ⟨W.heap.size, 1, none⟩ (.int .i64 0)).setCell ⟨W.heap.size, 2, none⟩ (.string ⟨#[]⟩)).setCell ⟨W.heap.size, 3, none⟩ (.slice none 0 0) = U := ⟨_, rfl⟩
  rw [hU]
  obtain ⟨f1, f2, f3, f4⟩ := X1.out.fin 7 0 ⟨#[]⟩ (.slice none 0 0) (Nw.leaf _ _ _ _ _ (by decide)) hU
  refine bodyPost_ret (ret_N rfl _ rfl f1) rfl ?_
  exact ⟨_, rfl, f2, f3, by first | omega | (simp only [eb] at *; omega), f4⟩

set_option maxRecDepth 100000 in
set_option maxHeartbeats 40000000 in
theorem stM_10 (L : List Int) (D : Nat) (sub : TY.Gen) (e : Nat) (hD : 1 ≤ D) (hD2 : D ≤ 100) (W : World) (lo b i : Nat) (hs : SrcV W lo b L i) (hi : i + (100 + 2 * e) ≤ 1000000000) (hk : TY.nxt L i 13 = 10) :
    Calls Try.prog 44 #[.pointer (some ⟨b, 0, none⟩), .int .i64 ((D : Nat) : Int)] W fun r w' => ∃ v, r = .returned v ∧ Nw W.heap.size w' (TY.stF L true sub i).1 v ∧ SrcV w' lo b L (TY.stF L true sub i).2 ∧ (TY.stF L true sub i).2 ≤ i + (100 + 2 * e) ∧ Chg (· = b) W w' := by
  obtain ⟨W0, hW0⟩ : ∃ U, W.alloc (.cells #[.int .i64 0, .int .i64 0, .string ⟨#[]⟩, .slice none 0 0] 25) = U := ⟨_, rfl⟩
  have X0 : Ex W W0 lo b L i := hW0 ▸ Ex.begin hs
  have N1 := Lib.hid (nx X0 (by omega) 13 10 13 (by decide) (by decide) rfl hk)
  have HW0 := Lib.hid hW0
  clear hs hW0 X0
  have hd1 : decide ((D : Int) < 1) = false := by rw [decide_eq_false_iff_not]; omega
  have hG : TY.stF L true sub i = (.mk 10 0 TY.eps [], i + 1) := by
    unfold TY.stF
    simp [hk]
  rw [hG]
  clear hG hk
  go_enter Try.func44, Try.ntmps44
  go_wp2_with (first
    | (rw [HW0.out]; go_at_call 31; refine N1.out.mono ?_; clear N1; rintro e w1 ⟨rfl, X1, C1⟩; replace X1 := Lib.hid X1; clear C1; obtain ⟨q0, q1, q2, q3, p0, p1, p2, p3⟩ := X1.out.cells))
  obtain ⟨U, hU⟩ : ∃ U, (((w1.setCell ⟨W.heap.size, 0, none⟩ (.int .i64 10)).setCell ⟨W.heap.size, 1, none⟩ (.int .i64 0)).setCell ⟨W.heap.size, 2, none⟩ (.string ⟨#[]⟩)).setCell ⟨W.heap.size, 3, none⟩ (.slice none 0 0) = U := ⟨_, rfl⟩
  rw [hU]
  obtain ⟨f1, f2, f3, f4⟩ := X1.out.fin 10 0 ⟨#[]⟩ (.slice none 0 0) (Nw.leaf _ _ _ _ _ (by decide)) hU
  refine bodyPost_ret (ret_N rfl _ rfl f1) rfl ?_
  exact ⟨_, rfl, f2, f3, by first | omega | (simp only [eb] at *; omega), f4⟩

set_option maxRecDepth 100000 in
set_option maxHeartbeats 40000000 in
theorem stM_11 (L : List Int) (D : Nat) (sub : TY.Gen) (e : Nat) (hD : 1 ≤ D) (hD2 : D ≤ 100) (hsub : GAt 36 L ((D : Int) - 1) sub e) (W : World) (lo b i : Nat) (hs : SrcV W lo b L i) (hi : i + (100 + 2 * e) ≤ 1000000000) (hk : TY.nxt L i 13 = 11) :
    Calls Try.prog 44 #[.pointer (some ⟨b, 0, none⟩), .int .i64 ((D : Nat) : Int)] W fun r w' => ∃ v, r = .returned v ∧ Nw W.heap.size w' (TY.stF L true sub i).1 v ∧ SrcV w' lo b L (TY.stF L true sub i).2 ∧ (TY.stF L true sub i).2 ≤ i + (100 + 2 * e) ∧ Chg (· = b) W w' := by
  obtain ⟨W0, hW0⟩ : ∃ U, W.alloc (.cells #[.int .i64 0, .int .i64 0, .string ⟨#[]⟩, .slice none 0 0] 25) = U := ⟨_, rfl⟩
  have X0 : Ex W W0 lo b L i := hW0 ▸ Ex.begin hs
  have N1 := Lib.hid (nx X0 (by omega) 13 11 13 (by decide) (by decide) rfl hk)
  have HW0 := Lib.hid hW0
  clear hs hW0 X0
  have hd1 : decide ((D : Int) < 1) = false := by rw [decide_eq_false_iff_not]; omega
  obtain ⟨⟨t2, j2⟩, h2⟩ : ∃ p, TY.genE L 2 2 (i + 1) = p := ⟨_, rfl⟩
  have S2 := Lib.hid (fun V (h : Ex W V lo b L (i + 1)) => sb (d := 2) (expr_any L 2 (by decide)) h (by first | omega | (simp only [eb] at *; omega)) 2 2 rfl (by decide) h2)
  obtain ⟨⟨t3, j3⟩, h3⟩ : ∃ p, sub j2 = p := ⟨_, rfl⟩
  have S3 := Lib.hid (fun V (h : Ex W V lo b L j2) (B2 : j2 ≤ (i + 1) + eb 2) => sg hsub h (by first | omega | (simp only [eb] at *; omega)) h3)
  obtain ⟨⟨t4, j4⟩, h4⟩ : ∃ p, sub j3 = p := ⟨_, rfl⟩
  have S4 := Lib.hid (fun V (h : Ex W V lo b L j3) (B2 : j2 ≤ (i + 1) + eb 2) (B3 : j3 ≤ j2 + e) => sg hsub h (by first | omega | (simp only [eb] at *; omega)) h4)
  have hG : TY.stF L true sub i = (.mk 2 0 TY.eps [t2, t3, t4], j4) := by
    unfold TY.stF
    simp [hk, h2, h3, h4]
  rw [hG]
  clear hG hk h2 h3 h4
  go_enter Try.func44, Try.ntmps44
  go_wp2_with (first
    | (rw [HW0.out]; go_at_call 31; refine N1.out.mono ?_; clear N1; rintro e w1 ⟨rfl, X1, C1⟩; replace X1 := Lib.hid X1; clear C1)
    | (go_at_call 30; refine (S2.out _ X1.out).mono ?_; clear S2; rintro r w2 ⟨k2, n2, s2, A2, m2, c2, rfl, V2, X2, B2, C2⟩; replace X2 := Lib.hid X2; replace V2 := Lib.hid V2; replace C2 := Lib.hid C2)
    | (go_at_call 36; refine (S3.out _ X2.out B2).mono ?_; clear S3; rintro r w3 ⟨k3, n3, s3, A3, m3, c3, rfl, V3, X3, B3, C3⟩; replace X3 := Lib.hid X3; replace V3 := Lib.hid V3; replace C3 := Lib.hid C3)
    | (go_at_call 36; refine (S4.out _ X3.out B2 B3).mono ?_; clear S4; rintro r w4 ⟨k4, n4, s4, A4, m4, c4, rfl, V4, X4, B4, C4⟩; replace X4 := Lib.hid X4; replace V4 := Lib.hid V4; replace C4 := Lib.hid C4; obtain ⟨q0, q1, q2, q3, p0, p1, p2, p3⟩ := (X4.out.alloc (.cells #[.int .i64 k2, .int .i64 n2, .string s2, .slice A2 m2 c2, .int .i64 k3, .int .i64 n3, .string s3, .slice A3 m3 c3, .int .i64 k4, .int .i64 n4, .string s4, .slice A4 m4 c4] 25)).cells))
  obtain ⟨U, hU⟩ : ∃ U, ((((w4.alloc (.cells #[.int .i64 k2, .int .i64 n2, .string s2, .slice A2 m2 c2, .int .i64 k3, .int .i64 n3, .string s3, .slice A3 m3 c3, .int .i64 k4, .int .i64 n4, .string s4, .slice A4 m4 c4] 25)).setCell ⟨W.heap.size, 0, none⟩ (.int .i64 2)).setCell ⟨W.heap.size, 1, none⟩ (.int .i64 0)).setCell ⟨W.heap.size, 2, none⟩ (.string ⟨#[]⟩)).setCell ⟨W.heap.size, 3, none⟩ (.slice (some ⟨w4.heap.size, 0, none⟩) 3 3) = U := ⟨_, rfl⟩
  rw [hU]
  have hbig2 := X2.out.big
  have hbig3 := X3.out.big
  have hbig4 := X4.out.big
  have hbig := X1.out.big
  have hblt := X4.out.lt
  have hsz2 := C2.out.size
  have hsz3 := C3.out.size
  have hsz4 := C4.out.size
  obtain ⟨f1, f2, f3, f4⟩ := (X4.out.alloc (.cells #[.int .i64 k2, .int .i64 n2, .string s2, .slice A2 m2 c2, .int .i64 k3, .int .i64 n3, .string s3, .slice A3 m3 c3, .int .i64 k4, .int .i64 n4, .string s4, .slice A4 m4 c4] 25)).fin 2 0 ⟨#[]⟩ (.slice (some ⟨w4.heap.size, 0, none⟩) 3 3) (Nw.three hbig2 (Nat.le_refl _) hsz3 (Nat.le_refl _) hsz4 (by decide) (V2.out.lower hbig) (fun g _ hc => (C4.out.block g (by omega) (by omega)).trans (C3.out.block g hc (by omega))) V3.out (fun g _ hc => C4.out.block g hc (by omega)) V4.out) hU
  refine bodyPost_ret (ret_N rfl _ rfl f1) rfl ?_
  exact ⟨_, rfl, f2, f3, by first | omega | (simp only [eb] at *; omega), f4⟩

set_option maxRecDepth 100000 in
set_option maxHeartbeats 40000000 in
theorem stM_12 (L : List Int) (D : Nat) (sub : TY.Gen) (e : Nat) (hD : 1 ≤ D) (hD2 : D ≤ 100) (hsub : GAt 36 L ((D : Int) - 1) sub e) (W : World) (lo b i : Nat) (hs : SrcV W lo b L i) (hi : i + (100 + 2 * e) ≤ 1000000000) (hk : TY.nxt L i 13 = 12) :
    Calls Try.prog 44 #[.pointer (some ⟨b, 0, none⟩), .int .i64 ((D : Nat) : Int)] W fun r w' => ∃ v, r = .returned v ∧ Nw W.heap.size w' (TY.stF L true sub i).1 v ∧ SrcV w' lo b L (TY.stF L true sub i).2 ∧ (TY.stF L true sub i).2 ≤ i + (100 + 2 * e) ∧ Chg (· = b) W w' := by
  obtain ⟨W0, hW0⟩ : ∃ U, W.alloc (.cells #[.int .i64 0, .int .i64 0, .string ⟨#[]⟩, .slice none 0 0] 25) = U := ⟨_, rfl⟩
  have X0 : Ex W W0 lo b L i := hW0 ▸ Ex.begin hs
  have N1 := Lib.hid (nx X0 (by omega) 13 12 13 (by decide) (by decide) rfl hk)
  have HW0 := Lib.hid hW0
  clear hs hW0 X0
  have hd1 : decide ((D : Int) < 1) = false := by rw [decide_eq_false_iff_not]; omega
  obtain ⟨⟨t2, j2⟩, h2⟩ : ∃ p, TY.genE L 2 2 (i + 1) = p := ⟨_, rfl⟩
  have S2 := Lib.hid (fun V (h : Ex W V lo b L (i + 1)) => sb (d := 2) (expr_any L 2 (by decide)) h (by first | omega | (simp only [eb] at *; omega)) 2 2 rfl (by decide) h2)
  obtain ⟨⟨t3, j3⟩, h3⟩ : ∃ p, sub j2 = p := ⟨_, rfl⟩
  have S3 := Lib.hid (fun V (h : Ex W V lo b L j2) (B2 : j2 ≤ (i + 1) + eb 2) => sg hsub h (by first | omega | (simp only [eb] at *; omega)) h3)
  have hG : TY.stF L true sub i = (.mk 3 0 TY.eps [t2, t3], j3) := by
    unfold TY.stF
    simp [hk, h2, h3]
  rw [hG]
  clear hG hk h2 h3
  go_enter Try.func44, Try.ntmps44
  go_wp2_with (first
    | (rw [HW0.out]; go_at_call 31; refine N1.out.mono ?_; clear N1; rintro e w1 ⟨rfl, X1, C1⟩; replace X1 := Lib.hid X1; clear C1)
    | (go_at_call 30; refine (S2.out _ X1.out).mono ?_; clear S2; rintro r w2 ⟨k2, n2, s2, A2, m2, c2, rfl, V2, X2, B2, C2⟩; replace X2 := Lib.hid X2; replace V2 := Lib.hid V2; replace C2 := Lib.hid C2)
    | (go_at_call 36; refine (S3.out _ X2.out B2).mono ?_; clear S3; rintro r w3 ⟨k3, n3, s3, A3, m3, c3, rfl, V3, X3, B3, C3⟩; replace X3 := Lib.hid X3; replace V3 := Lib.hid V3; replace C3 := Lib.hid C3; obtain ⟨q0, q1, q2, q3, p0, p1, p2, p3⟩ := (X3.out.alloc (.cells #[.int .i64 k2, .int .i64 n2, .string s2, .slice A2 m2 c2, .int .i64 k3, .int .i64 n3, .string s3, .slice A3 m3 c3] 25)).cells))
  obtain ⟨U, hU⟩ : ∃ U, ((((w3.alloc (.cells #[.int .i64 k2, .int .i64 n2, .string s2, .slice A2 m2 c2, .int .i64 k3, .int .i64 n3, .string s3, .slice A3 m3 c3] 25)).setCell ⟨W.heap.size, 0, none⟩ (.int .i64 3)).setCell ⟨W.heap.size, 1, none⟩ (.int .i64 0)).setCell ⟨W.heap.size, 2, none⟩ (.string ⟨#[]⟩)).setCell ⟨W.heap.size, 3, none⟩ (.slice (some ⟨w3.heap.size, 0, none⟩) 2 2) = U := ⟨_, rfl⟩
  rw [hU]
  have hbig2 := X2.out.big
  have hbig3 := X3.out.big
  have hbig := X1.out.big
  have hblt := X3.out.lt
  have hsz2 := C2.out.size
  have hsz3 := C3.out.size
  obtain ⟨f1, f2, f3, f4⟩ := (X3.out.alloc (.cells #[.int .i64 k2, .int .i64 n2, .string s2, .slice A2 m2 c2, .int .i64 k3, .int .i64 n3, .string s3, .slice A3 m3 c3] 25)).fin 3 0 ⟨#[]⟩ (.slice (some ⟨w3.heap.size, 0, none⟩) 2 2) (Nw.two hbig2 (Nat.le_refl _) hsz3 (by decide) (V2.out.lower hbig) (fun c _ hc => C3.out.block c hc (by omega)) V3.out) hU
  refine bodyPost_ret (ret_N rfl _ rfl f1) rfl ?_
  exact ⟨_, rfl, f2, f3, by first | omega | (simp only [eb] at *; omega), f4⟩

theorem st_leaf (L : List Int) (sub : TY.Gen) : GAt 44 L 0 (TY.stF L false sub) 100 := by
  intro W lo b i hs hi
  have hk : TY.nxt L i 13 = 0 ∨ TY.nxt L i 13 = 1 ∨ TY.nxt L i 13 = 2 ∨ TY.nxt L i 13 = 3 ∨ TY.nxt L i 13 = 4 ∨ TY.nxt L i 13 = 5 ∨ TY.nxt L i 13 = 6 ∨ TY.nxt L i 13 = 7 ∨ TY.nxt L i 13 = 8 ∨ TY.nxt L i 13 = 9 ∨ TY.nxt L i 13 = 10 ∨ TY.nxt L i 13 = 11 ∨ TY.nxt L i 13 = 12 := by
    have := TY.nxt_lt L i (show 0 < 13 by decide)
    omega
  rcases hk with hk | hk | hk | hk | hk | hk | hk | hk | hk | hk | hk | hk | hk
  · exact stL_0 L sub W lo b i hs hi hk
  · exact stL_1 L sub W lo b i hs hi hk
  · exact stL_2 L sub W lo b i hs hi hk
  · exact stL_3 L sub W lo b i hs hi hk
  · exact stL_4 L sub W lo b i hs hi hk
  · exact stL_5 L sub W lo b i hs hi hk
  · exact stL_6 L sub W lo b i hs hi hk
  · exact stL_7 L sub W lo b i hs hi hk
  · exact stL_8 L sub W lo b i hs hi hk
  · exact stL_9 L sub W lo b i hs hi hk
  · exact stL_10 L sub W lo b i hs hi hk
  · exact stL_11 L sub W lo b i hs hi hk
  · exact stL_12 L sub W lo b i hs hi hk
theorem st_more (L : List Int) (D : Nat) (sub : TY.Gen) (e : Nat) (hD : 1 ≤ D) (hD2 : D ≤ 100) (hsub : GAt 36 L ((D : Int) - 1) sub e) : GAt 44 L (D : Int) (TY.stF L true sub) (100 + 2 * e) := by
  intro W lo b i hs hi
  have hk : TY.nxt L i 13 = 0 ∨ TY.nxt L i 13 = 1 ∨ TY.nxt L i 13 = 2 ∨ TY.nxt L i 13 = 3 ∨ TY.nxt L i 13 = 4 ∨ TY.nxt L i 13 = 5 ∨ TY.nxt L i 13 = 6 ∨ TY.nxt L i 13 = 7 ∨ TY.nxt L i 13 = 8 ∨ TY.nxt L i 13 = 9 ∨ TY.nxt L i 13 = 10 ∨ TY.nxt L i 13 = 11 ∨ TY.nxt L i 13 = 12 := by
    have := TY.nxt_lt L i (show 0 < 13 by decide)
    omega
  rcases hk with hk | hk | hk | hk | hk | hk | hk | hk | hk | hk | hk | hk | hk
  · exact stM_0 L D sub e hD hD2 W lo b i hs hi hk
  · exact stM_1 L D sub e hD hD2 W lo b i hs hi hk
  · exact stM_2 L D sub e hD hD2 W lo b i hs hi hk
  · exact stM_3 L D sub e hD hD2 W lo b i hs hi hk
  · exact stM_4 L D sub e hD hD2 W lo b i hs hi hk
  · exact stM_5 L D sub e hD hD2 W lo b i hs hi hk
  · exact stM_6 L D sub e hD hD2 W lo b i hs hi hk
  · exact stM_7 L D sub e hD hD2 W lo b i hs hi hk
  · exact stM_8 L D sub e hD hD2 W lo b i hs hi hk
  · exact stM_9 L D sub e hD hD2 W lo b i hs hi hk
  · exact stM_10 L D sub e hD hD2 W lo b i hs hi hk
  · exact stM_11 L D sub e hD hD2 hsub W lo b i hs hi hk
  · exact stM_12 L D sub e hD hD2 hsub W lo b i hs hi hk

end Go.Proofs.Ytofeidacffabdaa
