/-
  The reference's generator: statement, one level, given what it does one level down. Written by wip/gen/ref6.py. Condition: the generator lies in a block of its own.
-/
import Derived.Test.YtlfpaemfhanpiaaGreatDoorK36
import Derived.Deep.RegionHeld3
import Derived.Deep.RegionLaw

namespace Go.Proofs.YtlfpaemfhanpiaaGreatDoor
open Go Go.RowKit Go.Proofs
attribute [local go_sem] Oper.semAt_some


set_option maxRecDepth 100000 in
set_option maxHeartbeats 40000000 in
theorem stL_0 (L : List Int) (d : Int) (hd : d ≤ 0) (W : World) (lo b i : Nat) (hs : GenV W lo b L i) (hi : i + 100 ≤ 1000000000) (x0 : Nat) (hk : PG.nx L i 14 = x0) (hr : x0 % 11 = 0) :
    Calls Tryz.prog 36 #[.pointer (some ⟨b, 0, none⟩), .int .i64 d] W fun r w' => ∃ v, r = .returned v ∧ Nw W.heap.size w' (PG.gS L PG.noneB 0 (i + 1)).1 v ∧ GenV w' lo b L (PG.gS L PG.noneB 0 (i + 1)).2 ∧ (PG.gS L PG.noneB 0 (i + 1)).2 ≤ i + 100 ∧ Chg (· = b) W w' := by
  obtain ⟨W0, hW0⟩ : ∃ U, W.alloc (.cells #[.int .i64 0, .int .i64 0, .string ⟨#[]⟩, .slice none 0 0] 33) = U := ⟨_, rfl⟩
  have X0 : ExG W W0 lo b L i := hW0 ▸ ExG.begin hs
  have N1 := Lib.hid (gpk X0 (by omega) 14 x0 14 (by decide) (by decide) rfl hk)
  have HW0 := Lib.hid hW0
  clear hs hW0 X0
  have hd0 : decide (d ≤ 0) = true := decide_eq_true hd
  have hx0 : x0 < 14 := hk ▸ PG.nx_lt _ _ (by decide)
  have hrm : (x0 : Int).tmod 11 = 0 := by rw [Int.tmod_eq_emod_of_nonneg (by omega)]; omega
  have hrm2 : IntKind.i64.wrap ((x0 : Int).tmod 11) = 0 := by rw [hrm]; rfl
  obtain ⟨z, hzz⟩ : ∃ z, TY.pick PG.vars (PG.nx L (i + 1) 4) = z := ⟨_, rfl⟩
  have hz : z.size ≤ 1000 := hzz ▸ pick_small (by decide) _
  have N2 := Lib.hid (fun V (h : ExG W V lo b L (i + 1)) => gvr h (by omega) hzz)
  obtain ⟨⟨t3, j3⟩, h3⟩ : ∃ p, PG.genI L 2 (i + 1 + 1) = p := ⟨_, rfl⟩
  have N3 := Lib.hid (fun V (h : ExG W V lo b L (i + 1 + 1)) => gsb (int_2 L) h (by omega) h3)
  have hG : (PG.gS L PG.noneB 0 (i + 1)) = (.mk 1 0 z [t3], j3) := by
    unfold PG.gS PG.asg
    simp [hzz, h3]
  rw [hG]
  clear hG hzz h3 hk hr
  go_enter Tryz.func36, Tryz.ntmps36
  go_wp2_with (first
    | (rw [HW0.out]; go_at_call 17; refine N1.out.mono ?_; clear N1; rintro r w1 ⟨rfl, X1, C1⟩; replace X1 := Lib.hid X1; clear C1)
    | (go_at_call 65; refine (N2.out _ X1.out).mono ?_; clear N2; rintro r w2 ⟨rfl, X2, C2⟩; replace X2 := Lib.hid X2; clear C2)
    | (go_at_call 66; refine (N3.out _ X2.out).mono ?_; clear N3; rintro r w3 ⟨k3, n3, s3, A3, m3, c3, rfl, V3, X3, B3, C3⟩; replace X3 := Lib.hid X3; replace V3 := Lib.hid (V3.lower (by have := X2.out.big; omega)); clear C3; obtain ⟨p0, p1, p2, p3, o0, o1, o2, o3⟩ := (X3.out.alloc (.cells #[.int .i64 k3, .int .i64 n3, .string s3, .slice A3 m3 c3] 33)).cells))
  obtain ⟨U, hU⟩ : ∃ U, ((((w3.alloc (.cells #[.int .i64 k3, .int .i64 n3, .string s3, .slice A3 m3 c3] 33)).setCell ⟨W.heap.size, 0, none⟩ (.int .i64 1)).setCell ⟨W.heap.size, 1, none⟩ (.int .i64 0)).setCell ⟨W.heap.size, 2, none⟩ (.string z)).setCell ⟨W.heap.size, 3, none⟩ (.slice (some ⟨w3.heap.size, 0, none⟩) 1 1) = U := ⟨_, rfl⟩
  rw [hU]
  have hbgE := X3.out.big
  obtain ⟨f1, f2, f3, f4⟩ := (X3.out.alloc (.cells #[.int .i64 k3, .int .i64 n3, .string s3, .slice A3 m3 c3] 33)).fin 1 0 z (.slice (some ⟨w3.heap.size, 0, none⟩) 1 1) (Nw.mk1 hbgE hz V3.out) hU
  refine bodyPost_ret (ret_N rfl _ rfl f1) rfl ?_
  exact ⟨_, rfl, f2, f3, by omega, f4⟩

set_option maxRecDepth 100000 in
set_option maxHeartbeats 40000000 in
theorem stL_1 (L : List Int) (d : Int) (hd : d ≤ 0) (W : World) (lo b i : Nat) (hs : GenV W lo b L i) (hi : i + 100 ≤ 1000000000) (x0 : Nat) (hk : PG.nx L i 14 = x0) (hr : x0 % 11 = 1) :
    Calls Tryz.prog 36 #[.pointer (some ⟨b, 0, none⟩), .int .i64 d] W fun r w' => ∃ v, r = .returned v ∧ Nw W.heap.size w' (PG.gS L PG.noneB 1 (i + 1)).1 v ∧ GenV w' lo b L (PG.gS L PG.noneB 1 (i + 1)).2 ∧ (PG.gS L PG.noneB 1 (i + 1)).2 ≤ i + 100 ∧ Chg (· = b) W w' := by
  obtain ⟨W0, hW0⟩ : ∃ U, W.alloc (.cells #[.int .i64 0, .int .i64 0, .string ⟨#[]⟩, .slice none 0 0] 33) = U := ⟨_, rfl⟩
  have X0 : ExG W W0 lo b L i := hW0 ▸ ExG.begin hs
  have N1 := Lib.hid (gpk X0 (by omega) 14 x0 14 (by decide) (by decide) rfl hk)
  have HW0 := Lib.hid hW0
  clear hs hW0 X0
  have hd0 : decide (d ≤ 0) = true := decide_eq_true hd
  have hx0 : x0 < 14 := hk ▸ PG.nx_lt _ _ (by decide)
  have hrm : (x0 : Int).tmod 11 = 1 := by rw [Int.tmod_eq_emod_of_nonneg (by omega)]; omega
  have hrm2 : IntKind.i64.wrap ((x0 : Int).tmod 11) = 1 := by rw [hrm]; rfl
  obtain ⟨z, hzz⟩ : ∃ z, TY.pick PG.vars (PG.nx L (i + 1) 4) = z := ⟨_, rfl⟩
  have hz : z.size ≤ 1000 := hzz ▸ pick_small (by decide) _
  have N2 := Lib.hid (fun V (h : ExG W V lo b L (i + 1)) => gvr h (by omega) hzz)
  obtain ⟨⟨t3, j3⟩, h3⟩ : ∃ p, PG.genI L 2 (i + 1 + 1) = p := ⟨_, rfl⟩
  have N3 := Lib.hid (fun V (h : ExG W V lo b L (i + 1 + 1)) => gsb (int_2 L) h (by omega) h3)
  have hG : (PG.gS L PG.noneB 1 (i + 1)) = (.mk 1 0 z [t3], j3) := by
    unfold PG.gS PG.asg
    simp [hzz, h3]
  rw [hG]
  clear hG hzz h3 hk hr
  go_enter Tryz.func36, Tryz.ntmps36
  go_wp2_with (first
    | (rw [HW0.out]; go_at_call 17; refine N1.out.mono ?_; clear N1; rintro r w1 ⟨rfl, X1, C1⟩; replace X1 := Lib.hid X1; clear C1)
    | (go_at_call 65; refine (N2.out _ X1.out).mono ?_; clear N2; rintro r w2 ⟨rfl, X2, C2⟩; replace X2 := Lib.hid X2; clear C2)
    | (go_at_call 66; refine (N3.out _ X2.out).mono ?_; clear N3; rintro r w3 ⟨k3, n3, s3, A3, m3, c3, rfl, V3, X3, B3, C3⟩; replace X3 := Lib.hid X3; replace V3 := Lib.hid (V3.lower (by have := X2.out.big; omega)); clear C3; obtain ⟨p0, p1, p2, p3, o0, o1, o2, o3⟩ := (X3.out.alloc (.cells #[.int .i64 k3, .int .i64 n3, .string s3, .slice A3 m3 c3] 33)).cells))
  obtain ⟨U, hU⟩ : ∃ U, ((((w3.alloc (.cells #[.int .i64 k3, .int .i64 n3, .string s3, .slice A3 m3 c3] 33)).setCell ⟨W.heap.size, 0, none⟩ (.int .i64 1)).setCell ⟨W.heap.size, 1, none⟩ (.int .i64 0)).setCell ⟨W.heap.size, 2, none⟩ (.string z)).setCell ⟨W.heap.size, 3, none⟩ (.slice (some ⟨w3.heap.size, 0, none⟩) 1 1) = U := ⟨_, rfl⟩
  rw [hU]
  have hbgE := X3.out.big
  obtain ⟨f1, f2, f3, f4⟩ := (X3.out.alloc (.cells #[.int .i64 k3, .int .i64 n3, .string s3, .slice A3 m3 c3] 33)).fin 1 0 z (.slice (some ⟨w3.heap.size, 0, none⟩) 1 1) (Nw.mk1 hbgE hz V3.out) hU
  refine bodyPost_ret (ret_N rfl _ rfl f1) rfl ?_
  exact ⟨_, rfl, f2, f3, by omega, f4⟩

set_option maxRecDepth 100000 in
set_option maxHeartbeats 40000000 in
theorem stL_2 (L : List Int) (d : Int) (hd : d ≤ 0) (W : World) (lo b i : Nat) (hs : GenV W lo b L i) (hi : i + 100 ≤ 1000000000) (x0 : Nat) (hk : PG.nx L i 14 = x0) (hr : x0 % 11 = 2) :
    Calls Tryz.prog 36 #[.pointer (some ⟨b, 0, none⟩), .int .i64 d] W fun r w' => ∃ v, r = .returned v ∧ Nw W.heap.size w' (PG.gS L PG.noneB 2 (i + 1)).1 v ∧ GenV w' lo b L (PG.gS L PG.noneB 2 (i + 1)).2 ∧ (PG.gS L PG.noneB 2 (i + 1)).2 ≤ i + 100 ∧ Chg (· = b) W w' := by
  obtain ⟨W0, hW0⟩ : ∃ U, W.alloc (.cells #[.int .i64 0, .int .i64 0, .string ⟨#[]⟩, .slice none 0 0] 33) = U := ⟨_, rfl⟩
  have X0 : ExG W W0 lo b L i := hW0 ▸ ExG.begin hs
  have N1 := Lib.hid (gpk X0 (by omega) 14 x0 14 (by decide) (by decide) rfl hk)
  have HW0 := Lib.hid hW0
  clear hs hW0 X0
  have hd0 : decide (d ≤ 0) = true := decide_eq_true hd
  have hx0 : x0 < 14 := hk ▸ PG.nx_lt _ _ (by decide)
  have hrm : (x0 : Int).tmod 11 = 2 := by rw [Int.tmod_eq_emod_of_nonneg (by omega)]; omega
  have hrm2 : IntKind.i64.wrap ((x0 : Int).tmod 11) = 2 := by rw [hrm]; rfl
  obtain ⟨z, hzz⟩ : ∃ z, TY.pick PG.vars (PG.nx L (i + 1) 4) = z := ⟨_, rfl⟩
  have hz : z.size ≤ 1000 := hzz ▸ pick_small (by decide) _
  have N2 := Lib.hid (fun V (h : ExG W V lo b L (i + 1)) => gvr h (by omega) hzz)
  obtain ⟨⟨t3, j3⟩, h3⟩ : ∃ p, PG.genI L 2 (i + 1 + 1) = p := ⟨_, rfl⟩
  have N3 := Lib.hid (fun V (h : ExG W V lo b L (i + 1 + 1)) => gsb (int_2 L) h (by omega) h3)
  have hG : (PG.gS L PG.noneB 2 (i + 1)) = (.mk 1 0 z [t3], j3) := by
    unfold PG.gS PG.asg
    simp [hzz, h3]
  rw [hG]
  clear hG hzz h3 hk hr
  go_enter Tryz.func36, Tryz.ntmps36
  go_wp2_with (first
    | (rw [HW0.out]; go_at_call 17; refine N1.out.mono ?_; clear N1; rintro r w1 ⟨rfl, X1, C1⟩; replace X1 := Lib.hid X1; clear C1)
    | (go_at_call 65; refine (N2.out _ X1.out).mono ?_; clear N2; rintro r w2 ⟨rfl, X2, C2⟩; replace X2 := Lib.hid X2; clear C2)
    | (go_at_call 66; refine (N3.out _ X2.out).mono ?_; clear N3; rintro r w3 ⟨k3, n3, s3, A3, m3, c3, rfl, V3, X3, B3, C3⟩; replace X3 := Lib.hid X3; replace V3 := Lib.hid (V3.lower (by have := X2.out.big; omega)); clear C3; obtain ⟨p0, p1, p2, p3, o0, o1, o2, o3⟩ := (X3.out.alloc (.cells #[.int .i64 k3, .int .i64 n3, .string s3, .slice A3 m3 c3] 33)).cells))
  obtain ⟨U, hU⟩ : ∃ U, ((((w3.alloc (.cells #[.int .i64 k3, .int .i64 n3, .string s3, .slice A3 m3 c3] 33)).setCell ⟨W.heap.size, 0, none⟩ (.int .i64 1)).setCell ⟨W.heap.size, 1, none⟩ (.int .i64 0)).setCell ⟨W.heap.size, 2, none⟩ (.string z)).setCell ⟨W.heap.size, 3, none⟩ (.slice (some ⟨w3.heap.size, 0, none⟩) 1 1) = U := ⟨_, rfl⟩
  rw [hU]
  have hbgE := X3.out.big
  obtain ⟨f1, f2, f3, f4⟩ := (X3.out.alloc (.cells #[.int .i64 k3, .int .i64 n3, .string s3, .slice A3 m3 c3] 33)).fin 1 0 z (.slice (some ⟨w3.heap.size, 0, none⟩) 1 1) (Nw.mk1 hbgE hz V3.out) hU
  refine bodyPost_ret (ret_N rfl _ rfl f1) rfl ?_
  exact ⟨_, rfl, f2, f3, by omega, f4⟩

set_option maxRecDepth 100000 in
set_option maxHeartbeats 40000000 in
theorem stL_3 (L : List Int) (d : Int) (hd : d ≤ 0) (W : World) (lo b i : Nat) (hs : GenV W lo b L i) (hi : i + 100 ≤ 1000000000) (x0 : Nat) (hk : PG.nx L i 14 = x0) (hr : x0 % 11 = 3) :
    Calls Tryz.prog 36 #[.pointer (some ⟨b, 0, none⟩), .int .i64 d] W fun r w' => ∃ v, r = .returned v ∧ Nw W.heap.size w' (PG.gS L PG.noneB 3 (i + 1)).1 v ∧ GenV w' lo b L (PG.gS L PG.noneB 3 (i + 1)).2 ∧ (PG.gS L PG.noneB 3 (i + 1)).2 ≤ i + 100 ∧ Chg (· = b) W w' := by
  obtain ⟨W0, hW0⟩ : ∃ U, W.alloc (.cells #[.int .i64 0, .int .i64 0, .string ⟨#[]⟩, .slice none 0 0] 33) = U := ⟨_, rfl⟩
  have X0 : ExG W W0 lo b L i := hW0 ▸ ExG.begin hs
  have N1 := Lib.hid (gpk X0 (by omega) 14 x0 14 (by decide) (by decide) rfl hk)
  have HW0 := Lib.hid hW0
  clear hs hW0 X0
  have hd0 : decide (d ≤ 0) = true := decide_eq_true hd
  have hx0 : x0 < 14 := hk ▸ PG.nx_lt _ _ (by decide)
  have hrm : (x0 : Int).tmod 11 = 3 := by rw [Int.tmod_eq_emod_of_nonneg (by omega)]; omega
  have hrm2 : IntKind.i64.wrap ((x0 : Int).tmod 11) = 3 := by rw [hrm]; rfl
  obtain ⟨⟨t2, j2⟩, h2⟩ : ∃ p, PG.genI L 0 (i + 1) = p := ⟨_, rfl⟩
  have N2 := Lib.hid (fun V (h : ExG W V lo b L (i + 1)) => gsb (int_0 L) h (by omega) h2)
  obtain ⟨y, hy3⟩ : ∃ y, PG.nx L (j2) 4 = y := ⟨_, rfl⟩
  have N3 := Lib.hid (fun V (h : ExG W V lo b L (j2)) (_ : j2 ≤ i + 1 + 3) => gpk h (by omega) 4 y 4 (by decide) (by decide) rfl hy3)
  obtain ⟨⟨t4, j4⟩, h4⟩ : ∃ p, PG.genI L 1 (j2 + 1) = p := ⟨_, rfl⟩
  have N4 := Lib.hid (fun V (h : ExG W V lo b L (j2 + 1)) (_ : j2 ≤ i + 1 + 3) => gsb (int_1 L) h (by omega) h4)
  obtain ⟨⟨t5, j5⟩, h5⟩ : ∃ p, PG.genI L 1 (j4) = p := ⟨_, rfl⟩
  have N5 := Lib.hid (fun V (h : ExG W V lo b L (j4)) (_ : j2 ≤ i + 1 + 3) (_ : j4 ≤ j2 + 1 + 9) => gsb (int_1 L) h (by omega) h5)
  have hG : (PG.gS L PG.noneB 3 (i + 1)) = (.mk 4 (y : Int) TY.eps [t2, t4, t5], j5) := by
    unfold PG.gS
    simp [h2, hy3, h4, h5]
  rw [hG]
  clear hG h2 hy3 h4 h5 hk hr
  go_enter Tryz.func36, Tryz.ntmps36
  go_wp2_with (first
    | (rw [HW0.out]; go_at_call 17; refine N1.out.mono ?_; clear N1; rintro r w1 ⟨rfl, X1, C1⟩; replace X1 := Lib.hid X1; clear C1)
    | (go_at_call 66; refine (N2.out _ X1.out).mono ?_; clear N2; rintro r w2 ⟨k2, n2, s2, A2, m2, c2, rfl, V2, X2, B2, C2⟩; replace X2 := Lib.hid X2; replace V2 := Lib.hid (V2.lower (by have := X1.out.big; omega)); clear C2; have gx2 : b < w2.heap.size := by have h1 := X2.out.lt; have h2 := X2.out.big; omega)
    | (go_at_call 17; refine (N3.out _ (X2.out.alloc _) B2).mono ?_; clear N3; rintro r w3 ⟨rfl, X3, C3⟩; replace X3 := Lib.hid X3; have D3 := Lib.hid (show Chg (· = b) w2 w3 from ((Chg.refl (· = b) w2).alloc _).trans C3 (fun _ _ e => e)); have lt3 := X3.out.lt; have bg3 := X2.out.big; replace V2 := Lib.hid (V2.out.keep (fun c h1 h2 => D3.out.block c h2 (by omega)) D3.out.size); have H2 := Lib.hid ((C3.block _ (by rw [World.size_alloc]; omega) (by omega)).trans (World.alloc_heap_new w2 (.cells #[.int .i64 k2, .int .i64 n2, .string s2, .slice A2 m2 c2] 33))); clear C3)
    | (go_at_call 66; refine (N4.out _ X3.out B2).mono ?_; clear N4; rintro r w4 ⟨k4, n4, s4, A4, m4, c4, rfl, V4, X4, B4, C4⟩; replace X4 := Lib.hid X4; have D4 := Lib.hid (show Chg (· = b) w3 w4 from C4); have lt4 := X4.out.lt; have bg4 := X3.out.big; replace V2 := Lib.hid (V2.out.keep (fun c h1 h2 => D4.out.block c h2 (by omega)) D4.out.size); replace H2 := Lib.hid ((D4.out.block _ (heap_lt H2.out) (by have := gx2; omega)).trans H2.out); replace V4 := Lib.hid (V4.lower (by have := X3.out.big; omega)); clear C4; have gx4 : b < w4.heap.size := by have h1 := X4.out.lt; have h2 := X4.out.big; omega))
  have hblt := X4.out.lt
  have hbgL := X4.out.big
  have hbx4 := World.alloc_heap_new w4 (.cells #[.int .i64 k4, .int .i64 n4, .string s4, .slice A4 m4 c4] 33)
  have XR := Lib.hid (X4.out.alloc (.cells #[.int .i64 k4, .int .i64 n4, .string s4, .slice A4 m4 c4] 33))
  have DR := Lib.hid (show Chg (· = b) w4 (w4.alloc (.cells #[.int .i64 k4, .int .i64 n4, .string s4, .slice A4 m4 c4] 33)) from (Chg.refl (· = b) w4).alloc _)
  have zR : (w4.alloc (.cells #[.int .i64 k4, .int .i64 n4, .string s4, .slice A4 m4 c4] 33)).heap.size = w4.heap.size + 1 := World.size_alloc _ _
  have hbx2 := (DR.out.block _ (heap_lt H2.out) (by have := heap_lt H2.out; have := gx2; omega)).trans H2.out
  replace V2 := Lib.hid (V2.out.keep (fun c h1 h2 => DR.out.block c h2 (by omega)) DR.out.size)
  replace V4 := Lib.hid (V4.out.keep (fun c h1 h2 => DR.out.block c h2 (by omega)) DR.out.size)
  obtain ⟨R0, hR0⟩ : ∃ U, (w4.alloc (.cells #[.int .i64 k4, .int .i64 n4, .string s4, .slice A4 m4 c4] 33)) = U := ⟨_, rfl⟩
  rw [hR0] at hbx2 hbx4 XR zR V2 V4 ⊢
  obtain ⟨ya2, yb2, yc2, yd2⟩ := box_cellsG hbx2
  have HB2 := Lib.hid hbx2
  obtain ⟨ya4, yb4, yc4, yd4⟩ := box_cellsG hbx4
  have HB4 := Lib.hid hbx4
  have XD := Lib.hid (XR.out.step (XR.out.src.chg ((Chg.refl (fun _ => False) R0).drew) (fun e => e) (fun _ e => e.elim)) ((Chg.refl (· = b) R0).drew))
  clear hR0 DR hbx2 hbx4
  go_region_law
    (first
      | (go_simp; go_at_call 66; refine (N5.out _ XD.out B2 B4).mono ?_; clear N5; rintro r w5 ⟨k5, n5, s5, A5, m5, c5, rfl, V5, X5, B5, C5⟩
         replace C5 := Lib.hid (show Chg (· = b) R0 w5 from ((Chg.refl (· = b) R0).drew).trans C5 (fun _ _ e => e))
         replace X5 := Lib.hid X5
         replace V5 := Lib.hid (show Nw (W.heap.size + 1) w5 t5 (ndv k5 n5 s5 (.slice A5 m5 c5)) from V5.lower (show W.heap.size + 1 ≤ R0.heap.size by omega))
         obtain ⟨za2, zb2, zc2, zd2⟩ := box_cellsG ((C5.out.block _ (heap_lt HB2.out) (by have := gx2; omega)).trans HB2.out)
         obtain ⟨za4, zb4, zc4, zd4⟩ := box_cellsG ((C5.out.block _ (heap_lt HB4.out) (by have := gx4; omega)).trans HB4.out)
         obtain ⟨p0, p1, p2, p3, o0, o1, o2, o3⟩ := (X5.out.alloc (.cells #[.int .i64 k2, .int .i64 n2, .string s2, .slice A2 m2 c2, .int .i64 k4, .int .i64 n4, .string s4, .slice A4 m4 c4, .int .i64 k5, .int .i64 n5, .string s5, .slice A5 m5 c5] 33)).cells))
  all_goals
    go_wp2_with fail
    obtain ⟨U, hU⟩ : ∃ U, ((((w5.alloc (.cells #[.int .i64 k2, .int .i64 n2, .string s2, .slice A2 m2 c2, .int .i64 k4, .int .i64 n4, .string s4, .slice A4 m4 c4, .int .i64 k5, .int .i64 n5, .string s5, .slice A5 m5 c5] 33)).setCell ⟨W.heap.size, 0, none⟩ (.int .i64 4)).setCell ⟨W.heap.size, 1, none⟩ (.int .i64 (y : Int))).setCell ⟨W.heap.size, 2, none⟩ (.string ⟨#[]⟩)).setCell ⟨W.heap.size, 3, none⟩ (.slice (some ⟨w5.heap.size, 0, none⟩) 3 3) = U := ⟨_, rfl⟩
    rw [hU]
    have hbgE := X5.out.big
    obtain ⟨f1, f2, f3, f4⟩ := (X5.out.alloc (.cells #[.int .i64 k2, .int .i64 n2, .string s2, .slice A2 m2 c2, .int .i64 k4, .int .i64 n4, .string s4, .slice A4 m4 c4, .int .i64 k5, .int .i64 n5, .string s5, .slice A5 m5 c5] 33)).fin 4 (y : Int) ⟨#[]⟩ (.slice (some ⟨w5.heap.size, 0, none⟩) 3 3) (Nw.mk3 hbgE (by decide) (V2.out.keep (fun c h1 h2 => C5.out.block c h2 (by omega)) C5.out.size) (V4.out.keep (fun c h1 h2 => C5.out.block c h2 (by omega)) C5.out.size) V5.out) hU
    refine bodyPost_ret (ret_N rfl _ rfl f1) rfl ?_
    exact ⟨_, rfl, f2, f3, by omega, f4⟩

set_option maxRecDepth 100000 in
set_option maxHeartbeats 40000000 in
theorem stL_4 (L : List Int) (d : Int) (hd : d ≤ 0) (W : World) (lo b i : Nat) (hs : GenV W lo b L i) (hi : i + 100 ≤ 1000000000) (x0 : Nat) (hk : PG.nx L i 14 = x0) (hr : x0 % 11 = 4) :
    Calls Tryz.prog 36 #[.pointer (some ⟨b, 0, none⟩), .int .i64 d] W fun r w' => ∃ v, r = .returned v ∧ Nw W.heap.size w' (PG.gS L PG.noneB 4 (i + 1)).1 v ∧ GenV w' lo b L (PG.gS L PG.noneB 4 (i + 1)).2 ∧ (PG.gS L PG.noneB 4 (i + 1)).2 ≤ i + 100 ∧ Chg (· = b) W w' := by
  obtain ⟨W0, hW0⟩ : ∃ U, W.alloc (.cells #[.int .i64 0, .int .i64 0, .string ⟨#[]⟩, .slice none 0 0] 33) = U := ⟨_, rfl⟩
  have X0 : ExG W W0 lo b L i := hW0 ▸ ExG.begin hs
  have N1 := Lib.hid (gpk X0 (by omega) 14 x0 14 (by decide) (by decide) rfl hk)
  have HW0 := Lib.hid hW0
  clear hs hW0 X0
  have hd0 : decide (d ≤ 0) = true := decide_eq_true hd
  have hx0 : x0 < 14 := hk ▸ PG.nx_lt _ _ (by decide)
  have hrm : (x0 : Int).tmod 11 = 4 := by rw [Int.tmod_eq_emod_of_nonneg (by omega)]; omega
  have hrm2 : IntKind.i64.wrap ((x0 : Int).tmod 11) = 4 := by rw [hrm]; rfl
  obtain ⟨⟨t2, j2⟩, h2⟩ : ∃ p, PG.genI L 0 (i + 1) = p := ⟨_, rfl⟩
  have N2 := Lib.hid (fun V (h : ExG W V lo b L (i + 1)) => gsb (int_0 L) h (by omega) h2)
  obtain ⟨y, hy3⟩ : ∃ y, PG.nx L (j2) 4 = y := ⟨_, rfl⟩
  have N3 := Lib.hid (fun V (h : ExG W V lo b L (j2)) (_ : j2 ≤ i + 1 + 3) => gpk h (by omega) 4 y 4 (by decide) (by decide) rfl hy3)
  obtain ⟨⟨t4, j4⟩, h4⟩ : ∃ p, PG.genI L 1 (j2 + 1) = p := ⟨_, rfl⟩
  have N4 := Lib.hid (fun V (h : ExG W V lo b L (j2 + 1)) (_ : j2 ≤ i + 1 + 3) => gsb (int_1 L) h (by omega) h4)
  obtain ⟨⟨t5, j5⟩, h5⟩ : ∃ p, PG.genI L 1 (j4) = p := ⟨_, rfl⟩
  have N5 := Lib.hid (fun V (h : ExG W V lo b L (j4)) (_ : j2 ≤ i + 1 + 3) (_ : j4 ≤ j2 + 1 + 9) => gsb (int_1 L) h (by omega) h5)
  have hG : (PG.gS L PG.noneB 4 (i + 1)) = (.mk 4 (y : Int) TY.eps [t2, t4, t5], j5) := by
    unfold PG.gS
    simp [h2, hy3, h4, h5]
  rw [hG]
  clear hG h2 hy3 h4 h5 hk hr
  go_enter Tryz.func36, Tryz.ntmps36
  go_wp2_with (first
    | (rw [HW0.out]; go_at_call 17; refine N1.out.mono ?_; clear N1; rintro r w1 ⟨rfl, X1, C1⟩; replace X1 := Lib.hid X1; clear C1)
    | (go_at_call 66; refine (N2.out _ X1.out).mono ?_; clear N2; rintro r w2 ⟨k2, n2, s2, A2, m2, c2, rfl, V2, X2, B2, C2⟩; replace X2 := Lib.hid X2; replace V2 := Lib.hid (V2.lower (by have := X1.out.big; omega)); clear C2; have gx2 : b < w2.heap.size := by have h1 := X2.out.lt; have h2 := X2.out.big; omega)
    | (go_at_call 17; refine (N3.out _ (X2.out.alloc _) B2).mono ?_; clear N3; rintro r w3 ⟨rfl, X3, C3⟩; replace X3 := Lib.hid X3; have D3 := Lib.hid (show Chg (· = b) w2 w3 from ((Chg.refl (· = b) w2).alloc _).trans C3 (fun _ _ e => e)); have lt3 := X3.out.lt; have bg3 := X2.out.big; replace V2 := Lib.hid (V2.out.keep (fun c h1 h2 => D3.out.block c h2 (by omega)) D3.out.size); have H2 := Lib.hid ((C3.block _ (by rw [World.size_alloc]; omega) (by omega)).trans (World.alloc_heap_new w2 (.cells #[.int .i64 k2, .int .i64 n2, .string s2, .slice A2 m2 c2] 33))); clear C3)
    | (go_at_call 66; refine (N4.out _ X3.out B2).mono ?_; clear N4; rintro r w4 ⟨k4, n4, s4, A4, m4, c4, rfl, V4, X4, B4, C4⟩; replace X4 := Lib.hid X4; have D4 := Lib.hid (show Chg (· = b) w3 w4 from C4); have lt4 := X4.out.lt; have bg4 := X3.out.big; replace V2 := Lib.hid (V2.out.keep (fun c h1 h2 => D4.out.block c h2 (by omega)) D4.out.size); replace H2 := Lib.hid ((D4.out.block _ (heap_lt H2.out) (by have := gx2; omega)).trans H2.out); replace V4 := Lib.hid (V4.lower (by have := X3.out.big; omega)); clear C4; have gx4 : b < w4.heap.size := by have h1 := X4.out.lt; have h2 := X4.out.big; omega))
  have hblt := X4.out.lt
  have hbgL := X4.out.big
  have hbx4 := World.alloc_heap_new w4 (.cells #[.int .i64 k4, .int .i64 n4, .string s4, .slice A4 m4 c4] 33)
  have XR := Lib.hid (X4.out.alloc (.cells #[.int .i64 k4, .int .i64 n4, .string s4, .slice A4 m4 c4] 33))
  have DR := Lib.hid (show Chg (· = b) w4 (w4.alloc (.cells #[.int .i64 k4, .int .i64 n4, .string s4, .slice A4 m4 c4] 33)) from (Chg.refl (· = b) w4).alloc _)
  have zR : (w4.alloc (.cells #[.int .i64 k4, .int .i64 n4, .string s4, .slice A4 m4 c4] 33)).heap.size = w4.heap.size + 1 := World.size_alloc _ _
  have hbx2 := (DR.out.block _ (heap_lt H2.out) (by have := heap_lt H2.out; have := gx2; omega)).trans H2.out
  replace V2 := Lib.hid (V2.out.keep (fun c h1 h2 => DR.out.block c h2 (by omega)) DR.out.size)
  replace V4 := Lib.hid (V4.out.keep (fun c h1 h2 => DR.out.block c h2 (by omega)) DR.out.size)
  obtain ⟨R0, hR0⟩ : ∃ U, (w4.alloc (.cells #[.int .i64 k4, .int .i64 n4, .string s4, .slice A4 m4 c4] 33)) = U := ⟨_, rfl⟩
  rw [hR0] at hbx2 hbx4 XR zR V2 V4 ⊢
  obtain ⟨ya2, yb2, yc2, yd2⟩ := box_cellsG hbx2
  have HB2 := Lib.hid hbx2
  obtain ⟨ya4, yb4, yc4, yd4⟩ := box_cellsG hbx4
  have HB4 := Lib.hid hbx4
  have XD := Lib.hid (XR.out.step (XR.out.src.chg ((Chg.refl (fun _ => False) R0).drew) (fun e => e) (fun _ e => e.elim)) ((Chg.refl (· = b) R0).drew))
  clear hR0 DR hbx2 hbx4
  go_region_law
    (first
      | (go_simp; go_at_call 66; refine (N5.out _ XD.out B2 B4).mono ?_; clear N5; rintro r w5 ⟨k5, n5, s5, A5, m5, c5, rfl, V5, X5, B5, C5⟩
         replace C5 := Lib.hid (show Chg (· = b) R0 w5 from ((Chg.refl (· = b) R0).drew).trans C5 (fun _ _ e => e))
         replace X5 := Lib.hid X5
         replace V5 := Lib.hid (show Nw (W.heap.size + 1) w5 t5 (ndv k5 n5 s5 (.slice A5 m5 c5)) from V5.lower (show W.heap.size + 1 ≤ R0.heap.size by omega))
         obtain ⟨za2, zb2, zc2, zd2⟩ := box_cellsG ((C5.out.block _ (heap_lt HB2.out) (by have := gx2; omega)).trans HB2.out)
         obtain ⟨za4, zb4, zc4, zd4⟩ := box_cellsG ((C5.out.block _ (heap_lt HB4.out) (by have := gx4; omega)).trans HB4.out)
         obtain ⟨p0, p1, p2, p3, o0, o1, o2, o3⟩ := (X5.out.alloc (.cells #[.int .i64 k2, .int .i64 n2, .string s2, .slice A2 m2 c2, .int .i64 k4, .int .i64 n4, .string s4, .slice A4 m4 c4, .int .i64 k5, .int .i64 n5, .string s5, .slice A5 m5 c5] 33)).cells))
  all_goals
    go_wp2_with fail
    obtain ⟨U, hU⟩ : ∃ U, ((((w5.alloc (.cells #[.int .i64 k2, .int .i64 n2, .string s2, .slice A2 m2 c2, .int .i64 k4, .int .i64 n4, .string s4, .slice A4 m4 c4, .int .i64 k5, .int .i64 n5, .string s5, .slice A5 m5 c5] 33)).setCell ⟨W.heap.size, 0, none⟩ (.int .i64 4)).setCell ⟨W.heap.size, 1, none⟩ (.int .i64 (y : Int))).setCell ⟨W.heap.size, 2, none⟩ (.string ⟨#[]⟩)).setCell ⟨W.heap.size, 3, none⟩ (.slice (some ⟨w5.heap.size, 0, none⟩) 3 3) = U := ⟨_, rfl⟩
    rw [hU]
    have hbgE := X5.out.big
    obtain ⟨f1, f2, f3, f4⟩ := (X5.out.alloc (.cells #[.int .i64 k2, .int .i64 n2, .string s2, .slice A2 m2 c2, .int .i64 k4, .int .i64 n4, .string s4, .slice A4 m4 c4, .int .i64 k5, .int .i64 n5, .string s5, .slice A5 m5 c5] 33)).fin 4 (y : Int) ⟨#[]⟩ (.slice (some ⟨w5.heap.size, 0, none⟩) 3 3) (Nw.mk3 hbgE (by decide) (V2.out.keep (fun c h1 h2 => C5.out.block c h2 (by omega)) C5.out.size) (V4.out.keep (fun c h1 h2 => C5.out.block c h2 (by omega)) C5.out.size) V5.out) hU
    refine bodyPost_ret (ret_N rfl _ rfl f1) rfl ?_
    exact ⟨_, rfl, f2, f3, by omega, f4⟩

set_option maxRecDepth 100000 in
set_option maxHeartbeats 40000000 in
theorem stL_5 (L : List Int) (d : Int) (hd : d ≤ 0) (W : World) (lo b i : Nat) (hs : GenV W lo b L i) (hi : i + 100 ≤ 1000000000) (x0 : Nat) (hk : PG.nx L i 14 = x0) (hr : x0 % 11 = 5) :
    Calls Tryz.prog 36 #[.pointer (some ⟨b, 0, none⟩), .int .i64 d] W fun r w' => ∃ v, r = .returned v ∧ Nw W.heap.size w' (PG.gS L PG.noneB 5 (i + 1)).1 v ∧ GenV w' lo b L (PG.gS L PG.noneB 5 (i + 1)).2 ∧ (PG.gS L PG.noneB 5 (i + 1)).2 ≤ i + 100 ∧ Chg (· = b) W w' := by
  obtain ⟨W0, hW0⟩ : ∃ U, W.alloc (.cells #[.int .i64 0, .int .i64 0, .string ⟨#[]⟩, .slice none 0 0] 33) = U := ⟨_, rfl⟩
  have X0 : ExG W W0 lo b L i := hW0 ▸ ExG.begin hs
  have N1 := Lib.hid (gpk X0 (by omega) 14 x0 14 (by decide) (by decide) rfl hk)
  have HW0 := Lib.hid hW0
  clear hs hW0 X0
  have hd0 : decide (d ≤ 0) = true := decide_eq_true hd
  have hx0 : x0 < 14 := hk ▸ PG.nx_lt _ _ (by decide)
  have hrm : (x0 : Int).tmod 11 = 5 := by rw [Int.tmod_eq_emod_of_nonneg (by omega)]; omega
  have hrm2 : IntKind.i64.wrap ((x0 : Int).tmod 11) = 5 := by rw [hrm]; rfl
  obtain ⟨y, hy2⟩ : ∃ y, PG.nx L (i + 1) 3 = y := ⟨_, rfl⟩
  have N2 := Lib.hid (fun V (h : ExG W V lo b L (i + 1)) => gpk h (by omega) 3 y 3 (by decide) (by decide) rfl hy2)
  have hG : (PG.gS L PG.noneB 5 (i + 1)) = (.mk 5 (y : Int) TY.eps [], i + 1 + 1) := by
    unfold PG.gS
    simp [hy2]
  rw [hG]
  clear hG hy2 hk hr
  go_enter Tryz.func36, Tryz.ntmps36
  go_wp2_with (first
    | (rw [HW0.out]; go_at_call 17; refine N1.out.mono ?_; clear N1; rintro r w1 ⟨rfl, X1, C1⟩; replace X1 := Lib.hid X1; clear C1)
    | (go_at_call 17; refine (N2.out _ X1.out).mono ?_; clear N2; rintro r w2 ⟨rfl, X2, C2⟩; replace X2 := Lib.hid X2; clear C2; obtain ⟨p0, p1, p2, p3, o0, o1, o2, o3⟩ := X2.out.cells))
  obtain ⟨U, hU⟩ : ∃ U, (((w2.setCell ⟨W.heap.size, 0, none⟩ (.int .i64 5)).setCell ⟨W.heap.size, 1, none⟩ (.int .i64 (y : Int))).setCell ⟨W.heap.size, 2, none⟩ (.string ⟨#[]⟩)).setCell ⟨W.heap.size, 3, none⟩ (.slice none 0 0) = U := ⟨_, rfl⟩
  rw [hU]
  obtain ⟨f1, f2, f3, f4⟩ := X2.out.fin 5 (y : Int) ⟨#[]⟩ (.slice none 0 0) (Nw.leaf _ _ _ _ _ (by decide)) hU
  refine bodyPost_ret (ret_N rfl _ rfl f1) rfl ?_
  exact ⟨_, rfl, f2, f3, by omega, f4⟩

set_option maxRecDepth 100000 in
set_option maxHeartbeats 40000000 in
theorem stL_6 (L : List Int) (d : Int) (hd : d ≤ 0) (W : World) (lo b i : Nat) (hs : GenV W lo b L i) (hi : i + 100 ≤ 1000000000) (x0 : Nat) (hk : PG.nx L i 14 = x0) (hr : x0 % 11 = 6) :
    Calls Tryz.prog 36 #[.pointer (some ⟨b, 0, none⟩), .int .i64 d] W fun r w' => ∃ v, r = .returned v ∧ Nw W.heap.size w' (PG.gS L PG.noneB 6 (i + 1)).1 v ∧ GenV w' lo b L (PG.gS L PG.noneB 6 (i + 1)).2 ∧ (PG.gS L PG.noneB 6 (i + 1)).2 ≤ i + 100 ∧ Chg (· = b) W w' := by
  obtain ⟨W0, hW0⟩ : ∃ U, W.alloc (.cells #[.int .i64 0, .int .i64 0, .string ⟨#[]⟩, .slice none 0 0] 33) = U := ⟨_, rfl⟩
  have X0 : ExG W W0 lo b L i := hW0 ▸ ExG.begin hs
  have N1 := Lib.hid (gpk X0 (by omega) 14 x0 14 (by decide) (by decide) rfl hk)
  have HW0 := Lib.hid hW0
  clear hs hW0 X0
  have hd0 : decide (d ≤ 0) = true := decide_eq_true hd
  have hx0 : x0 < 14 := hk ▸ PG.nx_lt _ _ (by decide)
  have hrm : (x0 : Int).tmod 11 = 6 := by rw [Int.tmod_eq_emod_of_nonneg (by omega)]; omega
  have hrm2 : IntKind.i64.wrap ((x0 : Int).tmod 11) = 6 := by rw [hrm]; rfl
  obtain ⟨y, hy2⟩ : ∃ y, PG.nx L (i + 1) 3 = y := ⟨_, rfl⟩
  have N2 := Lib.hid (fun V (h : ExG W V lo b L (i + 1)) => gpk h (by omega) 3 y 3 (by decide) (by decide) rfl hy2)
  have hG : (PG.gS L PG.noneB 6 (i + 1)) = (.mk 6 (y : Int) TY.eps [], i + 1 + 1) := by
    unfold PG.gS
    simp [hy2]
  rw [hG]
  clear hG hy2 hk hr
  go_enter Tryz.func36, Tryz.ntmps36
  go_wp2_with (first
    | (rw [HW0.out]; go_at_call 17; refine N1.out.mono ?_; clear N1; rintro r w1 ⟨rfl, X1, C1⟩; replace X1 := Lib.hid X1; clear C1)
    | (go_at_call 17; refine (N2.out _ X1.out).mono ?_; clear N2; rintro r w2 ⟨rfl, X2, C2⟩; replace X2 := Lib.hid X2; clear C2; obtain ⟨p0, p1, p2, p3, o0, o1, o2, o3⟩ := X2.out.cells))
  obtain ⟨U, hU⟩ : ∃ U, (((w2.setCell ⟨W.heap.size, 0, none⟩ (.int .i64 6)).setCell ⟨W.heap.size, 1, none⟩ (.int .i64 (y : Int))).setCell ⟨W.heap.size, 2, none⟩ (.string ⟨#[]⟩)).setCell ⟨W.heap.size, 3, none⟩ (.slice none 0 0) = U := ⟨_, rfl⟩
  rw [hU]
  obtain ⟨f1, f2, f3, f4⟩ := X2.out.fin 6 (y : Int) ⟨#[]⟩ (.slice none 0 0) (Nw.leaf _ _ _ _ _ (by decide)) hU
  refine bodyPost_ret (ret_N rfl _ rfl f1) rfl ?_
  exact ⟨_, rfl, f2, f3, by omega, f4⟩

set_option maxRecDepth 100000 in
set_option maxHeartbeats 40000000 in
theorem stL_7 (L : List Int) (d : Int) (hd : d ≤ 0) (W : World) (lo b i : Nat) (hs : GenV W lo b L i) (hi : i + 100 ≤ 1000000000) (x0 : Nat) (hk : PG.nx L i 14 = x0) (hr : x0 % 11 = 7) :
    Calls Tryz.prog 36 #[.pointer (some ⟨b, 0, none⟩), .int .i64 d] W fun r w' => ∃ v, r = .returned v ∧ Nw W.heap.size w' (PG.gS L PG.noneB 7 (i + 1)).1 v ∧ GenV w' lo b L (PG.gS L PG.noneB 7 (i + 1)).2 ∧ (PG.gS L PG.noneB 7 (i + 1)).2 ≤ i + 100 ∧ Chg (· = b) W w' := by
  obtain ⟨W0, hW0⟩ : ∃ U, W.alloc (.cells #[.int .i64 0, .int .i64 0, .string ⟨#[]⟩, .slice none 0 0] 33) = U := ⟨_, rfl⟩
  have X0 : ExG W W0 lo b L i := hW0 ▸ ExG.begin hs
  have N1 := Lib.hid (gpk X0 (by omega) 14 x0 14 (by decide) (by decide) rfl hk)
  have HW0 := Lib.hid hW0
  clear hs hW0 X0
  have hd0 : decide (d ≤ 0) = true := decide_eq_true hd
  have hx0 : x0 < 14 := hk ▸ PG.nx_lt _ _ (by decide)
  have hrm : (x0 : Int).tmod 11 = 7 := by rw [Int.tmod_eq_emod_of_nonneg (by omega)]; omega
  have hrm2 : IntKind.i64.wrap ((x0 : Int).tmod 11) = 7 := by rw [hrm]; rfl
  have hG : (PG.gS L PG.noneB 7 (i + 1)) = (.mk 7 0 TY.eps [], i + 1) := by
    unfold PG.gS
    simp []
  rw [hG]
  clear hG hk hr
  go_enter Tryz.func36, Tryz.ntmps36
  go_wp2_with (first
    | (rw [HW0.out]; go_at_call 17; refine N1.out.mono ?_; clear N1; rintro r w1 ⟨rfl, X1, C1⟩; replace X1 := Lib.hid X1; clear C1; obtain ⟨p0, p1, p2, p3, o0, o1, o2, o3⟩ := X1.out.cells))
  obtain ⟨U, hU⟩ : ∃ U, (((w1.setCell ⟨W.heap.size, 0, none⟩ (.int .i64 7)).setCell ⟨W.heap.size, 1, none⟩ (.int .i64 0)).setCell ⟨W.heap.size, 2, none⟩ (.string ⟨#[]⟩)).setCell ⟨W.heap.size, 3, none⟩ (.slice none 0 0) = U := ⟨_, rfl⟩
  rw [hU]
  obtain ⟨f1, f2, f3, f4⟩ := X1.out.fin 7 0 ⟨#[]⟩ (.slice none 0 0) (Nw.leaf _ _ _ _ _ (by decide)) hU
  refine bodyPost_ret (ret_N rfl _ rfl f1) rfl ?_
  exact ⟨_, rfl, f2, f3, by omega, f4⟩

set_option maxRecDepth 100000 in
set_option maxHeartbeats 40000000 in
theorem stL_8 (L : List Int) (d : Int) (hd : d ≤ 0) (W : World) (lo b i : Nat) (hs : GenV W lo b L i) (hi : i + 100 ≤ 1000000000) (x0 : Nat) (hk : PG.nx L i 14 = x0) (hr : x0 % 11 = 8) :
    Calls Tryz.prog 36 #[.pointer (some ⟨b, 0, none⟩), .int .i64 d] W fun r w' => ∃ v, r = .returned v ∧ Nw W.heap.size w' (PG.gS L PG.noneB 8 (i + 1)).1 v ∧ GenV w' lo b L (PG.gS L PG.noneB 8 (i + 1)).2 ∧ (PG.gS L PG.noneB 8 (i + 1)).2 ≤ i + 100 ∧ Chg (· = b) W w' := by
  obtain ⟨W0, hW0⟩ : ∃ U, W.alloc (.cells #[.int .i64 0, .int .i64 0, .string ⟨#[]⟩, .slice none 0 0] 33) = U := ⟨_, rfl⟩
  have X0 : ExG W W0 lo b L i := hW0 ▸ ExG.begin hs
  have N1 := Lib.hid (gpk X0 (by omega) 14 x0 14 (by decide) (by decide) rfl hk)
  have HW0 := Lib.hid hW0
  clear hs hW0 X0
  have hd0 : decide (d ≤ 0) = true := decide_eq_true hd
  have hx0 : x0 < 14 := hk ▸ PG.nx_lt _ _ (by decide)
  have hrm : (x0 : Int).tmod 11 = 8 := by rw [Int.tmod_eq_emod_of_nonneg (by omega)]; omega
  have hrm2 : IntKind.i64.wrap ((x0 : Int).tmod 11) = 8 := by rw [hrm]; rfl
  obtain ⟨⟨t2, j2⟩, h2⟩ : ∃ p, PG.genI L 0 (i + 1) = p := ⟨_, rfl⟩
  have N2 := Lib.hid (fun V (h : ExG W V lo b L (i + 1)) => gsb (int_0 L) h (by omega) h2)
  obtain ⟨⟨t3, j3⟩, h3⟩ : ∃ p, PG.genI L 1 (j2) = p := ⟨_, rfl⟩
  have N3 := Lib.hid (fun V (h : ExG W V lo b L (j2)) (_ : j2 ≤ i + 1 + 3) => gsb (int_1 L) h (by omega) h3)
  have hG : (PG.gS L PG.noneB 8 (i + 1)) = (.mk 8 0 TY.eps [t2, t3], j3) := by
    unfold PG.gS
    simp [h2, h3]
  rw [hG]
  clear hG h2 h3 hk hr
  go_enter Tryz.func36, Tryz.ntmps36
  go_wp2_with (first
    | (rw [HW0.out]; go_at_call 17; refine N1.out.mono ?_; clear N1; rintro r w1 ⟨rfl, X1, C1⟩; replace X1 := Lib.hid X1; clear C1)
    | (go_at_call 66; refine (N2.out _ X1.out).mono ?_; clear N2; rintro r w2 ⟨k2, n2, s2, A2, m2, c2, rfl, V2, X2, B2, C2⟩; replace X2 := Lib.hid X2; replace V2 := Lib.hid (V2.lower (by have := X1.out.big; omega)); clear C2; have gx2 : b < w2.heap.size := by have h1 := X2.out.lt; have h2 := X2.out.big; omega))
  have hblt := X2.out.lt
  have hbgL := X2.out.big
  have hbx2 := World.alloc_heap_new w2 (.cells #[.int .i64 k2, .int .i64 n2, .string s2, .slice A2 m2 c2] 33)
  have XR := Lib.hid (X2.out.alloc (.cells #[.int .i64 k2, .int .i64 n2, .string s2, .slice A2 m2 c2] 33))
  have DR := Lib.hid (show Chg (· = b) w2 (w2.alloc (.cells #[.int .i64 k2, .int .i64 n2, .string s2, .slice A2 m2 c2] 33)) from (Chg.refl (· = b) w2).alloc _)
  have zR : (w2.alloc (.cells #[.int .i64 k2, .int .i64 n2, .string s2, .slice A2 m2 c2] 33)).heap.size = w2.heap.size + 1 := World.size_alloc _ _
  replace V2 := Lib.hid (V2.out.keep (fun c h1 h2 => DR.out.block c h2 (by omega)) DR.out.size)
  obtain ⟨R0, hR0⟩ : ∃ U, (w2.alloc (.cells #[.int .i64 k2, .int .i64 n2, .string s2, .slice A2 m2 c2] 33)) = U := ⟨_, rfl⟩
  rw [hR0] at hbx2 XR zR V2 ⊢
  obtain ⟨ya2, yb2, yc2, yd2⟩ := box_cellsG hbx2
  have HB2 := Lib.hid hbx2
  have XD := Lib.hid (XR.out.step (XR.out.src.chg ((Chg.refl (fun _ => False) R0).drew) (fun e => e) (fun _ e => e.elim)) ((Chg.refl (· = b) R0).drew))
  clear hR0 DR hbx2
  go_region_law
    (first
      | (go_simp; go_at_call 66; refine (N3.out _ XD.out B2).mono ?_; clear N3; rintro r w3 ⟨k3, n3, s3, A3, m3, c3, rfl, V3, X3, B3, C3⟩
         replace C3 := Lib.hid (show Chg (· = b) R0 w3 from ((Chg.refl (· = b) R0).drew).trans C3 (fun _ _ e => e))
         replace X3 := Lib.hid X3
         replace V3 := Lib.hid (show Nw (W.heap.size + 1) w3 t3 (ndv k3 n3 s3 (.slice A3 m3 c3)) from V3.lower (show W.heap.size + 1 ≤ R0.heap.size by omega))
         obtain ⟨za2, zb2, zc2, zd2⟩ := box_cellsG ((C3.out.block _ (heap_lt HB2.out) (by have := gx2; omega)).trans HB2.out)
         obtain ⟨p0, p1, p2, p3, o0, o1, o2, o3⟩ := (X3.out.alloc (.cells #[.int .i64 k2, .int .i64 n2, .string s2, .slice A2 m2 c2, .int .i64 k3, .int .i64 n3, .string s3, .slice A3 m3 c3] 33)).cells))
  all_goals
    go_wp2_with fail
    obtain ⟨U, hU⟩ : ∃ U, ((((w3.alloc (.cells #[.int .i64 k2, .int .i64 n2, .string s2, .slice A2 m2 c2, .int .i64 k3, .int .i64 n3, .string s3, .slice A3 m3 c3] 33)).setCell ⟨W.heap.size, 0, none⟩ (.int .i64 8)).setCell ⟨W.heap.size, 1, none⟩ (.int .i64 0)).setCell ⟨W.heap.size, 2, none⟩ (.string ⟨#[]⟩)).setCell ⟨W.heap.size, 3, none⟩ (.slice (some ⟨w3.heap.size, 0, none⟩) 2 2) = U := ⟨_, rfl⟩
    rw [hU]
    have hbgE := X3.out.big
    obtain ⟨f1, f2, f3, f4⟩ := (X3.out.alloc (.cells #[.int .i64 k2, .int .i64 n2, .string s2, .slice A2 m2 c2, .int .i64 k3, .int .i64 n3, .string s3, .slice A3 m3 c3] 33)).fin 8 0 ⟨#[]⟩ (.slice (some ⟨w3.heap.size, 0, none⟩) 2 2) (Nw.mk2 hbgE (by decide) (V2.out.keep (fun c h1 h2 => C3.out.block c h2 (by omega)) C3.out.size) V3.out) hU
    refine bodyPost_ret (ret_N rfl _ rfl f1) rfl ?_
    exact ⟨_, rfl, f2, f3, by omega, f4⟩

set_option maxRecDepth 100000 in
set_option maxHeartbeats 40000000 in
theorem stL_9 (L : List Int) (d : Int) (hd : d ≤ 0) (W : World) (lo b i : Nat) (hs : GenV W lo b L i) (hi : i + 100 ≤ 1000000000) (x0 : Nat) (hk : PG.nx L i 14 = x0) (hr : x0 % 11 = 9) :
    Calls Tryz.prog 36 #[.pointer (some ⟨b, 0, none⟩), .int .i64 d] W fun r w' => ∃ v, r = .returned v ∧ Nw W.heap.size w' (PG.gS L PG.noneB 9 (i + 1)).1 v ∧ GenV w' lo b L (PG.gS L PG.noneB 9 (i + 1)).2 ∧ (PG.gS L PG.noneB 9 (i + 1)).2 ≤ i + 100 ∧ Chg (· = b) W w' := by
  obtain ⟨W0, hW0⟩ : ∃ U, W.alloc (.cells #[.int .i64 0, .int .i64 0, .string ⟨#[]⟩, .slice none 0 0] 33) = U := ⟨_, rfl⟩
  have X0 : ExG W W0 lo b L i := hW0 ▸ ExG.begin hs
  have N1 := Lib.hid (gpk X0 (by omega) 14 x0 14 (by decide) (by decide) rfl hk)
  have HW0 := Lib.hid hW0
  clear hs hW0 X0
  have hd0 : decide (d ≤ 0) = true := decide_eq_true hd
  have hx0 : x0 < 14 := hk ▸ PG.nx_lt _ _ (by decide)
  have hrm : (x0 : Int).tmod 11 = 9 := by rw [Int.tmod_eq_emod_of_nonneg (by omega)]; omega
  have hrm2 : IntKind.i64.wrap ((x0 : Int).tmod 11) = 9 := by rw [hrm]; rfl
  obtain ⟨⟨t2, j2⟩, h2⟩ : ∃ p, PG.genI L 1 (i + 1) = p := ⟨_, rfl⟩
  have N2 := Lib.hid (fun V (h : ExG W V lo b L (i + 1)) => gsb (int_1 L) h (by omega) h2)
  have hG : (PG.gS L PG.noneB 9 (i + 1)) = (.mk 9 0 TY.eps [t2], j2) := by
    unfold PG.gS
    simp [h2]
  rw [hG]
  clear hG h2 hk hr
  go_enter Tryz.func36, Tryz.ntmps36
  go_wp2_with (first
    | (rw [HW0.out]; go_at_call 17; refine N1.out.mono ?_; clear N1; rintro r w1 ⟨rfl, X1, C1⟩; replace X1 := Lib.hid X1; clear C1)
    | (go_at_call 66; refine (N2.out _ X1.out).mono ?_; clear N2; rintro r w2 ⟨k2, n2, s2, A2, m2, c2, rfl, V2, X2, B2, C2⟩; replace X2 := Lib.hid X2; replace V2 := Lib.hid (V2.lower (by have := X1.out.big; omega)); clear C2; obtain ⟨p0, p1, p2, p3, o0, o1, o2, o3⟩ := (X2.out.alloc (.cells #[.int .i64 k2, .int .i64 n2, .string s2, .slice A2 m2 c2] 33)).cells))
  obtain ⟨U, hU⟩ : ∃ U, ((((w2.alloc (.cells #[.int .i64 k2, .int .i64 n2, .string s2, .slice A2 m2 c2] 33)).setCell ⟨W.heap.size, 0, none⟩ (.int .i64 9)).setCell ⟨W.heap.size, 1, none⟩ (.int .i64 0)).setCell ⟨W.heap.size, 2, none⟩ (.string ⟨#[]⟩)).setCell ⟨W.heap.size, 3, none⟩ (.slice (some ⟨w2.heap.size, 0, none⟩) 1 1) = U := ⟨_, rfl⟩
  rw [hU]
  have hbgE := X2.out.big
  obtain ⟨f1, f2, f3, f4⟩ := (X2.out.alloc (.cells #[.int .i64 k2, .int .i64 n2, .string s2, .slice A2 m2 c2] 33)).fin 9 0 ⟨#[]⟩ (.slice (some ⟨w2.heap.size, 0, none⟩) 1 1) (Nw.mk1 hbgE (by decide) V2.out) hU
  refine bodyPost_ret (ret_N rfl _ rfl f1) rfl ?_
  exact ⟨_, rfl, f2, f3, by omega, f4⟩

set_option maxRecDepth 100000 in
set_option maxHeartbeats 40000000 in
theorem stL_10a (L : List Int) (d : Int) (hd : d ≤ 0) (W : World) (lo b i : Nat) (hs : GenV W lo b L i) (hi : i + 100 ≤ 1000000000) (x0 : Nat) (hk : PG.nx L i 14 = x0) (hr : x0 % 11 = 10) (hy3 : 0 < PG.nx L (i + 1) 3) :
    Calls Tryz.prog 36 #[.pointer (some ⟨b, 0, none⟩), .int .i64 d] W fun r w' => ∃ v, r = .returned v ∧ Nw W.heap.size w' (PG.gS L PG.noneB 10 (i + 1)).1 v ∧ GenV w' lo b L (PG.gS L PG.noneB 10 (i + 1)).2 ∧ (PG.gS L PG.noneB 10 (i + 1)).2 ≤ i + 100 ∧ Chg (· = b) W w' := by
  obtain ⟨W0, hW0⟩ : ∃ U, W.alloc (.cells #[.int .i64 0, .int .i64 0, .string ⟨#[]⟩, .slice none 0 0] 33) = U := ⟨_, rfl⟩
  have X0 : ExG W W0 lo b L i := hW0 ▸ ExG.begin hs
  have N1 := Lib.hid (gpk X0 (by omega) 14 x0 14 (by decide) (by decide) rfl hk)
  have HW0 := Lib.hid hW0
  clear hs hW0 X0
  have hd0 : decide (d ≤ 0) = true := decide_eq_true hd
  have hx0 : x0 < 14 := hk ▸ PG.nx_lt _ _ (by decide)
  have hrm : (x0 : Int).tmod 11 = 10 := by rw [Int.tmod_eq_emod_of_nonneg (by omega)]; omega
  have hrm2 : IntKind.i64.wrap ((x0 : Int).tmod 11) = 10 := by rw [hrm]; rfl
  obtain ⟨y, hy2⟩ : ∃ y, PG.nx L (i + 1) 3 = y := ⟨_, rfl⟩
  have gy : 0 < y := by omega
  have N2 := Lib.hid (fun V (h : ExG W V lo b L (i + 1)) => gpk h (by omega) 3 y 3 (by decide) (by decide) rfl hy2)
  obtain ⟨z, hzz⟩ : ∃ z, TY.pick PG.vars (PG.nx L (i + 1 + 1) 4) = z := ⟨_, rfl⟩
  have hz : z.size ≤ 1000 := hzz ▸ pick_small (by decide) _
  have N3 := Lib.hid (fun V (h : ExG W V lo b L (i + 1 + 1)) => gvr h (by omega) hzz)
  obtain ⟨⟨t4, j4⟩, h4⟩ : ∃ p, PG.genI L 1 (i + 1 + 1 + 1) = p := ⟨_, rfl⟩
  have N4 := Lib.hid (fun V (h : ExG W V lo b L (i + 1 + 1 + 1)) => gsb (int_1 L) h (by omega) h4)
  have hG : (PG.gS L PG.noneB 10 (i + 1)) = (.mk 1 0 z [t4], j4) := by
    unfold PG.gS PG.asg
    simp [hy3, hzz, h4]
  rw [hG]
  clear hG hy2 hzz h4 hy3 hk hr
  go_enter Tryz.func36, Tryz.ntmps36
  go_wp2_with (first
    | (rw [HW0.out]; go_at_call 17; refine N1.out.mono ?_; clear N1; rintro r w1 ⟨rfl, X1, C1⟩; replace X1 := Lib.hid X1; clear C1)
    | (go_at_call 17; refine (N2.out _ X1.out).mono ?_; clear N2; rintro r w2 ⟨rfl, X2, C2⟩; replace X2 := Lib.hid X2; clear C2)
    | (go_at_call 65; refine (N3.out _ X2.out).mono ?_; clear N3; rintro r w3 ⟨rfl, X3, C3⟩; replace X3 := Lib.hid X3; clear C3)
    | (go_at_call 66; refine (N4.out _ X3.out).mono ?_; clear N4; rintro r w4 ⟨k4, n4, s4, A4, m4, c4, rfl, V4, X4, B4, C4⟩; replace X4 := Lib.hid X4; replace V4 := Lib.hid (V4.lower (by have := X3.out.big; omega)); clear C4; obtain ⟨p0, p1, p2, p3, o0, o1, o2, o3⟩ := (X4.out.alloc (.cells #[.int .i64 k4, .int .i64 n4, .string s4, .slice A4 m4 c4] 33)).cells))
  obtain ⟨U, hU⟩ : ∃ U, ((((w4.alloc (.cells #[.int .i64 k4, .int .i64 n4, .string s4, .slice A4 m4 c4] 33)).setCell ⟨W.heap.size, 0, none⟩ (.int .i64 1)).setCell ⟨W.heap.size, 1, none⟩ (.int .i64 0)).setCell ⟨W.heap.size, 2, none⟩ (.string z)).setCell ⟨W.heap.size, 3, none⟩ (.slice (some ⟨w4.heap.size, 0, none⟩) 1 1) = U := ⟨_, rfl⟩
  rw [hU]
  have hbgE := X4.out.big
  obtain ⟨f1, f2, f3, f4⟩ := (X4.out.alloc (.cells #[.int .i64 k4, .int .i64 n4, .string s4, .slice A4 m4 c4] 33)).fin 1 0 z (.slice (some ⟨w4.heap.size, 0, none⟩) 1 1) (Nw.mk1 hbgE hz V4.out) hU
  refine bodyPost_ret (ret_N rfl _ rfl f1) rfl ?_
  exact ⟨_, rfl, f2, f3, by omega, f4⟩

set_option maxRecDepth 100000 in
set_option maxHeartbeats 40000000 in
theorem stL_10b (L : List Int) (d : Int) (hd : d ≤ 0) (W : World) (lo b i : Nat) (hs : GenV W lo b L i) (hi : i + 100 ≤ 1000000000) (x0 : Nat) (hk : PG.nx L i 14 = x0) (hr : x0 % 11 = 10) (hy3 : ¬ 0 < PG.nx L (i + 1) 3) :
    Calls Tryz.prog 36 #[.pointer (some ⟨b, 0, none⟩), .int .i64 d] W fun r w' => ∃ v, r = .returned v ∧ Nw W.heap.size w' (PG.gS L PG.noneB 10 (i + 1)).1 v ∧ GenV w' lo b L (PG.gS L PG.noneB 10 (i + 1)).2 ∧ (PG.gS L PG.noneB 10 (i + 1)).2 ≤ i + 100 ∧ Chg (· = b) W w' := by
  obtain ⟨W0, hW0⟩ : ∃ U, W.alloc (.cells #[.int .i64 0, .int .i64 0, .string ⟨#[]⟩, .slice none 0 0] 33) = U := ⟨_, rfl⟩
  have X0 : ExG W W0 lo b L i := hW0 ▸ ExG.begin hs
  have N1 := Lib.hid (gpk X0 (by omega) 14 x0 14 (by decide) (by decide) rfl hk)
  have HW0 := Lib.hid hW0
  clear hs hW0 X0
  have hd0 : decide (d ≤ 0) = true := decide_eq_true hd
  have hx0 : x0 < 14 := hk ▸ PG.nx_lt _ _ (by decide)
  have hrm : (x0 : Int).tmod 11 = 10 := by rw [Int.tmod_eq_emod_of_nonneg (by omega)]; omega
  have hrm2 : IntKind.i64.wrap ((x0 : Int).tmod 11) = 10 := by rw [hrm]; rfl
  obtain ⟨y, hy2⟩ : ∃ y, PG.nx L (i + 1) 3 = y := ⟨_, rfl⟩
  have gy : ¬ 0 < y := by omega
  have N2 := Lib.hid (fun V (h : ExG W V lo b L (i + 1)) => gpk h (by omega) 3 y 3 (by decide) (by decide) rfl hy2)
  have hG : (PG.gS L PG.noneB 10 (i + 1)) = (.mk 10 0 TY.eps [], i + 1 + 1) := by
    unfold PG.gS
    simp [hy3]
  rw [hG]
  clear hG hy2 hy3 hk hr
  go_enter Tryz.func36, Tryz.ntmps36
  go_wp2_with (first
    | (rw [HW0.out]; go_at_call 17; refine N1.out.mono ?_; clear N1; rintro r w1 ⟨rfl, X1, C1⟩; replace X1 := Lib.hid X1; clear C1)
    | (go_at_call 17; refine (N2.out _ X1.out).mono ?_; clear N2; rintro r w2 ⟨rfl, X2, C2⟩; replace X2 := Lib.hid X2; clear C2; obtain ⟨p0, p1, p2, p3, o0, o1, o2, o3⟩ := X2.out.cells))
  obtain ⟨U, hU⟩ : ∃ U, (((w2.setCell ⟨W.heap.size, 0, none⟩ (.int .i64 10)).setCell ⟨W.heap.size, 1, none⟩ (.int .i64 0)).setCell ⟨W.heap.size, 2, none⟩ (.string ⟨#[]⟩)).setCell ⟨W.heap.size, 3, none⟩ (.slice none 0 0) = U := ⟨_, rfl⟩
  rw [hU]
  obtain ⟨f1, f2, f3, f4⟩ := X2.out.fin 10 0 ⟨#[]⟩ (.slice none 0 0) (Nw.leaf _ _ _ _ _ (by decide)) hU
  refine bodyPost_ret (ret_N rfl _ rfl f1) rfl ?_
  exact ⟨_, rfl, f2, f3, by omega, f4⟩

set_option maxRecDepth 100000 in
set_option maxHeartbeats 40000000 in
theorem stM_0 (L : List Int) (D : Nat) (hD : 1 ≤ D) (hD2 : D ≤ 100) (e : Nat) (subT : PG.Gen) (W : World) (lo b i : Nat) (hs : GenV W lo b L i) (hi : i + (100 + 2 * e) ≤ 1000000000) (hk : PG.nx L i 14 = 0) :
    Calls Tryz.prog 36 #[.pointer (some ⟨b, 0, none⟩), .int .i64 (D : Int)] W fun r w' => ∃ v, r = .returned v ∧ Nw W.heap.size w' (PG.gS L subT 0 (i + 1)).1 v ∧ GenV w' lo b L (PG.gS L subT 0 (i + 1)).2 ∧ (PG.gS L subT 0 (i + 1)).2 ≤ i + (100 + 2 * e) ∧ Chg (· = b) W w' := by
  obtain ⟨W0, hW0⟩ : ∃ U, W.alloc (.cells #[.int .i64 0, .int .i64 0, .string ⟨#[]⟩, .slice none 0 0] 33) = U := ⟨_, rfl⟩
  have X0 : ExG W W0 lo b L i := hW0 ▸ ExG.begin hs
  have N1 := Lib.hid (gpk X0 (by omega) 14 0 14 (by decide) (by decide) rfl hk)
  have HW0 := Lib.hid hW0
  clear hs hW0 X0
  have hwr : IntKind.i64.wrap ((D : Int) - 1) = (D : Int) - 1 := IntWalk.i64_in _ (by omega)
  have hd0 : decide ((D : Int) ≤ 0) = false := by rw [decide_eq_false_iff_not]; omega
  obtain ⟨z, hzz⟩ : ∃ z, TY.pick PG.vars (PG.nx L (i + 1) 4) = z := ⟨_, rfl⟩
  have hz : z.size ≤ 1000 := hzz ▸ pick_small (by decide) _
  have N2 := Lib.hid (fun V (h : ExG W V lo b L (i + 1)) => gvr h (by omega) hzz)
  obtain ⟨⟨t3, j3⟩, h3⟩ : ∃ p, PG.genI L 2 (i + 1 + 1) = p := ⟨_, rfl⟩
  have N3 := Lib.hid (fun V (h : ExG W V lo b L (i + 1 + 1)) => gsb (int_2 L) h (by omega) h3)
  have hG : (PG.gS L subT 0 (i + 1)) = (.mk 1 0 z [t3], j3) := by
    unfold PG.gS PG.asg
    simp [hzz, h3]
  rw [hG]
  clear hG hzz h3 hk
  go_enter Tryz.func36, Tryz.ntmps36
  go_wp2_with (first
    | (rw [HW0.out]; go_at_call 17; refine N1.out.mono ?_; clear N1; rintro r w1 ⟨rfl, X1, C1⟩; replace X1 := Lib.hid X1; clear C1)
    | (go_at_call 65; refine (N2.out _ X1.out).mono ?_; clear N2; rintro r w2 ⟨rfl, X2, C2⟩; replace X2 := Lib.hid X2; clear C2)
    | (go_at_call 66; refine (N3.out _ X2.out).mono ?_; clear N3; rintro r w3 ⟨k3, n3, s3, A3, m3, c3, rfl, V3, X3, B3, C3⟩; replace X3 := Lib.hid X3; replace V3 := Lib.hid (V3.lower (by have := X2.out.big; omega)); clear C3; obtain ⟨p0, p1, p2, p3, o0, o1, o2, o3⟩ := (X3.out.alloc (.cells #[.int .i64 k3, .int .i64 n3, .string s3, .slice A3 m3 c3] 33)).cells))
  obtain ⟨U, hU⟩ : ∃ U, ((((w3.alloc (.cells #[.int .i64 k3, .int .i64 n3, .string s3, .slice A3 m3 c3] 33)).setCell ⟨W.heap.size, 0, none⟩ (.int .i64 1)).setCell ⟨W.heap.size, 1, none⟩ (.int .i64 0)).setCell ⟨W.heap.size, 2, none⟩ (.string z)).setCell ⟨W.heap.size, 3, none⟩ (.slice (some ⟨w3.heap.size, 0, none⟩) 1 1) = U := ⟨_, rfl⟩
  rw [hU]
  have hbgE := X3.out.big
  obtain ⟨f1, f2, f3, f4⟩ := (X3.out.alloc (.cells #[.int .i64 k3, .int .i64 n3, .string s3, .slice A3 m3 c3] 33)).fin 1 0 z (.slice (some ⟨w3.heap.size, 0, none⟩) 1 1) (Nw.mk1 hbgE hz V3.out) hU
  refine bodyPost_ret (ret_N rfl _ rfl f1) rfl ?_
  exact ⟨_, rfl, f2, f3, by omega, f4⟩

set_option maxRecDepth 100000 in
set_option maxHeartbeats 40000000 in
theorem stM_1 (L : List Int) (D : Nat) (hD : 1 ≤ D) (hD2 : D ≤ 100) (e : Nat) (subT : PG.Gen) (W : World) (lo b i : Nat) (hs : GenV W lo b L i) (hi : i + (100 + 2 * e) ≤ 1000000000) (hk : PG.nx L i 14 = 1) :
    Calls Tryz.prog 36 #[.pointer (some ⟨b, 0, none⟩), .int .i64 (D : Int)] W fun r w' => ∃ v, r = .returned v ∧ Nw W.heap.size w' (PG.gS L subT 1 (i + 1)).1 v ∧ GenV w' lo b L (PG.gS L subT 1 (i + 1)).2 ∧ (PG.gS L subT 1 (i + 1)).2 ≤ i + (100 + 2 * e) ∧ Chg (· = b) W w' := by
  obtain ⟨W0, hW0⟩ : ∃ U, W.alloc (.cells #[.int .i64 0, .int .i64 0, .string ⟨#[]⟩, .slice none 0 0] 33) = U := ⟨_, rfl⟩
  have X0 : ExG W W0 lo b L i := hW0 ▸ ExG.begin hs
  have N1 := Lib.hid (gpk X0 (by omega) 14 1 14 (by decide) (by decide) rfl hk)
  have HW0 := Lib.hid hW0
  clear hs hW0 X0
  have hwr : IntKind.i64.wrap ((D : Int) - 1) = (D : Int) - 1 := IntWalk.i64_in _ (by omega)
  have hd0 : decide ((D : Int) ≤ 0) = false := by rw [decide_eq_false_iff_not]; omega
  obtain ⟨z, hzz⟩ : ∃ z, TY.pick PG.vars (PG.nx L (i + 1) 4) = z := ⟨_, rfl⟩
  have hz : z.size ≤ 1000 := hzz ▸ pick_small (by decide) _
  have N2 := Lib.hid (fun V (h : ExG W V lo b L (i + 1)) => gvr h (by omega) hzz)
  obtain ⟨⟨t3, j3⟩, h3⟩ : ∃ p, PG.genI L 2 (i + 1 + 1) = p := ⟨_, rfl⟩
  have N3 := Lib.hid (fun V (h : ExG W V lo b L (i + 1 + 1)) => gsb (int_2 L) h (by omega) h3)
  have hG : (PG.gS L subT 1 (i + 1)) = (.mk 1 0 z [t3], j3) := by
    unfold PG.gS PG.asg
    simp [hzz, h3]
  rw [hG]
  clear hG hzz h3 hk
  go_enter Tryz.func36, Tryz.ntmps36
  go_wp2_with (first
    | (rw [HW0.out]; go_at_call 17; refine N1.out.mono ?_; clear N1; rintro r w1 ⟨rfl, X1, C1⟩; replace X1 := Lib.hid X1; clear C1)
    | (go_at_call 65; refine (N2.out _ X1.out).mono ?_; clear N2; rintro r w2 ⟨rfl, X2, C2⟩; replace X2 := Lib.hid X2; clear C2)
    | (go_at_call 66; refine (N3.out _ X2.out).mono ?_; clear N3; rintro r w3 ⟨k3, n3, s3, A3, m3, c3, rfl, V3, X3, B3, C3⟩; replace X3 := Lib.hid X3; replace V3 := Lib.hid (V3.lower (by have := X2.out.big; omega)); clear C3; obtain ⟨p0, p1, p2, p3, o0, o1, o2, o3⟩ := (X3.out.alloc (.cells #[.int .i64 k3, .int .i64 n3, .string s3, .slice A3 m3 c3] 33)).cells))
  obtain ⟨U, hU⟩ : ∃ U, ((((w3.alloc (.cells #[.int .i64 k3, .int .i64 n3, .string s3, .slice A3 m3 c3] 33)).setCell ⟨W.heap.size, 0, none⟩ (.int .i64 1)).setCell ⟨W.heap.size, 1, none⟩ (.int .i64 0)).setCell ⟨W.heap.size, 2, none⟩ (.string z)).setCell ⟨W.heap.size, 3, none⟩ (.slice (some ⟨w3.heap.size, 0, none⟩) 1 1) = U := ⟨_, rfl⟩
  rw [hU]
  have hbgE := X3.out.big
  obtain ⟨f1, f2, f3, f4⟩ := (X3.out.alloc (.cells #[.int .i64 k3, .int .i64 n3, .string s3, .slice A3 m3 c3] 33)).fin 1 0 z (.slice (some ⟨w3.heap.size, 0, none⟩) 1 1) (Nw.mk1 hbgE hz V3.out) hU
  refine bodyPost_ret (ret_N rfl _ rfl f1) rfl ?_
  exact ⟨_, rfl, f2, f3, by omega, f4⟩

set_option maxRecDepth 100000 in
set_option maxHeartbeats 40000000 in
theorem stM_2 (L : List Int) (D : Nat) (hD : 1 ≤ D) (hD2 : D ≤ 100) (e : Nat) (subT : PG.Gen) (W : World) (lo b i : Nat) (hs : GenV W lo b L i) (hi : i + (100 + 2 * e) ≤ 1000000000) (hk : PG.nx L i 14 = 2) :
    Calls Tryz.prog 36 #[.pointer (some ⟨b, 0, none⟩), .int .i64 (D : Int)] W fun r w' => ∃ v, r = .returned v ∧ Nw W.heap.size w' (PG.gS L subT 2 (i + 1)).1 v ∧ GenV w' lo b L (PG.gS L subT 2 (i + 1)).2 ∧ (PG.gS L subT 2 (i + 1)).2 ≤ i + (100 + 2 * e) ∧ Chg (· = b) W w' := by
  obtain ⟨W0, hW0⟩ : ∃ U, W.alloc (.cells #[.int .i64 0, .int .i64 0, .string ⟨#[]⟩, .slice none 0 0] 33) = U := ⟨_, rfl⟩
  have X0 : ExG W W0 lo b L i := hW0 ▸ ExG.begin hs
  have N1 := Lib.hid (gpk X0 (by omega) 14 2 14 (by decide) (by decide) rfl hk)
  have HW0 := Lib.hid hW0
  clear hs hW0 X0
  have hwr : IntKind.i64.wrap ((D : Int) - 1) = (D : Int) - 1 := IntWalk.i64_in _ (by omega)
  have hd0 : decide ((D : Int) ≤ 0) = false := by rw [decide_eq_false_iff_not]; omega
  obtain ⟨z, hzz⟩ : ∃ z, TY.pick PG.vars (PG.nx L (i + 1) 4) = z := ⟨_, rfl⟩
  have hz : z.size ≤ 1000 := hzz ▸ pick_small (by decide) _
  have N2 := Lib.hid (fun V (h : ExG W V lo b L (i + 1)) => gvr h (by omega) hzz)
  obtain ⟨⟨t3, j3⟩, h3⟩ : ∃ p, PG.genI L 2 (i + 1 + 1) = p := ⟨_, rfl⟩
  have N3 := Lib.hid (fun V (h : ExG W V lo b L (i + 1 + 1)) => gsb (int_2 L) h (by omega) h3)
  have hG : (PG.gS L subT 2 (i + 1)) = (.mk 1 0 z [t3], j3) := by
    unfold PG.gS PG.asg
    simp [hzz, h3]
  rw [hG]
  clear hG hzz h3 hk
  go_enter Tryz.func36, Tryz.ntmps36
  go_wp2_with (first
    | (rw [HW0.out]; go_at_call 17; refine N1.out.mono ?_; clear N1; rintro r w1 ⟨rfl, X1, C1⟩; replace X1 := Lib.hid X1; clear C1)
    | (go_at_call 65; refine (N2.out _ X1.out).mono ?_; clear N2; rintro r w2 ⟨rfl, X2, C2⟩; replace X2 := Lib.hid X2; clear C2)
    | (go_at_call 66; refine (N3.out _ X2.out).mono ?_; clear N3; rintro r w3 ⟨k3, n3, s3, A3, m3, c3, rfl, V3, X3, B3, C3⟩; replace X3 := Lib.hid X3; replace V3 := Lib.hid (V3.lower (by have := X2.out.big; omega)); clear C3; obtain ⟨p0, p1, p2, p3, o0, o1, o2, o3⟩ := (X3.out.alloc (.cells #[.int .i64 k3, .int .i64 n3, .string s3, .slice A3 m3 c3] 33)).cells))
  obtain ⟨U, hU⟩ : ∃ U, ((((w3.alloc (.cells #[.int .i64 k3, .int .i64 n3, .string s3, .slice A3 m3 c3] 33)).setCell ⟨W.heap.size, 0, none⟩ (.int .i64 1)).setCell ⟨W.heap.size, 1, none⟩ (.int .i64 0)).setCell ⟨W.heap.size, 2, none⟩ (.string z)).setCell ⟨W.heap.size, 3, none⟩ (.slice (some ⟨w3.heap.size, 0, none⟩) 1 1) = U := ⟨_, rfl⟩
  rw [hU]
  have hbgE := X3.out.big
  obtain ⟨f1, f2, f3, f4⟩ := (X3.out.alloc (.cells #[.int .i64 k3, .int .i64 n3, .string s3, .slice A3 m3 c3] 33)).fin 1 0 z (.slice (some ⟨w3.heap.size, 0, none⟩) 1 1) (Nw.mk1 hbgE hz V3.out) hU
  refine bodyPost_ret (ret_N rfl _ rfl f1) rfl ?_
  exact ⟨_, rfl, f2, f3, by omega, f4⟩

set_option maxRecDepth 100000 in
set_option maxHeartbeats 40000000 in
theorem stM_3 (L : List Int) (D : Nat) (hD : 1 ≤ D) (hD2 : D ≤ 100) (e : Nat) (subT : PG.Gen) (W : World) (lo b i : Nat) (hs : GenV W lo b L i) (hi : i + (100 + 2 * e) ≤ 1000000000) (hk : PG.nx L i 14 = 3) :
    Calls Tryz.prog 36 #[.pointer (some ⟨b, 0, none⟩), .int .i64 (D : Int)] W fun r w' => ∃ v, r = .returned v ∧ Nw W.heap.size w' (PG.gS L subT 3 (i + 1)).1 v ∧ GenV w' lo b L (PG.gS L subT 3 (i + 1)).2 ∧ (PG.gS L subT 3 (i + 1)).2 ≤ i + (100 + 2 * e) ∧ Chg (· = b) W w' := by
  obtain ⟨W0, hW0⟩ : ∃ U, W.alloc (.cells #[.int .i64 0, .int .i64 0, .string ⟨#[]⟩, .slice none 0 0] 33) = U := ⟨_, rfl⟩
  have X0 : ExG W W0 lo b L i := hW0 ▸ ExG.begin hs
  have N1 := Lib.hid (gpk X0 (by omega) 14 3 14 (by decide) (by decide) rfl hk)
  have HW0 := Lib.hid hW0
  clear hs hW0 X0
  have hwr : IntKind.i64.wrap ((D : Int) - 1) = (D : Int) - 1 := IntWalk.i64_in _ (by omega)
  have hd0 : decide ((D : Int) ≤ 0) = false := by rw [decide_eq_false_iff_not]; omega
  obtain ⟨⟨t2, j2⟩, h2⟩ : ∃ p, PG.genI L 0 (i + 1) = p := ⟨_, rfl⟩
  have N2 := Lib.hid (fun V (h : ExG W V lo b L (i + 1)) => gsb (int_0 L) h (by omega) h2)
  obtain ⟨y, hy3⟩ : ∃ y, PG.nx L (j2) 4 = y := ⟨_, rfl⟩
  have N3 := Lib.hid (fun V (h : ExG W V lo b L (j2)) (_ : j2 ≤ i + 1 + 3) => gpk h (by omega) 4 y 4 (by decide) (by decide) rfl hy3)
  obtain ⟨⟨t4, j4⟩, h4⟩ : ∃ p, PG.genI L 1 (j2 + 1) = p := ⟨_, rfl⟩
  have N4 := Lib.hid (fun V (h : ExG W V lo b L (j2 + 1)) (_ : j2 ≤ i + 1 + 3) => gsb (int_1 L) h (by omega) h4)
  obtain ⟨⟨t5, j5⟩, h5⟩ : ∃ p, PG.genI L 1 (j4) = p := ⟨_, rfl⟩
  have N5 := Lib.hid (fun V (h : ExG W V lo b L (j4)) (_ : j2 ≤ i + 1 + 3) (_ : j4 ≤ j2 + 1 + 9) => gsb (int_1 L) h (by omega) h5)
  have hG : (PG.gS L subT 3 (i + 1)) = (.mk 4 (y : Int) TY.eps [t2, t4, t5], j5) := by
    unfold PG.gS
    simp [h2, hy3, h4, h5]
  rw [hG]
  clear hG h2 hy3 h4 h5 hk
  go_enter Tryz.func36, Tryz.ntmps36
  go_wp2_with (first
    | (rw [HW0.out]; go_at_call 17; refine N1.out.mono ?_; clear N1; rintro r w1 ⟨rfl, X1, C1⟩; replace X1 := Lib.hid X1; clear C1)
    | (go_at_call 66; refine (N2.out _ X1.out).mono ?_; clear N2; rintro r w2 ⟨k2, n2, s2, A2, m2, c2, rfl, V2, X2, B2, C2⟩; replace X2 := Lib.hid X2; replace V2 := Lib.hid (V2.lower (by have := X1.out.big; omega)); clear C2; have gx2 : b < w2.heap.size := by have h1 := X2.out.lt; have h2 := X2.out.big; omega)
    | (go_at_call 17; refine (N3.out _ (X2.out.alloc _) B2).mono ?_; clear N3; rintro r w3 ⟨rfl, X3, C3⟩; replace X3 := Lib.hid X3; have D3 := Lib.hid (show Chg (· = b) w2 w3 from ((Chg.refl (· = b) w2).alloc _).trans C3 (fun _ _ e => e)); have lt3 := X3.out.lt; have bg3 := X2.out.big; replace V2 := Lib.hid (V2.out.keep (fun c h1 h2 => D3.out.block c h2 (by omega)) D3.out.size); have H2 := Lib.hid ((C3.block _ (by rw [World.size_alloc]; omega) (by omega)).trans (World.alloc_heap_new w2 (.cells #[.int .i64 k2, .int .i64 n2, .string s2, .slice A2 m2 c2] 33))); clear C3)
    | (go_at_call 66; refine (N4.out _ X3.out B2).mono ?_; clear N4; rintro r w4 ⟨k4, n4, s4, A4, m4, c4, rfl, V4, X4, B4, C4⟩; replace X4 := Lib.hid X4; have D4 := Lib.hid (show Chg (· = b) w3 w4 from C4); have lt4 := X4.out.lt; have bg4 := X3.out.big; replace V2 := Lib.hid (V2.out.keep (fun c h1 h2 => D4.out.block c h2 (by omega)) D4.out.size); replace H2 := Lib.hid ((D4.out.block _ (heap_lt H2.out) (by have := gx2; omega)).trans H2.out); replace V4 := Lib.hid (V4.lower (by have := X3.out.big; omega)); clear C4; have gx4 : b < w4.heap.size := by have h1 := X4.out.lt; have h2 := X4.out.big; omega))
  have hblt := X4.out.lt
  have hbgL := X4.out.big
  have hbx4 := World.alloc_heap_new w4 (.cells #[.int .i64 k4, .int .i64 n4, .string s4, .slice A4 m4 c4] 33)
  have XR := Lib.hid (X4.out.alloc (.cells #[.int .i64 k4, .int .i64 n4, .string s4, .slice A4 m4 c4] 33))
  have DR := Lib.hid (show Chg (· = b) w4 (w4.alloc (.cells #[.int .i64 k4, .int .i64 n4, .string s4, .slice A4 m4 c4] 33)) from (Chg.refl (· = b) w4).alloc _)
  have zR : (w4.alloc (.cells #[.int .i64 k4, .int .i64 n4, .string s4, .slice A4 m4 c4] 33)).heap.size = w4.heap.size + 1 := World.size_alloc _ _
  have hbx2 := (DR.out.block _ (heap_lt H2.out) (by have := heap_lt H2.out; have := gx2; omega)).trans H2.out
  replace V2 := Lib.hid (V2.out.keep (fun c h1 h2 => DR.out.block c h2 (by omega)) DR.out.size)
  replace V4 := Lib.hid (V4.out.keep (fun c h1 h2 => DR.out.block c h2 (by omega)) DR.out.size)
  obtain ⟨R0, hR0⟩ : ∃ U, (w4.alloc (.cells #[.int .i64 k4, .int .i64 n4, .string s4, .slice A4 m4 c4] 33)) = U := ⟨_, rfl⟩
  rw [hR0] at hbx2 hbx4 XR zR V2 V4 ⊢
  obtain ⟨ya2, yb2, yc2, yd2⟩ := box_cellsG hbx2
  have HB2 := Lib.hid hbx2
  obtain ⟨ya4, yb4, yc4, yd4⟩ := box_cellsG hbx4
  have HB4 := Lib.hid hbx4
  have XD := Lib.hid (XR.out.step (XR.out.src.chg ((Chg.refl (fun _ => False) R0).drew) (fun e => e) (fun _ e => e.elim)) ((Chg.refl (· = b) R0).drew))
  clear hR0 DR hbx2 hbx4
  go_region_law
    (first
      | (go_simp; go_at_call 66; refine (N5.out _ XD.out B2 B4).mono ?_; clear N5; rintro r w5 ⟨k5, n5, s5, A5, m5, c5, rfl, V5, X5, B5, C5⟩
         replace C5 := Lib.hid (show Chg (· = b) R0 w5 from ((Chg.refl (· = b) R0).drew).trans C5 (fun _ _ e => e))
         replace X5 := Lib.hid X5
         replace V5 := Lib.hid (show Nw (W.heap.size + 1) w5 t5 (ndv k5 n5 s5 (.slice A5 m5 c5)) from V5.lower (show W.heap.size + 1 ≤ R0.heap.size by omega))
         obtain ⟨za2, zb2, zc2, zd2⟩ := box_cellsG ((C5.out.block _ (heap_lt HB2.out) (by have := gx2; omega)).trans HB2.out)
         obtain ⟨za4, zb4, zc4, zd4⟩ := box_cellsG ((C5.out.block _ (heap_lt HB4.out) (by have := gx4; omega)).trans HB4.out)
         obtain ⟨p0, p1, p2, p3, o0, o1, o2, o3⟩ := (X5.out.alloc (.cells #[.int .i64 k2, .int .i64 n2, .string s2, .slice A2 m2 c2, .int .i64 k4, .int .i64 n4, .string s4, .slice A4 m4 c4, .int .i64 k5, .int .i64 n5, .string s5, .slice A5 m5 c5] 33)).cells))
  all_goals
    go_wp2_with fail
    obtain ⟨U, hU⟩ : ∃ U, ((((w5.alloc (.cells #[.int .i64 k2, .int .i64 n2, .string s2, .slice A2 m2 c2, .int .i64 k4, .int .i64 n4, .string s4, .slice A4 m4 c4, .int .i64 k5, .int .i64 n5, .string s5, .slice A5 m5 c5] 33)).setCell ⟨W.heap.size, 0, none⟩ (.int .i64 4)).setCell ⟨W.heap.size, 1, none⟩ (.int .i64 (y : Int))).setCell ⟨W.heap.size, 2, none⟩ (.string ⟨#[]⟩)).setCell ⟨W.heap.size, 3, none⟩ (.slice (some ⟨w5.heap.size, 0, none⟩) 3 3) = U := ⟨_, rfl⟩
    rw [hU]
    have hbgE := X5.out.big
    obtain ⟨f1, f2, f3, f4⟩ := (X5.out.alloc (.cells #[.int .i64 k2, .int .i64 n2, .string s2, .slice A2 m2 c2, .int .i64 k4, .int .i64 n4, .string s4, .slice A4 m4 c4, .int .i64 k5, .int .i64 n5, .string s5, .slice A5 m5 c5] 33)).fin 4 (y : Int) ⟨#[]⟩ (.slice (some ⟨w5.heap.size, 0, none⟩) 3 3) (Nw.mk3 hbgE (by decide) (V2.out.keep (fun c h1 h2 => C5.out.block c h2 (by omega)) C5.out.size) (V4.out.keep (fun c h1 h2 => C5.out.block c h2 (by omega)) C5.out.size) V5.out) hU
    refine bodyPost_ret (ret_N rfl _ rfl f1) rfl ?_
    exact ⟨_, rfl, f2, f3, by omega, f4⟩

set_option maxRecDepth 100000 in
set_option maxHeartbeats 40000000 in
theorem stM_4 (L : List Int) (D : Nat) (hD : 1 ≤ D) (hD2 : D ≤ 100) (e : Nat) (subT : PG.Gen) (W : World) (lo b i : Nat) (hs : GenV W lo b L i) (hi : i + (100 + 2 * e) ≤ 1000000000) (hk : PG.nx L i 14 = 4) :
    Calls Tryz.prog 36 #[.pointer (some ⟨b, 0, none⟩), .int .i64 (D : Int)] W fun r w' => ∃ v, r = .returned v ∧ Nw W.heap.size w' (PG.gS L subT 4 (i + 1)).1 v ∧ GenV w' lo b L (PG.gS L subT 4 (i + 1)).2 ∧ (PG.gS L subT 4 (i + 1)).2 ≤ i + (100 + 2 * e) ∧ Chg (· = b) W w' := by
  obtain ⟨W0, hW0⟩ : ∃ U, W.alloc (.cells #[.int .i64 0, .int .i64 0, .string ⟨#[]⟩, .slice none 0 0] 33) = U := ⟨_, rfl⟩
  have X0 : ExG W W0 lo b L i := hW0 ▸ ExG.begin hs
  have N1 := Lib.hid (gpk X0 (by omega) 14 4 14 (by decide) (by decide) rfl hk)
  have HW0 := Lib.hid hW0
  clear hs hW0 X0
  have hwr : IntKind.i64.wrap ((D : Int) - 1) = (D : Int) - 1 := IntWalk.i64_in _ (by omega)
  have hd0 : decide ((D : Int) ≤ 0) = false := by rw [decide_eq_false_iff_not]; omega
  obtain ⟨⟨t2, j2⟩, h2⟩ : ∃ p, PG.genI L 0 (i + 1) = p := ⟨_, rfl⟩
  have N2 := Lib.hid (fun V (h : ExG W V lo b L (i + 1)) => gsb (int_0 L) h (by omega) h2)
  obtain ⟨y, hy3⟩ : ∃ y, PG.nx L (j2) 4 = y := ⟨_, rfl⟩
  have N3 := Lib.hid (fun V (h : ExG W V lo b L (j2)) (_ : j2 ≤ i + 1 + 3) => gpk h (by omega) 4 y 4 (by decide) (by decide) rfl hy3)
  obtain ⟨⟨t4, j4⟩, h4⟩ : ∃ p, PG.genI L 1 (j2 + 1) = p := ⟨_, rfl⟩
  have N4 := Lib.hid (fun V (h : ExG W V lo b L (j2 + 1)) (_ : j2 ≤ i + 1 + 3) => gsb (int_1 L) h (by omega) h4)
  obtain ⟨⟨t5, j5⟩, h5⟩ : ∃ p, PG.genI L 1 (j4) = p := ⟨_, rfl⟩
  have N5 := Lib.hid (fun V (h : ExG W V lo b L (j4)) (_ : j2 ≤ i + 1 + 3) (_ : j4 ≤ j2 + 1 + 9) => gsb (int_1 L) h (by omega) h5)
  have hG : (PG.gS L subT 4 (i + 1)) = (.mk 4 (y : Int) TY.eps [t2, t4, t5], j5) := by
    unfold PG.gS
    simp [h2, hy3, h4, h5]
  rw [hG]
  clear hG h2 hy3 h4 h5 hk
  go_enter Tryz.func36, Tryz.ntmps36
  go_wp2_with (first
    | (rw [HW0.out]; go_at_call 17; refine N1.out.mono ?_; clear N1; rintro r w1 ⟨rfl, X1, C1⟩; replace X1 := Lib.hid X1; clear C1)
    | (go_at_call 66; refine (N2.out _ X1.out).mono ?_; clear N2; rintro r w2 ⟨k2, n2, s2, A2, m2, c2, rfl, V2, X2, B2, C2⟩; replace X2 := Lib.hid X2; replace V2 := Lib.hid (V2.lower (by have := X1.out.big; omega)); clear C2; have gx2 : b < w2.heap.size := by have h1 := X2.out.lt; have h2 := X2.out.big; omega)
    | (go_at_call 17; refine (N3.out _ (X2.out.alloc _) B2).mono ?_; clear N3; rintro r w3 ⟨rfl, X3, C3⟩; replace X3 := Lib.hid X3; have D3 := Lib.hid (show Chg (· = b) w2 w3 from ((Chg.refl (· = b) w2).alloc _).trans C3 (fun _ _ e => e)); have lt3 := X3.out.lt; have bg3 := X2.out.big; replace V2 := Lib.hid (V2.out.keep (fun c h1 h2 => D3.out.block c h2 (by omega)) D3.out.size); have H2 := Lib.hid ((C3.block _ (by rw [World.size_alloc]; omega) (by omega)).trans (World.alloc_heap_new w2 (.cells #[.int .i64 k2, .int .i64 n2, .string s2, .slice A2 m2 c2] 33))); clear C3)
    | (go_at_call 66; refine (N4.out _ X3.out B2).mono ?_; clear N4; rintro r w4 ⟨k4, n4, s4, A4, m4, c4, rfl, V4, X4, B4, C4⟩; replace X4 := Lib.hid X4; have D4 := Lib.hid (show Chg (· = b) w3 w4 from C4); have lt4 := X4.out.lt; have bg4 := X3.out.big; replace V2 := Lib.hid (V2.out.keep (fun c h1 h2 => D4.out.block c h2 (by omega)) D4.out.size); replace H2 := Lib.hid ((D4.out.block _ (heap_lt H2.out) (by have := gx2; omega)).trans H2.out); replace V4 := Lib.hid (V4.lower (by have := X3.out.big; omega)); clear C4; have gx4 : b < w4.heap.size := by have h1 := X4.out.lt; have h2 := X4.out.big; omega))
  have hblt := X4.out.lt
  have hbgL := X4.out.big
  have hbx4 := World.alloc_heap_new w4 (.cells #[.int .i64 k4, .int .i64 n4, .string s4, .slice A4 m4 c4] 33)
  have XR := Lib.hid (X4.out.alloc (.cells #[.int .i64 k4, .int .i64 n4, .string s4, .slice A4 m4 c4] 33))
  have DR := Lib.hid (show Chg (· = b) w4 (w4.alloc (.cells #[.int .i64 k4, .int .i64 n4, .string s4, .slice A4 m4 c4] 33)) from (Chg.refl (· = b) w4).alloc _)
  have zR : (w4.alloc (.cells #[.int .i64 k4, .int .i64 n4, .string s4, .slice A4 m4 c4] 33)).heap.size = w4.heap.size + 1 := World.size_alloc _ _
  have hbx2 := (DR.out.block _ (heap_lt H2.out) (by have := heap_lt H2.out; have := gx2; omega)).trans H2.out
  replace V2 := Lib.hid (V2.out.keep (fun c h1 h2 => DR.out.block c h2 (by omega)) DR.out.size)
  replace V4 := Lib.hid (V4.out.keep (fun c h1 h2 => DR.out.block c h2 (by omega)) DR.out.size)
  obtain ⟨R0, hR0⟩ : ∃ U, (w4.alloc (.cells #[.int .i64 k4, .int .i64 n4, .string s4, .slice A4 m4 c4] 33)) = U := ⟨_, rfl⟩
  rw [hR0] at hbx2 hbx4 XR zR V2 V4 ⊢
  obtain ⟨ya2, yb2, yc2, yd2⟩ := box_cellsG hbx2
  have HB2 := Lib.hid hbx2
  obtain ⟨ya4, yb4, yc4, yd4⟩ := box_cellsG hbx4
  have HB4 := Lib.hid hbx4
  have XD := Lib.hid (XR.out.step (XR.out.src.chg ((Chg.refl (fun _ => False) R0).drew) (fun e => e) (fun _ e => e.elim)) ((Chg.refl (· = b) R0).drew))
  clear hR0 DR hbx2 hbx4
  go_region_law
    (first
      | (go_simp; go_at_call 66; refine (N5.out _ XD.out B2 B4).mono ?_; clear N5; rintro r w5 ⟨k5, n5, s5, A5, m5, c5, rfl, V5, X5, B5, C5⟩
         replace C5 := Lib.hid (show Chg (· = b) R0 w5 from ((Chg.refl (· = b) R0).drew).trans C5 (fun _ _ e => e))
         replace X5 := Lib.hid X5
         replace V5 := Lib.hid (show Nw (W.heap.size + 1) w5 t5 (ndv k5 n5 s5 (.slice A5 m5 c5)) from V5.lower (show W.heap.size + 1 ≤ R0.heap.size by omega))
         obtain ⟨za2, zb2, zc2, zd2⟩ := box_cellsG ((C5.out.block _ (heap_lt HB2.out) (by have := gx2; omega)).trans HB2.out)
         obtain ⟨za4, zb4, zc4, zd4⟩ := box_cellsG ((C5.out.block _ (heap_lt HB4.out) (by have := gx4; omega)).trans HB4.out)
         obtain ⟨p0, p1, p2, p3, o0, o1, o2, o3⟩ := (X5.out.alloc (.cells #[.int .i64 k2, .int .i64 n2, .string s2, .slice A2 m2 c2, .int .i64 k4, .int .i64 n4, .string s4, .slice A4 m4 c4, .int .i64 k5, .int .i64 n5, .string s5, .slice A5 m5 c5] 33)).cells))
  all_goals
    go_wp2_with fail
    obtain ⟨U, hU⟩ : ∃ U, ((((w5.alloc (.cells #[.int .i64 k2, .int .i64 n2, .string s2, .slice A2 m2 c2, .int .i64 k4, .int .i64 n4, .string s4, .slice A4 m4 c4, .int .i64 k5, .int .i64 n5, .string s5, .slice A5 m5 c5] 33)).setCell ⟨W.heap.size, 0, none⟩ (.int .i64 4)).setCell ⟨W.heap.size, 1, none⟩ (.int .i64 (y : Int))).setCell ⟨W.heap.size, 2, none⟩ (.string ⟨#[]⟩)).setCell ⟨W.heap.size, 3, none⟩ (.slice (some ⟨w5.heap.size, 0, none⟩) 3 3) = U := ⟨_, rfl⟩
    rw [hU]
    have hbgE := X5.out.big
    obtain ⟨f1, f2, f3, f4⟩ := (X5.out.alloc (.cells #[.int .i64 k2, .int .i64 n2, .string s2, .slice A2 m2 c2, .int .i64 k4, .int .i64 n4, .string s4, .slice A4 m4 c4, .int .i64 k5, .int .i64 n5, .string s5, .slice A5 m5 c5] 33)).fin 4 (y : Int) ⟨#[]⟩ (.slice (some ⟨w5.heap.size, 0, none⟩) 3 3) (Nw.mk3 hbgE (by decide) (V2.out.keep (fun c h1 h2 => C5.out.block c h2 (by omega)) C5.out.size) (V4.out.keep (fun c h1 h2 => C5.out.block c h2 (by omega)) C5.out.size) V5.out) hU
    refine bodyPost_ret (ret_N rfl _ rfl f1) rfl ?_
    exact ⟨_, rfl, f2, f3, by omega, f4⟩

set_option maxRecDepth 100000 in
set_option maxHeartbeats 40000000 in
theorem stM_5 (L : List Int) (D : Nat) (hD : 1 ≤ D) (hD2 : D ≤ 100) (e : Nat) (subT : PG.Gen) (W : World) (lo b i : Nat) (hs : GenV W lo b L i) (hi : i + (100 + 2 * e) ≤ 1000000000) (hk : PG.nx L i 14 = 5) :
    Calls Tryz.prog 36 #[.pointer (some ⟨b, 0, none⟩), .int .i64 (D : Int)] W fun r w' => ∃ v, r = .returned v ∧ Nw W.heap.size w' (PG.gS L subT 5 (i + 1)).1 v ∧ GenV w' lo b L (PG.gS L subT 5 (i + 1)).2 ∧ (PG.gS L subT 5 (i + 1)).2 ≤ i + (100 + 2 * e) ∧ Chg (· = b) W w' := by
  obtain ⟨W0, hW0⟩ : ∃ U, W.alloc (.cells #[.int .i64 0, .int .i64 0, .string ⟨#[]⟩, .slice none 0 0] 33) = U := ⟨_, rfl⟩
  have X0 : ExG W W0 lo b L i := hW0 ▸ ExG.begin hs
  have N1 := Lib.hid (gpk X0 (by omega) 14 5 14 (by decide) (by decide) rfl hk)
  have HW0 := Lib.hid hW0
  clear hs hW0 X0
  have hwr : IntKind.i64.wrap ((D : Int) - 1) = (D : Int) - 1 := IntWalk.i64_in _ (by omega)
  have hd0 : decide ((D : Int) ≤ 0) = false := by rw [decide_eq_false_iff_not]; omega
  obtain ⟨y, hy2⟩ : ∃ y, PG.nx L (i + 1) 3 = y := ⟨_, rfl⟩
  have N2 := Lib.hid (fun V (h : ExG W V lo b L (i + 1)) => gpk h (by omega) 3 y 3 (by decide) (by decide) rfl hy2)
  have hG : (PG.gS L subT 5 (i + 1)) = (.mk 5 (y : Int) TY.eps [], i + 1 + 1) := by
    unfold PG.gS
    simp [hy2]
  rw [hG]
  clear hG hy2 hk
  go_enter Tryz.func36, Tryz.ntmps36
  go_wp2_with (first
    | (rw [HW0.out]; go_at_call 17; refine N1.out.mono ?_; clear N1; rintro r w1 ⟨rfl, X1, C1⟩; replace X1 := Lib.hid X1; clear C1)
    | (go_at_call 17; refine (N2.out _ X1.out).mono ?_; clear N2; rintro r w2 ⟨rfl, X2, C2⟩; replace X2 := Lib.hid X2; clear C2; obtain ⟨p0, p1, p2, p3, o0, o1, o2, o3⟩ := X2.out.cells))
  obtain ⟨U, hU⟩ : ∃ U, (((w2.setCell ⟨W.heap.size, 0, none⟩ (.int .i64 5)).setCell ⟨W.heap.size, 1, none⟩ (.int .i64 (y : Int))).setCell ⟨W.heap.size, 2, none⟩ (.string ⟨#[]⟩)).setCell ⟨W.heap.size, 3, none⟩ (.slice none 0 0) = U := ⟨_, rfl⟩
  rw [hU]
  obtain ⟨f1, f2, f3, f4⟩ := X2.out.fin 5 (y : Int) ⟨#[]⟩ (.slice none 0 0) (Nw.leaf _ _ _ _ _ (by decide)) hU
  refine bodyPost_ret (ret_N rfl _ rfl f1) rfl ?_
  exact ⟨_, rfl, f2, f3, by omega, f4⟩

set_option maxRecDepth 100000 in
set_option maxHeartbeats 40000000 in
theorem stM_6 (L : List Int) (D : Nat) (hD : 1 ≤ D) (hD2 : D ≤ 100) (e : Nat) (subT : PG.Gen) (W : World) (lo b i : Nat) (hs : GenV W lo b L i) (hi : i + (100 + 2 * e) ≤ 1000000000) (hk : PG.nx L i 14 = 6) :
    Calls Tryz.prog 36 #[.pointer (some ⟨b, 0, none⟩), .int .i64 (D : Int)] W fun r w' => ∃ v, r = .returned v ∧ Nw W.heap.size w' (PG.gS L subT 6 (i + 1)).1 v ∧ GenV w' lo b L (PG.gS L subT 6 (i + 1)).2 ∧ (PG.gS L subT 6 (i + 1)).2 ≤ i + (100 + 2 * e) ∧ Chg (· = b) W w' := by
  obtain ⟨W0, hW0⟩ : ∃ U, W.alloc (.cells #[.int .i64 0, .int .i64 0, .string ⟨#[]⟩, .slice none 0 0] 33) = U := ⟨_, rfl⟩
  have X0 : ExG W W0 lo b L i := hW0 ▸ ExG.begin hs
  have N1 := Lib.hid (gpk X0 (by omega) 14 6 14 (by decide) (by decide) rfl hk)
  have HW0 := Lib.hid hW0
  clear hs hW0 X0
  have hwr : IntKind.i64.wrap ((D : Int) - 1) = (D : Int) - 1 := IntWalk.i64_in _ (by omega)
  have hd0 : decide ((D : Int) ≤ 0) = false := by rw [decide_eq_false_iff_not]; omega
  obtain ⟨y, hy2⟩ : ∃ y, PG.nx L (i + 1) 3 = y := ⟨_, rfl⟩
  have N2 := Lib.hid (fun V (h : ExG W V lo b L (i + 1)) => gpk h (by omega) 3 y 3 (by decide) (by decide) rfl hy2)
  have hG : (PG.gS L subT 6 (i + 1)) = (.mk 6 (y : Int) TY.eps [], i + 1 + 1) := by
    unfold PG.gS
    simp [hy2]
  rw [hG]
  clear hG hy2 hk
  go_enter Tryz.func36, Tryz.ntmps36
  go_wp2_with (first
    | (rw [HW0.out]; go_at_call 17; refine N1.out.mono ?_; clear N1; rintro r w1 ⟨rfl, X1, C1⟩; replace X1 := Lib.hid X1; clear C1)
    | (go_at_call 17; refine (N2.out _ X1.out).mono ?_; clear N2; rintro r w2 ⟨rfl, X2, C2⟩; replace X2 := Lib.hid X2; clear C2; obtain ⟨p0, p1, p2, p3, o0, o1, o2, o3⟩ := X2.out.cells))
  obtain ⟨U, hU⟩ : ∃ U, (((w2.setCell ⟨W.heap.size, 0, none⟩ (.int .i64 6)).setCell ⟨W.heap.size, 1, none⟩ (.int .i64 (y : Int))).setCell ⟨W.heap.size, 2, none⟩ (.string ⟨#[]⟩)).setCell ⟨W.heap.size, 3, none⟩ (.slice none 0 0) = U := ⟨_, rfl⟩
  rw [hU]
  obtain ⟨f1, f2, f3, f4⟩ := X2.out.fin 6 (y : Int) ⟨#[]⟩ (.slice none 0 0) (Nw.leaf _ _ _ _ _ (by decide)) hU
  refine bodyPost_ret (ret_N rfl _ rfl f1) rfl ?_
  exact ⟨_, rfl, f2, f3, by omega, f4⟩

set_option maxRecDepth 100000 in
set_option maxHeartbeats 40000000 in
theorem stM_7 (L : List Int) (D : Nat) (hD : 1 ≤ D) (hD2 : D ≤ 100) (e : Nat) (subT : PG.Gen) (W : World) (lo b i : Nat) (hs : GenV W lo b L i) (hi : i + (100 + 2 * e) ≤ 1000000000) (hk : PG.nx L i 14 = 7) :
    Calls Tryz.prog 36 #[.pointer (some ⟨b, 0, none⟩), .int .i64 (D : Int)] W fun r w' => ∃ v, r = .returned v ∧ Nw W.heap.size w' (PG.gS L subT 7 (i + 1)).1 v ∧ GenV w' lo b L (PG.gS L subT 7 (i + 1)).2 ∧ (PG.gS L subT 7 (i + 1)).2 ≤ i + (100 + 2 * e) ∧ Chg (· = b) W w' := by
  obtain ⟨W0, hW0⟩ : ∃ U, W.alloc (.cells #[.int .i64 0, .int .i64 0, .string ⟨#[]⟩, .slice none 0 0] 33) = U := ⟨_, rfl⟩
  have X0 : ExG W W0 lo b L i := hW0 ▸ ExG.begin hs
  have N1 := Lib.hid (gpk X0 (by omega) 14 7 14 (by decide) (by decide) rfl hk)
  have HW0 := Lib.hid hW0
  clear hs hW0 X0
  have hwr : IntKind.i64.wrap ((D : Int) - 1) = (D : Int) - 1 := IntWalk.i64_in _ (by omega)
  have hd0 : decide ((D : Int) ≤ 0) = false := by rw [decide_eq_false_iff_not]; omega
  have hG : (PG.gS L subT 7 (i + 1)) = (.mk 7 0 TY.eps [], i + 1) := by
    unfold PG.gS
    simp []
  rw [hG]
  clear hG hk
  go_enter Tryz.func36, Tryz.ntmps36
  go_wp2_with (first
    | (rw [HW0.out]; go_at_call 17; refine N1.out.mono ?_; clear N1; rintro r w1 ⟨rfl, X1, C1⟩; replace X1 := Lib.hid X1; clear C1; obtain ⟨p0, p1, p2, p3, o0, o1, o2, o3⟩ := X1.out.cells))
  obtain ⟨U, hU⟩ : ∃ U, (((w1.setCell ⟨W.heap.size, 0, none⟩ (.int .i64 7)).setCell ⟨W.heap.size, 1, none⟩ (.int .i64 0)).setCell ⟨W.heap.size, 2, none⟩ (.string ⟨#[]⟩)).setCell ⟨W.heap.size, 3, none⟩ (.slice none 0 0) = U := ⟨_, rfl⟩
  rw [hU]
  obtain ⟨f1, f2, f3, f4⟩ := X1.out.fin 7 0 ⟨#[]⟩ (.slice none 0 0) (Nw.leaf _ _ _ _ _ (by decide)) hU
  refine bodyPost_ret (ret_N rfl _ rfl f1) rfl ?_
  exact ⟨_, rfl, f2, f3, by omega, f4⟩

set_option maxRecDepth 100000 in
set_option maxHeartbeats 40000000 in
theorem stM_8 (L : List Int) (D : Nat) (hD : 1 ≤ D) (hD2 : D ≤ 100) (e : Nat) (subT : PG.Gen) (W : World) (lo b i : Nat) (hs : GenV W lo b L i) (hi : i + (100 + 2 * e) ≤ 1000000000) (hk : PG.nx L i 14 = 8) :
    Calls Tryz.prog 36 #[.pointer (some ⟨b, 0, none⟩), .int .i64 (D : Int)] W fun r w' => ∃ v, r = .returned v ∧ Nw W.heap.size w' (PG.gS L subT 8 (i + 1)).1 v ∧ GenV w' lo b L (PG.gS L subT 8 (i + 1)).2 ∧ (PG.gS L subT 8 (i + 1)).2 ≤ i + (100 + 2 * e) ∧ Chg (· = b) W w' := by
  obtain ⟨W0, hW0⟩ : ∃ U, W.alloc (.cells #[.int .i64 0, .int .i64 0, .string ⟨#[]⟩, .slice none 0 0] 33) = U := ⟨_, rfl⟩
  have X0 : ExG W W0 lo b L i := hW0 ▸ ExG.begin hs
  have N1 := Lib.hid (gpk X0 (by omega) 14 8 14 (by decide) (by decide) rfl hk)
  have HW0 := Lib.hid hW0
  clear hs hW0 X0
  have hwr : IntKind.i64.wrap ((D : Int) - 1) = (D : Int) - 1 := IntWalk.i64_in _ (by omega)
  have hd0 : decide ((D : Int) ≤ 0) = false := by rw [decide_eq_false_iff_not]; omega
  obtain ⟨⟨t2, j2⟩, h2⟩ : ∃ p, PG.genI L 0 (i + 1) = p := ⟨_, rfl⟩
  have N2 := Lib.hid (fun V (h : ExG W V lo b L (i + 1)) => gsb (int_0 L) h (by omega) h2)
  obtain ⟨⟨t3, j3⟩, h3⟩ : ∃ p, PG.genI L 1 (j2) = p := ⟨_, rfl⟩
  have N3 := Lib.hid (fun V (h : ExG W V lo b L (j2)) (_ : j2 ≤ i + 1 + 3) => gsb (int_1 L) h (by omega) h3)
  have hG : (PG.gS L subT 8 (i + 1)) = (.mk 8 0 TY.eps [t2, t3], j3) := by
    unfold PG.gS
    simp [h2, h3]
  rw [hG]
  clear hG h2 h3 hk
  go_enter Tryz.func36, Tryz.ntmps36
  go_wp2_with (first
    | (rw [HW0.out]; go_at_call 17; refine N1.out.mono ?_; clear N1; rintro r w1 ⟨rfl, X1, C1⟩; replace X1 := Lib.hid X1; clear C1)
    | (go_at_call 66; refine (N2.out _ X1.out).mono ?_; clear N2; rintro r w2 ⟨k2, n2, s2, A2, m2, c2, rfl, V2, X2, B2, C2⟩; replace X2 := Lib.hid X2; replace V2 := Lib.hid (V2.lower (by have := X1.out.big; omega)); clear C2; have gx2 : b < w2.heap.size := by have h1 := X2.out.lt; have h2 := X2.out.big; omega))
  have hblt := X2.out.lt
  have hbgL := X2.out.big
  have hbx2 := World.alloc_heap_new w2 (.cells #[.int .i64 k2, .int .i64 n2, .string s2, .slice A2 m2 c2] 33)
  have XR := Lib.hid (X2.out.alloc (.cells #[.int .i64 k2, .int .i64 n2, .string s2, .slice A2 m2 c2] 33))
  have DR := Lib.hid (show Chg (· = b) w2 (w2.alloc (.cells #[.int .i64 k2, .int .i64 n2, .string s2, .slice A2 m2 c2] 33)) from (Chg.refl (· = b) w2).alloc _)
  have zR : (w2.alloc (.cells #[.int .i64 k2, .int .i64 n2, .string s2, .slice A2 m2 c2] 33)).heap.size = w2.heap.size + 1 := World.size_alloc _ _
  replace V2 := Lib.hid (V2.out.keep (fun c h1 h2 => DR.out.block c h2 (by omega)) DR.out.size)
  obtain ⟨R0, hR0⟩ : ∃ U, (w2.alloc (.cells #[.int .i64 k2, .int .i64 n2, .string s2, .slice A2 m2 c2] 33)) = U := ⟨_, rfl⟩
  rw [hR0] at hbx2 XR zR V2 ⊢
  obtain ⟨ya2, yb2, yc2, yd2⟩ := box_cellsG hbx2
  have HB2 := Lib.hid hbx2
  have XD := Lib.hid (XR.out.step (XR.out.src.chg ((Chg.refl (fun _ => False) R0).drew) (fun e => e) (fun _ e => e.elim)) ((Chg.refl (· = b) R0).drew))
  clear hR0 DR hbx2
  go_region_law
    (first
      | (go_simp; go_at_call 66; refine (N3.out _ XD.out B2).mono ?_; clear N3; rintro r w3 ⟨k3, n3, s3, A3, m3, c3, rfl, V3, X3, B3, C3⟩
         replace C3 := Lib.hid (show Chg (· = b) R0 w3 from ((Chg.refl (· = b) R0).drew).trans C3 (fun _ _ e => e))
         replace X3 := Lib.hid X3
         replace V3 := Lib.hid (show Nw (W.heap.size + 1) w3 t3 (ndv k3 n3 s3 (.slice A3 m3 c3)) from V3.lower (show W.heap.size + 1 ≤ R0.heap.size by omega))
         obtain ⟨za2, zb2, zc2, zd2⟩ := box_cellsG ((C3.out.block _ (heap_lt HB2.out) (by have := gx2; omega)).trans HB2.out)
         obtain ⟨p0, p1, p2, p3, o0, o1, o2, o3⟩ := (X3.out.alloc (.cells #[.int .i64 k2, .int .i64 n2, .string s2, .slice A2 m2 c2, .int .i64 k3, .int .i64 n3, .string s3, .slice A3 m3 c3] 33)).cells))
  all_goals
    go_wp2_with fail
    obtain ⟨U, hU⟩ : ∃ U, ((((w3.alloc (.cells #[.int .i64 k2, .int .i64 n2, .string s2, .slice A2 m2 c2, .int .i64 k3, .int .i64 n3, .string s3, .slice A3 m3 c3] 33)).setCell ⟨W.heap.size, 0, none⟩ (.int .i64 8)).setCell ⟨W.heap.size, 1, none⟩ (.int .i64 0)).setCell ⟨W.heap.size, 2, none⟩ (.string ⟨#[]⟩)).setCell ⟨W.heap.size, 3, none⟩ (.slice (some ⟨w3.heap.size, 0, none⟩) 2 2) = U := ⟨_, rfl⟩
    rw [hU]
    have hbgE := X3.out.big
    obtain ⟨f1, f2, f3, f4⟩ := (X3.out.alloc (.cells #[.int .i64 k2, .int .i64 n2, .string s2, .slice A2 m2 c2, .int .i64 k3, .int .i64 n3, .string s3, .slice A3 m3 c3] 33)).fin 8 0 ⟨#[]⟩ (.slice (some ⟨w3.heap.size, 0, none⟩) 2 2) (Nw.mk2 hbgE (by decide) (V2.out.keep (fun c h1 h2 => C3.out.block c h2 (by omega)) C3.out.size) V3.out) hU
    refine bodyPost_ret (ret_N rfl _ rfl f1) rfl ?_
    exact ⟨_, rfl, f2, f3, by omega, f4⟩

set_option maxRecDepth 100000 in
set_option maxHeartbeats 40000000 in
theorem stM_9 (L : List Int) (D : Nat) (hD : 1 ≤ D) (hD2 : D ≤ 100) (e : Nat) (subT : PG.Gen) (W : World) (lo b i : Nat) (hs : GenV W lo b L i) (hi : i + (100 + 2 * e) ≤ 1000000000) (hk : PG.nx L i 14 = 9) :
    Calls Tryz.prog 36 #[.pointer (some ⟨b, 0, none⟩), .int .i64 (D : Int)] W fun r w' => ∃ v, r = .returned v ∧ Nw W.heap.size w' (PG.gS L subT 9 (i + 1)).1 v ∧ GenV w' lo b L (PG.gS L subT 9 (i + 1)).2 ∧ (PG.gS L subT 9 (i + 1)).2 ≤ i + (100 + 2 * e) ∧ Chg (· = b) W w' := by
  obtain ⟨W0, hW0⟩ : ∃ U, W.alloc (.cells #[.int .i64 0, .int .i64 0, .string ⟨#[]⟩, .slice none 0 0] 33) = U := ⟨_, rfl⟩
  have X0 : ExG W W0 lo b L i := hW0 ▸ ExG.begin hs
  have N1 := Lib.hid (gpk X0 (by omega) 14 9 14 (by decide) (by decide) rfl hk)
  have HW0 := Lib.hid hW0
  clear hs hW0 X0
  have hwr : IntKind.i64.wrap ((D : Int) - 1) = (D : Int) - 1 := IntWalk.i64_in _ (by omega)
  have hd0 : decide ((D : Int) ≤ 0) = false := by rw [decide_eq_false_iff_not]; omega
  obtain ⟨⟨t2, j2⟩, h2⟩ : ∃ p, PG.genI L 1 (i + 1) = p := ⟨_, rfl⟩
  have N2 := Lib.hid (fun V (h : ExG W V lo b L (i + 1)) => gsb (int_1 L) h (by omega) h2)
  have hG : (PG.gS L subT 9 (i + 1)) = (.mk 9 0 TY.eps [t2], j2) := by
    unfold PG.gS
    simp [h2]
  rw [hG]
  clear hG h2 hk
  go_enter Tryz.func36, Tryz.ntmps36
  go_wp2_with (first
    | (rw [HW0.out]; go_at_call 17; refine N1.out.mono ?_; clear N1; rintro r w1 ⟨rfl, X1, C1⟩; replace X1 := Lib.hid X1; clear C1)
    | (go_at_call 66; refine (N2.out _ X1.out).mono ?_; clear N2; rintro r w2 ⟨k2, n2, s2, A2, m2, c2, rfl, V2, X2, B2, C2⟩; replace X2 := Lib.hid X2; replace V2 := Lib.hid (V2.lower (by have := X1.out.big; omega)); clear C2; obtain ⟨p0, p1, p2, p3, o0, o1, o2, o3⟩ := (X2.out.alloc (.cells #[.int .i64 k2, .int .i64 n2, .string s2, .slice A2 m2 c2] 33)).cells))
  obtain ⟨U, hU⟩ : ∃ U, ((((w2.alloc (.cells #[.int .i64 k2, .int .i64 n2, .string s2, .slice A2 m2 c2] 33)).setCell ⟨W.heap.size, 0, none⟩ (.int .i64 9)).setCell ⟨W.heap.size, 1, none⟩ (.int .i64 0)).setCell ⟨W.heap.size, 2, none⟩ (.string ⟨#[]⟩)).setCell ⟨W.heap.size, 3, none⟩ (.slice (some ⟨w2.heap.size, 0, none⟩) 1 1) = U := ⟨_, rfl⟩
  rw [hU]
  have hbgE := X2.out.big
  obtain ⟨f1, f2, f3, f4⟩ := (X2.out.alloc (.cells #[.int .i64 k2, .int .i64 n2, .string s2, .slice A2 m2 c2] 33)).fin 9 0 ⟨#[]⟩ (.slice (some ⟨w2.heap.size, 0, none⟩) 1 1) (Nw.mk1 hbgE (by decide) V2.out) hU
  refine bodyPost_ret (ret_N rfl _ rfl f1) rfl ?_
  exact ⟨_, rfl, f2, f3, by omega, f4⟩

set_option maxRecDepth 100000 in
set_option maxHeartbeats 40000000 in
theorem stM_10a (L : List Int) (D : Nat) (hD : 1 ≤ D) (hD2 : D ≤ 100) (e : Nat) (subT : PG.Gen) (W : World) (lo b i : Nat) (hs : GenV W lo b L i) (hi : i + (100 + 2 * e) ≤ 1000000000) (hk : PG.nx L i 14 = 10) (hy3 : 0 < PG.nx L (i + 1) 3) :
    Calls Tryz.prog 36 #[.pointer (some ⟨b, 0, none⟩), .int .i64 (D : Int)] W fun r w' => ∃ v, r = .returned v ∧ Nw W.heap.size w' (PG.gS L subT 10 (i + 1)).1 v ∧ GenV w' lo b L (PG.gS L subT 10 (i + 1)).2 ∧ (PG.gS L subT 10 (i + 1)).2 ≤ i + (100 + 2 * e) ∧ Chg (· = b) W w' := by
  obtain ⟨W0, hW0⟩ : ∃ U, W.alloc (.cells #[.int .i64 0, .int .i64 0, .string ⟨#[]⟩, .slice none 0 0] 33) = U := ⟨_, rfl⟩
  have X0 : ExG W W0 lo b L i := hW0 ▸ ExG.begin hs
  have N1 := Lib.hid (gpk X0 (by omega) 14 10 14 (by decide) (by decide) rfl hk)
  have HW0 := Lib.hid hW0
  clear hs hW0 X0
  have hwr : IntKind.i64.wrap ((D : Int) - 1) = (D : Int) - 1 := IntWalk.i64_in _ (by omega)
  have hd0 : decide ((D : Int) ≤ 0) = false := by rw [decide_eq_false_iff_not]; omega
  obtain ⟨y, hy2⟩ : ∃ y, PG.nx L (i + 1) 3 = y := ⟨_, rfl⟩
  have gy : 0 < y := by omega
  have N2 := Lib.hid (fun V (h : ExG W V lo b L (i + 1)) => gpk h (by omega) 3 y 3 (by decide) (by decide) rfl hy2)
  obtain ⟨z, hzz⟩ : ∃ z, TY.pick PG.vars (PG.nx L (i + 1 + 1) 4) = z := ⟨_, rfl⟩
  have hz : z.size ≤ 1000 := hzz ▸ pick_small (by decide) _
  have N3 := Lib.hid (fun V (h : ExG W V lo b L (i + 1 + 1)) => gvr h (by omega) hzz)
  obtain ⟨⟨t4, j4⟩, h4⟩ : ∃ p, PG.genI L 1 (i + 1 + 1 + 1) = p := ⟨_, rfl⟩
  have N4 := Lib.hid (fun V (h : ExG W V lo b L (i + 1 + 1 + 1)) => gsb (int_1 L) h (by omega) h4)
  have hG : (PG.gS L subT 10 (i + 1)) = (.mk 1 0 z [t4], j4) := by
    unfold PG.gS PG.asg
    simp [hy3, hzz, h4]
  rw [hG]
  clear hG hy2 hzz h4 hy3 hk
  go_enter Tryz.func36, Tryz.ntmps36
  go_wp2_with (first
    | (rw [HW0.out]; go_at_call 17; refine N1.out.mono ?_; clear N1; rintro r w1 ⟨rfl, X1, C1⟩; replace X1 := Lib.hid X1; clear C1)
    | (go_at_call 17; refine (N2.out _ X1.out).mono ?_; clear N2; rintro r w2 ⟨rfl, X2, C2⟩; replace X2 := Lib.hid X2; clear C2)
    | (go_at_call 65; refine (N3.out _ X2.out).mono ?_; clear N3; rintro r w3 ⟨rfl, X3, C3⟩; replace X3 := Lib.hid X3; clear C3)
    | (go_at_call 66; refine (N4.out _ X3.out).mono ?_; clear N4; rintro r w4 ⟨k4, n4, s4, A4, m4, c4, rfl, V4, X4, B4, C4⟩; replace X4 := Lib.hid X4; replace V4 := Lib.hid (V4.lower (by have := X3.out.big; omega)); clear C4; obtain ⟨p0, p1, p2, p3, o0, o1, o2, o3⟩ := (X4.out.alloc (.cells #[.int .i64 k4, .int .i64 n4, .string s4, .slice A4 m4 c4] 33)).cells))
  obtain ⟨U, hU⟩ : ∃ U, ((((w4.alloc (.cells #[.int .i64 k4, .int .i64 n4, .string s4, .slice A4 m4 c4] 33)).setCell ⟨W.heap.size, 0, none⟩ (.int .i64 1)).setCell ⟨W.heap.size, 1, none⟩ (.int .i64 0)).setCell ⟨W.heap.size, 2, none⟩ (.string z)).setCell ⟨W.heap.size, 3, none⟩ (.slice (some ⟨w4.heap.size, 0, none⟩) 1 1) = U := ⟨_, rfl⟩
  rw [hU]
  have hbgE := X4.out.big
  obtain ⟨f1, f2, f3, f4⟩ := (X4.out.alloc (.cells #[.int .i64 k4, .int .i64 n4, .string s4, .slice A4 m4 c4] 33)).fin 1 0 z (.slice (some ⟨w4.heap.size, 0, none⟩) 1 1) (Nw.mk1 hbgE hz V4.out) hU
  refine bodyPost_ret (ret_N rfl _ rfl f1) rfl ?_
  exact ⟨_, rfl, f2, f3, by omega, f4⟩

set_option maxRecDepth 100000 in
set_option maxHeartbeats 40000000 in
theorem stM_10b (L : List Int) (D : Nat) (hD : 1 ≤ D) (hD2 : D ≤ 100) (e : Nat) (subT : PG.Gen) (W : World) (lo b i : Nat) (hs : GenV W lo b L i) (hi : i + (100 + 2 * e) ≤ 1000000000) (hk : PG.nx L i 14 = 10) (hy3 : ¬ 0 < PG.nx L (i + 1) 3) :
    Calls Tryz.prog 36 #[.pointer (some ⟨b, 0, none⟩), .int .i64 (D : Int)] W fun r w' => ∃ v, r = .returned v ∧ Nw W.heap.size w' (PG.gS L subT 10 (i + 1)).1 v ∧ GenV w' lo b L (PG.gS L subT 10 (i + 1)).2 ∧ (PG.gS L subT 10 (i + 1)).2 ≤ i + (100 + 2 * e) ∧ Chg (· = b) W w' := by
  obtain ⟨W0, hW0⟩ : ∃ U, W.alloc (.cells #[.int .i64 0, .int .i64 0, .string ⟨#[]⟩, .slice none 0 0] 33) = U := ⟨_, rfl⟩
  have X0 : ExG W W0 lo b L i := hW0 ▸ ExG.begin hs
  have N1 := Lib.hid (gpk X0 (by omega) 14 10 14 (by decide) (by decide) rfl hk)
  have HW0 := Lib.hid hW0
  clear hs hW0 X0
  have hwr : IntKind.i64.wrap ((D : Int) - 1) = (D : Int) - 1 := IntWalk.i64_in _ (by omega)
  have hd0 : decide ((D : Int) ≤ 0) = false := by rw [decide_eq_false_iff_not]; omega
  obtain ⟨y, hy2⟩ : ∃ y, PG.nx L (i + 1) 3 = y := ⟨_, rfl⟩
  have gy : ¬ 0 < y := by omega
  have N2 := Lib.hid (fun V (h : ExG W V lo b L (i + 1)) => gpk h (by omega) 3 y 3 (by decide) (by decide) rfl hy2)
  have hG : (PG.gS L subT 10 (i + 1)) = (.mk 10 0 TY.eps [], i + 1 + 1) := by
    unfold PG.gS
    simp [hy3]
  rw [hG]
  clear hG hy2 hy3 hk
  go_enter Tryz.func36, Tryz.ntmps36
  go_wp2_with (first
    | (rw [HW0.out]; go_at_call 17; refine N1.out.mono ?_; clear N1; rintro r w1 ⟨rfl, X1, C1⟩; replace X1 := Lib.hid X1; clear C1)
    | (go_at_call 17; refine (N2.out _ X1.out).mono ?_; clear N2; rintro r w2 ⟨rfl, X2, C2⟩; replace X2 := Lib.hid X2; clear C2; obtain ⟨p0, p1, p2, p3, o0, o1, o2, o3⟩ := X2.out.cells))
  obtain ⟨U, hU⟩ : ∃ U, (((w2.setCell ⟨W.heap.size, 0, none⟩ (.int .i64 10)).setCell ⟨W.heap.size, 1, none⟩ (.int .i64 0)).setCell ⟨W.heap.size, 2, none⟩ (.string ⟨#[]⟩)).setCell ⟨W.heap.size, 3, none⟩ (.slice none 0 0) = U := ⟨_, rfl⟩
  rw [hU]
  obtain ⟨f1, f2, f3, f4⟩ := X2.out.fin 10 0 ⟨#[]⟩ (.slice none 0 0) (Nw.leaf _ _ _ _ _ (by decide)) hU
  refine bodyPost_ret (ret_N rfl _ rfl f1) rfl ?_
  exact ⟨_, rfl, f2, f3, by omega, f4⟩

set_option maxRecDepth 100000 in
set_option maxHeartbeats 40000000 in
theorem stM_11 (L : List Int) (D : Nat) (hD : 1 ≤ D) (hD2 : D ≤ 100) (e : Nat) (subT : PG.Gen) (hsub : GAt 18 L [(D : Int) - 1, 2] subT e) (W : World) (lo b i : Nat) (hs : GenV W lo b L i) (hi : i + (100 + 2 * e) ≤ 1000000000) (hk : PG.nx L i 14 = 11) :
    Calls Tryz.prog 36 #[.pointer (some ⟨b, 0, none⟩), .int .i64 (D : Int)] W fun r w' => ∃ v, r = .returned v ∧ Nw W.heap.size w' (PG.gS L subT 11 (i + 1)).1 v ∧ GenV w' lo b L (PG.gS L subT 11 (i + 1)).2 ∧ (PG.gS L subT 11 (i + 1)).2 ≤ i + (100 + 2 * e) ∧ Chg (· = b) W w' := by
  obtain ⟨W0, hW0⟩ : ∃ U, W.alloc (.cells #[.int .i64 0, .int .i64 0, .string ⟨#[]⟩, .slice none 0 0] 33) = U := ⟨_, rfl⟩
  have X0 : ExG W W0 lo b L i := hW0 ▸ ExG.begin hs
  have N1 := Lib.hid (gpk X0 (by omega) 14 11 14 (by decide) (by decide) rfl hk)
  have HW0 := Lib.hid hW0
  clear hs hW0 X0
  have hwr : IntKind.i64.wrap ((D : Int) - 1) = (D : Int) - 1 := IntWalk.i64_in _ (by omega)
  have hd0 : decide ((D : Int) ≤ 0) = false := by rw [decide_eq_false_iff_not]; omega
  obtain ⟨⟨t2, j2⟩, h2⟩ : ∃ p, PG.genB L 1 (i + 1) = p := ⟨_, rfl⟩
  have N2 := Lib.hid (fun V (h : ExG W V lo b L (i + 1)) => gsb (bo_1 L) h (by omega) h2)
  obtain ⟨⟨t3, j3⟩, h3⟩ : ∃ p, subT (j2) = p := ⟨_, rfl⟩
  have N3 := Lib.hid (fun V (h : ExG W V lo b L (j2)) (_ : j2 ≤ i + 1 + 21) => gsb hsub h (by omega) h3)
  have hG : (PG.gS L subT 11 (i + 1)) = (.mk 3 0 TY.eps [t2, t3], j3) := by
    unfold PG.gS
    simp [h2, h3]
  rw [hG]
  clear hG h2 h3 hsub hk
  go_enter Tryz.func36, Tryz.ntmps36
  go_wp2_with (first
    | (rw [HW0.out]; go_at_call 17; refine N1.out.mono ?_; clear N1; rintro r w1 ⟨rfl, X1, C1⟩; replace X1 := Lib.hid X1; clear C1)
    | (go_at_call 67; refine (N2.out _ X1.out).mono ?_; clear N2; rintro r w2 ⟨k2, n2, s2, A2, m2, c2, rfl, V2, X2, B2, C2⟩; replace X2 := Lib.hid X2; replace V2 := Lib.hid (V2.lower (by have := X1.out.big; omega)); clear C2; have gx2 : b < w2.heap.size := by have h1 := X2.out.lt; have h2 := X2.out.big; omega))
  have hblt := X2.out.lt
  have hbgL := X2.out.big
  have hbx2 := World.alloc_heap_new w2 (.cells #[.int .i64 k2, .int .i64 n2, .string s2, .slice A2 m2 c2] 33)
  have XR := Lib.hid (X2.out.alloc (.cells #[.int .i64 k2, .int .i64 n2, .string s2, .slice A2 m2 c2] 33))
  have DR := Lib.hid (show Chg (· = b) w2 (w2.alloc (.cells #[.int .i64 k2, .int .i64 n2, .string s2, .slice A2 m2 c2] 33)) from (Chg.refl (· = b) w2).alloc _)
  have zR : (w2.alloc (.cells #[.int .i64 k2, .int .i64 n2, .string s2, .slice A2 m2 c2] 33)).heap.size = w2.heap.size + 1 := World.size_alloc _ _
  replace V2 := Lib.hid (V2.out.keep (fun c h1 h2 => DR.out.block c h2 (by omega)) DR.out.size)
  obtain ⟨R0, hR0⟩ : ∃ U, (w2.alloc (.cells #[.int .i64 k2, .int .i64 n2, .string s2, .slice A2 m2 c2] 33)) = U := ⟨_, rfl⟩
  rw [hR0] at hbx2 XR zR V2 ⊢
  obtain ⟨ya2, yb2, yc2, yd2⟩ := box_cellsG hbx2
  have HB2 := Lib.hid hbx2
  have XD := Lib.hid (XR.out.step (XR.out.src.chg ((Chg.refl (fun _ => False) R0).drew) (fun e => e) (fun _ e => e.elim)) ((Chg.refl (· = b) R0).drew))
  clear hR0 DR hbx2
  go_region_law
    (first
      | (go_simp; go_at_call 18; refine (N3.out _ XD.out B2).mono ?_; clear N3; rintro r w3 ⟨k3, n3, s3, A3, m3, c3, rfl, V3, X3, B3, C3⟩
         replace C3 := Lib.hid (show Chg (· = b) R0 w3 from ((Chg.refl (· = b) R0).drew).trans C3 (fun _ _ e => e))
         replace X3 := Lib.hid X3
         replace V3 := Lib.hid (show Nw (W.heap.size + 1) w3 t3 (ndv k3 n3 s3 (.slice A3 m3 c3)) from V3.lower (show W.heap.size + 1 ≤ R0.heap.size by omega))
         obtain ⟨za2, zb2, zc2, zd2⟩ := box_cellsG ((C3.out.block _ (heap_lt HB2.out) (by have := gx2; omega)).trans HB2.out)
         obtain ⟨p0, p1, p2, p3, o0, o1, o2, o3⟩ := (X3.out.alloc (.cells #[.int .i64 k2, .int .i64 n2, .string s2, .slice A2 m2 c2, .int .i64 k3, .int .i64 n3, .string s3, .slice A3 m3 c3] 33)).cells))
  all_goals
    go_wp2_with fail
    obtain ⟨U, hU⟩ : ∃ U, ((((w3.alloc (.cells #[.int .i64 k2, .int .i64 n2, .string s2, .slice A2 m2 c2, .int .i64 k3, .int .i64 n3, .string s3, .slice A3 m3 c3] 33)).setCell ⟨W.heap.size, 0, none⟩ (.int .i64 3)).setCell ⟨W.heap.size, 1, none⟩ (.int .i64 0)).setCell ⟨W.heap.size, 2, none⟩ (.string ⟨#[]⟩)).setCell ⟨W.heap.size, 3, none⟩ (.slice (some ⟨w3.heap.size, 0, none⟩) 2 2) = U := ⟨_, rfl⟩
    rw [hU]
    have hbgE := X3.out.big
    obtain ⟨f1, f2, f3, f4⟩ := (X3.out.alloc (.cells #[.int .i64 k2, .int .i64 n2, .string s2, .slice A2 m2 c2, .int .i64 k3, .int .i64 n3, .string s3, .slice A3 m3 c3] 33)).fin 3 0 ⟨#[]⟩ (.slice (some ⟨w3.heap.size, 0, none⟩) 2 2) (Nw.mk2 hbgE (by decide) (V2.out.keep (fun c h1 h2 => C3.out.block c h2 (by omega)) C3.out.size) V3.out) hU
    refine bodyPost_ret (ret_N rfl _ rfl f1) rfl ?_
    exact ⟨_, rfl, f2, f3, by omega, f4⟩

end Go.Proofs.YtlfpaemfhanpiaaGreatDoor
