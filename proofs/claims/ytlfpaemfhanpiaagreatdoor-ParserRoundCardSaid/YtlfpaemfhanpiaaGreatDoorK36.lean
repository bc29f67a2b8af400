/-
  The reference's generator: Bool, one level, given what it does one level down. Written by wip/gen/ref6.py. Condition: the generator lies in a block of its own.
-/
import Derived.Test.YtlfpaemfhanpiaaGreatDoorK35
import Derived.Deep.RegionHeld3
import Derived.Deep.RegionLaw

namespace Go.Proofs.YtlfpaemfhanpiaaGreatDoor
open Go Go.RowKit Go.Proofs
attribute [local go_sem] Oper.semAt_some


set_option maxRecDepth 100000 in
set_option maxHeartbeats 40000000 in
theorem boL_0 (L : List Int) (d : Int) (hd : d ≤ 0) (W : World) (lo b i : Nat) (hs : GenV W lo b L i) (hi : i + 9 ≤ 1000000000) (x0 : Nat) (hk : PG.nx L i 8 = x0) (hr : x0 % 4 = 0) :
    Calls Tryz.prog 67 #[.pointer (some ⟨b, 0, none⟩), .int .i64 d] W fun r w' => ∃ v, r = .returned v ∧ Nw W.heap.size w' (PG.gB L PG.none0 (PG.genI L 0) 0 (i + 1)).1 v ∧ GenV w' lo b L (PG.gB L PG.none0 (PG.genI L 0) 0 (i + 1)).2 ∧ (PG.gB L PG.none0 (PG.genI L 0) 0 (i + 1)).2 ≤ i + 9 ∧ Chg (· = b) W w' := by
  obtain ⟨W0, hW0⟩ : ∃ U, W.alloc (.cells #[.int .i64 0, .int .i64 0, .string ⟨#[]⟩, .slice none 0 0] 33) = U := ⟨_, rfl⟩
  have X0 : ExG W W0 lo b L i := hW0 ▸ ExG.begin hs
  have N1 := Lib.hid (gpk X0 (by omega) 8 x0 8 (by decide) (by decide) rfl hk)
  have HW0 := Lib.hid hW0
  clear hs hW0 X0
  have hd0 : decide (d ≤ 0) = true := decide_eq_true hd
  have hx0 : x0 < 8 := hk ▸ PG.nx_lt _ _ (by decide)
  have hrm : (x0 : Int).tmod 4 = 0 := by rw [Int.tmod_eq_emod_of_nonneg (by omega)]; omega
  have hrm2 : IntKind.i64.wrap ((x0 : Int).tmod 4) = 0 := by rw [hrm]; rfl
  obtain ⟨y, hy2⟩ : ∃ y, PG.nx L (i + 1) 2 = y := ⟨_, rfl⟩
  have N2 := Lib.hid (fun V (h : ExG W V lo b L (i + 1)) => gpk h (by omega) 2 y 2 (by decide) (by decide) rfl hy2)
  have hG : (PG.gB L PG.none0 (PG.genI L 0) 0 (i + 1)) = (.mk 13 (y : Int) TY.eps [], i + 1 + 1) := by
    unfold PG.gB
    simp [hy2]
  rw [hG]
  clear hG hy2 hk hr
  go_enter Tryz.func67, Tryz.ntmps67
  go_wp2_with (first
    | (rw [HW0.out]; go_at_call 17; refine N1.out.mono ?_; clear N1; rintro r w1 ⟨rfl, X1, C1⟩; replace X1 := Lib.hid X1; clear C1)
    | (go_at_call 17; refine (N2.out _ X1.out).mono ?_; clear N2; rintro r w2 ⟨rfl, X2, C2⟩; replace X2 := Lib.hid X2; clear C2; obtain ⟨p0, p1, p2, p3, o0, o1, o2, o3⟩ := X2.out.cells))
  obtain ⟨U, hU⟩ : ∃ U, (((w2.setCell ⟨W.heap.size, 0, none⟩ (.int .i64 13)).setCell ⟨W.heap.size, 1, none⟩ (.int .i64 (y : Int))).setCell ⟨W.heap.size, 2, none⟩ (.string ⟨#[]⟩)).setCell ⟨W.heap.size, 3, none⟩ (.slice none 0 0) = U := ⟨_, rfl⟩
  rw [hU]
  obtain ⟨f1, f2, f3, f4⟩ := X2.out.fin 13 (y : Int) ⟨#[]⟩ (.slice none 0 0) (Nw.leaf _ _ _ _ _ (by decide)) hU
  refine bodyPost_ret (ret_N rfl _ rfl f1) rfl ?_
  exact ⟨_, rfl, f2, f3, by omega, f4⟩

set_option maxRecDepth 100000 in
set_option maxHeartbeats 40000000 in
theorem boL_1 (L : List Int) (d : Int) (hd : d ≤ 0) (hd2 : -1000 ≤ d) (W : World) (lo b i : Nat) (hs : GenV W lo b L i) (hi : i + 9 ≤ 1000000000) (x0 : Nat) (hk : PG.nx L i 8 = x0) (hr : x0 % 4 = 1) :
    Calls Tryz.prog 67 #[.pointer (some ⟨b, 0, none⟩), .int .i64 d] W fun r w' => ∃ v, r = .returned v ∧ Nw W.heap.size w' (PG.gB L PG.none0 (PG.genI L 0) 1 (i + 1)).1 v ∧ GenV w' lo b L (PG.gB L PG.none0 (PG.genI L 0) 1 (i + 1)).2 ∧ (PG.gB L PG.none0 (PG.genI L 0) 1 (i + 1)).2 ≤ i + 9 ∧ Chg (· = b) W w' := by
  obtain ⟨W0, hW0⟩ : ∃ U, W.alloc (.cells #[.int .i64 0, .int .i64 0, .string ⟨#[]⟩, .slice none 0 0] 33) = U := ⟨_, rfl⟩
  have X0 : ExG W W0 lo b L i := hW0 ▸ ExG.begin hs
  have N1 := Lib.hid (gpk X0 (by omega) 8 x0 8 (by decide) (by decide) rfl hk)
  have HW0 := Lib.hid hW0
  clear hs hW0 X0
  have hd0 : decide (d ≤ 0) = true := decide_eq_true hd
  have hwr : IntKind.i64.wrap (d - 1) = d - 1 := IntWalk.i64_in _ (by omega)
  have hx0 : x0 < 8 := hk ▸ PG.nx_lt _ _ (by decide)
  have hrm : (x0 : Int).tmod 4 = 1 := by rw [Int.tmod_eq_emod_of_nonneg (by omega)]; omega
  have hrm2 : IntKind.i64.wrap ((x0 : Int).tmod 4) = 1 := by rw [hrm]; rfl
  obtain ⟨y, hy2⟩ : ∃ y, PG.nx L (i + 1) 6 = y := ⟨_, rfl⟩
  have hy2l : y < 6 := hy2 ▸ PG.nx_lt _ _ (by decide)
  have N2 := Lib.hid (fun V (h : ExG W V lo b L (i + 1)) => gpc h (by omega) #[.string TY.sLt, .string TY.sLe, .string TY.sGt, .string TY.sGe, .string TY.sEq, .string TY.sNe] 9 6 y 6 (fun j => .string (TY.pick TY.compar j)) (by decide) (by decide) rfl hy2 (fun j hj => by
      match j, hj with
      | 0, _ => rfl
      | 1, _ => rfl
      | 2, _ => rfl
      | 3, _ => rfl
      | 4, _ => rfl
      | 5, _ => rfl))
  obtain ⟨z, hzz⟩ : ∃ z, TY.pick TY.compar y = z := ⟨_, rfl⟩
  have hz : z.size ≤ 1000 := hzz ▸ pick_small (by decide) _
  simp only [hzz] at N2
  obtain ⟨⟨t3, j3⟩, h3⟩ : ∃ p, PG.genI L 0 (i + 1 + 1) = p := ⟨_, rfl⟩
  have N3 := Lib.hid (fun V (h : ExG W V lo b L (i + 1 + 1)) => gsb (int_leaf L (d - 1) (by omega)) h (by omega) h3)
  obtain ⟨⟨t4, j4⟩, h4⟩ : ∃ p, PG.genI L 0 (j3) = p := ⟨_, rfl⟩
  have N4 := Lib.hid (fun V (h : ExG W V lo b L (j3)) (_ : j3 ≤ i + 1 + 1 + 3) => gsb (int_leaf L (d - 1) (by omega)) h (by omega) h4)
  have hG : (PG.gB L PG.none0 (PG.genI L 0) 1 (i + 1)) = (.mk 18 0 z [t3, t4], j4) := by
    unfold PG.gB PG.two
    simp [hy2, hzz, h3, h4]
  rw [hG]
  clear hG hy2 hzz h3 h4 hk hr
  go_enter Tryz.func67, Tryz.ntmps67
  go_wp2_with (first
    | (rw [HW0.out]; go_at_call 17; refine N1.out.mono ?_; clear N1; rintro r w1 ⟨rfl, X1, C1⟩; replace X1 := Lib.hid X1; clear C1)
    | (go_at_call 17; refine (N2.out _ X1.out).mono ?_; clear N2; rintro r w2 ⟨rfl, X2, qc2, C2⟩; replace X2 := Lib.hid X2; clear C2)
    | (go_at_call 66; refine (N3.out _ X2.out).mono ?_; clear N3; rintro r w3 ⟨k3, n3, s3, A3, m3, c3, rfl, V3, X3, B3, C3⟩; replace X3 := Lib.hid X3; replace V3 := Lib.hid (V3.lower (by have := X2.out.big; omega)); clear C3; have gx3 : b < w3.heap.size := by have h1 := X3.out.lt; have h2 := X3.out.big; omega))
  have hblt := X3.out.lt
  have hbgL := X3.out.big
  have hbx3 := World.alloc_heap_new w3 (.cells #[.int .i64 k3, .int .i64 n3, .string s3, .slice A3 m3 c3] 33)
  have XR := Lib.hid (X3.out.alloc (.cells #[.int .i64 k3, .int .i64 n3, .string s3, .slice A3 m3 c3] 33))
  have DR := Lib.hid (show Chg (· = b) w3 (w3.alloc (.cells #[.int .i64 k3, .int .i64 n3, .string s3, .slice A3 m3 c3] 33)) from (Chg.refl (· = b) w3).alloc _)
  have zR : (w3.alloc (.cells #[.int .i64 k3, .int .i64 n3, .string s3, .slice A3 m3 c3] 33)).heap.size = w3.heap.size + 1 := World.size_alloc _ _
  replace V3 := Lib.hid (V3.out.keep (fun c h1 h2 => DR.out.block c h2 (by omega)) DR.out.size)
  obtain ⟨R0, hR0⟩ : ∃ U, (w3.alloc (.cells #[.int .i64 k3, .int .i64 n3, .string s3, .slice A3 m3 c3] 33)) = U := ⟨_, rfl⟩
  rw [hR0] at hbx3 XR zR V3 ⊢
  obtain ⟨ya3, yb3, yc3, yd3⟩ := box_cellsG hbx3
  have HB3 := Lib.hid hbx3
  have XD := Lib.hid (XR.out.step (XR.out.src.chg ((Chg.refl (fun _ => False) R0).drew) (fun e => e) (fun _ e => e.elim)) ((Chg.refl (· = b) R0).drew))
  clear hR0 DR hbx3
  go_region_law
    (first
      | (go_simp; go_at_call 66; refine (N4.out _ XD.out B3).mono ?_; clear N4; rintro r w4 ⟨k4, n4, s4, A4, m4, c4, rfl, V4, X4, B4, C4⟩
         replace C4 := Lib.hid (show Chg (· = b) R0 w4 from ((Chg.refl (· = b) R0).drew).trans C4 (fun _ _ e => e))
         replace X4 := Lib.hid X4
         replace V4 := Lib.hid (show Nw (W.heap.size + 1) w4 t4 (ndv k4 n4 s4 (.slice A4 m4 c4)) from V4.lower (show W.heap.size + 1 ≤ R0.heap.size by omega))
         obtain ⟨za3, zb3, zc3, zd3⟩ := box_cellsG ((C4.out.block _ (heap_lt HB3.out) (by have := gx3; omega)).trans HB3.out)
         obtain ⟨p0, p1, p2, p3, o0, o1, o2, o3⟩ := (X4.out.alloc (.cells #[.int .i64 k3, .int .i64 n3, .string s3, .slice A3 m3 c3, .int .i64 k4, .int .i64 n4, .string s4, .slice A4 m4 c4] 33)).cells))
  all_goals
    go_wp2_with fail
    obtain ⟨U, hU⟩ : ∃ U, ((((w4.alloc (.cells #[.int .i64 k3, .int .i64 n3, .string s3, .slice A3 m3 c3, .int .i64 k4, .int .i64 n4, .string s4, .slice A4 m4 c4] 33)).setCell ⟨W.heap.size, 0, none⟩ (.int .i64 18)).setCell ⟨W.heap.size, 1, none⟩ (.int .i64 0)).setCell ⟨W.heap.size, 2, none⟩ (.string z)).setCell ⟨W.heap.size, 3, none⟩ (.slice (some ⟨w4.heap.size, 0, none⟩) 2 2) = U := ⟨_, rfl⟩
    rw [hU]
    have hbgE := X4.out.big
    obtain ⟨f1, f2, f3, f4⟩ := (X4.out.alloc (.cells #[.int .i64 k3, .int .i64 n3, .string s3, .slice A3 m3 c3, .int .i64 k4, .int .i64 n4, .string s4, .slice A4 m4 c4] 33)).fin 18 0 z (.slice (some ⟨w4.heap.size, 0, none⟩) 2 2) (Nw.mk2 hbgE hz (V3.out.keep (fun c h1 h2 => C4.out.block c h2 (by omega)) C4.out.size) V4.out) hU
    refine bodyPost_ret (ret_N rfl _ rfl f1) rfl ?_
    exact ⟨_, rfl, f2, f3, by omega, f4⟩

set_option maxRecDepth 100000 in
set_option maxHeartbeats 40000000 in
theorem boL_2 (L : List Int) (d : Int) (hd : d ≤ 0) (hd2 : -1000 ≤ d) (W : World) (lo b i : Nat) (hs : GenV W lo b L i) (hi : i + 9 ≤ 1000000000) (x0 : Nat) (hk : PG.nx L i 8 = x0) (hr : x0 % 4 = 2) :
    Calls Tryz.prog 67 #[.pointer (some ⟨b, 0, none⟩), .int .i64 d] W fun r w' => ∃ v, r = .returned v ∧ Nw W.heap.size w' (PG.gB L PG.none0 (PG.genI L 0) 2 (i + 1)).1 v ∧ GenV w' lo b L (PG.gB L PG.none0 (PG.genI L 0) 2 (i + 1)).2 ∧ (PG.gB L PG.none0 (PG.genI L 0) 2 (i + 1)).2 ≤ i + 9 ∧ Chg (· = b) W w' := by
  obtain ⟨W0, hW0⟩ : ∃ U, W.alloc (.cells #[.int .i64 0, .int .i64 0, .string ⟨#[]⟩, .slice none 0 0] 33) = U := ⟨_, rfl⟩
  have X0 : ExG W W0 lo b L i := hW0 ▸ ExG.begin hs
  have N1 := Lib.hid (gpk X0 (by omega) 8 x0 8 (by decide) (by decide) rfl hk)
  have HW0 := Lib.hid hW0
  clear hs hW0 X0
  have hd0 : decide (d ≤ 0) = true := decide_eq_true hd
  have hwr : IntKind.i64.wrap (d - 1) = d - 1 := IntWalk.i64_in _ (by omega)
  have hx0 : x0 < 8 := hk ▸ PG.nx_lt _ _ (by decide)
  have hrm : (x0 : Int).tmod 4 = 2 := by rw [Int.tmod_eq_emod_of_nonneg (by omega)]; omega
  have hrm2 : IntKind.i64.wrap ((x0 : Int).tmod 4) = 2 := by rw [hrm]; rfl
  obtain ⟨y, hy2⟩ : ∃ y, PG.nx L (i + 1) 6 = y := ⟨_, rfl⟩
  have hy2l : y < 6 := hy2 ▸ PG.nx_lt _ _ (by decide)
  have N2 := Lib.hid (fun V (h : ExG W V lo b L (i + 1)) => gpc h (by omega) #[.string TY.sLt, .string TY.sLe, .string TY.sGt, .string TY.sGe, .string TY.sEq, .string TY.sNe] 9 6 y 6 (fun j => .string (TY.pick TY.compar j)) (by decide) (by decide) rfl hy2 (fun j hj => by
      match j, hj with
      | 0, _ => rfl
      | 1, _ => rfl
      | 2, _ => rfl
      | 3, _ => rfl
      | 4, _ => rfl
      | 5, _ => rfl))
  obtain ⟨z, hzz⟩ : ∃ z, TY.pick TY.compar y = z := ⟨_, rfl⟩
  have hz : z.size ≤ 1000 := hzz ▸ pick_small (by decide) _
  simp only [hzz] at N2
  obtain ⟨⟨t3, j3⟩, h3⟩ : ∃ p, PG.genI L 0 (i + 1 + 1) = p := ⟨_, rfl⟩
  have N3 := Lib.hid (fun V (h : ExG W V lo b L (i + 1 + 1)) => gsb (int_leaf L (d - 1) (by omega)) h (by omega) h3)
  obtain ⟨⟨t4, j4⟩, h4⟩ : ∃ p, PG.genI L 0 (j3) = p := ⟨_, rfl⟩
  have N4 := Lib.hid (fun V (h : ExG W V lo b L (j3)) (_ : j3 ≤ i + 1 + 1 + 3) => gsb (int_leaf L (d - 1) (by omega)) h (by omega) h4)
  have hG : (PG.gB L PG.none0 (PG.genI L 0) 2 (i + 1)) = (.mk 18 0 z [t3, t4], j4) := by
    unfold PG.gB PG.two
    simp [hy2, hzz, h3, h4]
  rw [hG]
  clear hG hy2 hzz h3 h4 hk hr
  go_enter Tryz.func67, Tryz.ntmps67
  go_wp2_with (first
    | (rw [HW0.out]; go_at_call 17; refine N1.out.mono ?_; clear N1; rintro r w1 ⟨rfl, X1, C1⟩; replace X1 := Lib.hid X1; clear C1)
    | (go_at_call 17; refine (N2.out _ X1.out).mono ?_; clear N2; rintro r w2 ⟨rfl, X2, qc2, C2⟩; replace X2 := Lib.hid X2; clear C2)
    | (go_at_call 66; refine (N3.out _ X2.out).mono ?_; clear N3; rintro r w3 ⟨k3, n3, s3, A3, m3, c3, rfl, V3, X3, B3, C3⟩; replace X3 := Lib.hid X3; replace V3 := Lib.hid (V3.lower (by have := X2.out.big; omega)); clear C3; have gx3 : b < w3.heap.size := by have h1 := X3.out.lt; have h2 := X3.out.big; omega))
  have hblt := X3.out.lt
  have hbgL := X3.out.big
  have hbx3 := World.alloc_heap_new w3 (.cells #[.int .i64 k3, .int .i64 n3, .string s3, .slice A3 m3 c3] 33)
  have XR := Lib.hid (X3.out.alloc (.cells #[.int .i64 k3, .int .i64 n3, .string s3, .slice A3 m3 c3] 33))
  have DR := Lib.hid (show Chg (· = b) w3 (w3.alloc (.cells #[.int .i64 k3, .int .i64 n3, .string s3, .slice A3 m3 c3] 33)) from (Chg.refl (· = b) w3).alloc _)
  have zR : (w3.alloc (.cells #[.int .i64 k3, .int .i64 n3, .string s3, .slice A3 m3 c3] 33)).heap.size = w3.heap.size + 1 := World.size_alloc _ _
  replace V3 := Lib.hid (V3.out.keep (fun c h1 h2 => DR.out.block c h2 (by omega)) DR.out.size)
  obtain ⟨R0, hR0⟩ : ∃ U, (w3.alloc (.cells #[.int .i64 k3, .int .i64 n3, .string s3, .slice A3 m3 c3] 33)) = U := ⟨_, rfl⟩
  rw [hR0] at hbx3 XR zR V3 ⊢
  obtain ⟨ya3, yb3, yc3, yd3⟩ := box_cellsG hbx3
  have HB3 := Lib.hid hbx3
  have XD := Lib.hid (XR.out.step (XR.out.src.chg ((Chg.refl (fun _ => False) R0).drew) (fun e => e) (fun _ e => e.elim)) ((Chg.refl (· = b) R0).drew))
  clear hR0 DR hbx3
  go_region_law
    (first
      | (go_simp; go_at_call 66; refine (N4.out _ XD.out B3).mono ?_; clear N4; rintro r w4 ⟨k4, n4, s4, A4, m4, c4, rfl, V4, X4, B4, C4⟩
         replace C4 := Lib.hid (show Chg (· = b) R0 w4 from ((Chg.refl (· = b) R0).drew).trans C4 (fun _ _ e => e))
         replace X4 := Lib.hid X4
         replace V4 := Lib.hid (show Nw (W.heap.size + 1) w4 t4 (ndv k4 n4 s4 (.slice A4 m4 c4)) from V4.lower (show W.heap.size + 1 ≤ R0.heap.size by omega))
         obtain ⟨za3, zb3, zc3, zd3⟩ := box_cellsG ((C4.out.block _ (heap_lt HB3.out) (by have := gx3; omega)).trans HB3.out)
         obtain ⟨p0, p1, p2, p3, o0, o1, o2, o3⟩ := (X4.out.alloc (.cells #[.int .i64 k3, .int .i64 n3, .string s3, .slice A3 m3 c3, .int .i64 k4, .int .i64 n4, .string s4, .slice A4 m4 c4] 33)).cells))
  all_goals
    go_wp2_with fail
    obtain ⟨U, hU⟩ : ∃ U, ((((w4.alloc (.cells #[.int .i64 k3, .int .i64 n3, .string s3, .slice A3 m3 c3, .int .i64 k4, .int .i64 n4, .string s4, .slice A4 m4 c4] 33)).setCell ⟨W.heap.size, 0, none⟩ (.int .i64 18)).setCell ⟨W.heap.size, 1, none⟩ (.int .i64 0)).setCell ⟨W.heap.size, 2, none⟩ (.string z)).setCell ⟨W.heap.size, 3, none⟩ (.slice (some ⟨w4.heap.size, 0, none⟩) 2 2) = U := ⟨_, rfl⟩
    rw [hU]
    have hbgE := X4.out.big
    obtain ⟨f1, f2, f3, f4⟩ := (X4.out.alloc (.cells #[.int .i64 k3, .int .i64 n3, .string s3, .slice A3 m3 c3, .int .i64 k4, .int .i64 n4, .string s4, .slice A4 m4 c4] 33)).fin 18 0 z (.slice (some ⟨w4.heap.size, 0, none⟩) 2 2) (Nw.mk2 hbgE hz (V3.out.keep (fun c h1 h2 => C4.out.block c h2 (by omega)) C4.out.size) V4.out) hU
    refine bodyPost_ret (ret_N rfl _ rfl f1) rfl ?_
    exact ⟨_, rfl, f2, f3, by omega, f4⟩

set_option maxRecDepth 100000 in
set_option maxHeartbeats 40000000 in
theorem boL_3 (L : List Int) (d : Int) (hd : d ≤ 0) (hd2 : -1000 ≤ d) (W : World) (lo b i : Nat) (hs : GenV W lo b L i) (hi : i + 9 ≤ 1000000000) (x0 : Nat) (hk : PG.nx L i 8 = x0) (hr : x0 % 4 = 3) :
    Calls Tryz.prog 67 #[.pointer (some ⟨b, 0, none⟩), .int .i64 d] W fun r w' => ∃ v, r = .returned v ∧ Nw W.heap.size w' (PG.gB L PG.none0 (PG.genI L 0) 3 (i + 1)).1 v ∧ GenV w' lo b L (PG.gB L PG.none0 (PG.genI L 0) 3 (i + 1)).2 ∧ (PG.gB L PG.none0 (PG.genI L 0) 3 (i + 1)).2 ≤ i + 9 ∧ Chg (· = b) W w' := by
  obtain ⟨W0, hW0⟩ : ∃ U, W.alloc (.cells #[.int .i64 0, .int .i64 0, .string ⟨#[]⟩, .slice none 0 0] 33) = U := ⟨_, rfl⟩
  have X0 : ExG W W0 lo b L i := hW0 ▸ ExG.begin hs
  have N1 := Lib.hid (gpk X0 (by omega) 8 x0 8 (by decide) (by decide) rfl hk)
  have HW0 := Lib.hid hW0
  clear hs hW0 X0
  have hd0 : decide (d ≤ 0) = true := decide_eq_true hd
  have hwr : IntKind.i64.wrap (d - 1) = d - 1 := IntWalk.i64_in _ (by omega)
  have hx0 : x0 < 8 := hk ▸ PG.nx_lt _ _ (by decide)
  have hrm : (x0 : Int).tmod 4 = 3 := by rw [Int.tmod_eq_emod_of_nonneg (by omega)]; omega
  have hrm2 : IntKind.i64.wrap ((x0 : Int).tmod 4) = 3 := by rw [hrm]; rfl
  obtain ⟨y, hy2⟩ : ∃ y, PG.nx L (i + 1) 6 = y := ⟨_, rfl⟩
  have hy2l : y < 6 := hy2 ▸ PG.nx_lt _ _ (by decide)
  have N2 := Lib.hid (fun V (h : ExG W V lo b L (i + 1)) => gpc h (by omega) #[.string TY.sLt, .string TY.sLe, .string TY.sGt, .string TY.sGe, .string TY.sEq, .string TY.sNe] 9 6 y 6 (fun j => .string (TY.pick TY.compar j)) (by decide) (by decide) rfl hy2 (fun j hj => by
      match j, hj with
      | 0, _ => rfl
      | 1, _ => rfl
      | 2, _ => rfl
      | 3, _ => rfl
      | 4, _ => rfl
      | 5, _ => rfl))
  obtain ⟨z, hzz⟩ : ∃ z, TY.pick TY.compar y = z := ⟨_, rfl⟩
  have hz : z.size ≤ 1000 := hzz ▸ pick_small (by decide) _
  simp only [hzz] at N2
  obtain ⟨⟨t3, j3⟩, h3⟩ : ∃ p, PG.genI L 0 (i + 1 + 1) = p := ⟨_, rfl⟩
  have N3 := Lib.hid (fun V (h : ExG W V lo b L (i + 1 + 1)) => gsb (int_leaf L (d - 1) (by omega)) h (by omega) h3)
  obtain ⟨⟨t4, j4⟩, h4⟩ : ∃ p, PG.genI L 0 (j3) = p := ⟨_, rfl⟩
  have N4 := Lib.hid (fun V (h : ExG W V lo b L (j3)) (_ : j3 ≤ i + 1 + 1 + 3) => gsb (int_leaf L (d - 1) (by omega)) h (by omega) h4)
  have hG : (PG.gB L PG.none0 (PG.genI L 0) 3 (i + 1)) = (.mk 18 0 z [t3, t4], j4) := by
    unfold PG.gB PG.two
    simp [hy2, hzz, h3, h4]
  rw [hG]
  clear hG hy2 hzz h3 h4 hk hr
  go_enter Tryz.func67, Tryz.ntmps67
  go_wp2_with (first
    | (rw [HW0.out]; go_at_call 17; refine N1.out.mono ?_; clear N1; rintro r w1 ⟨rfl, X1, C1⟩; replace X1 := Lib.hid X1; clear C1)
    | (go_at_call 17; refine (N2.out _ X1.out).mono ?_; clear N2; rintro r w2 ⟨rfl, X2, qc2, C2⟩; replace X2 := Lib.hid X2; clear C2)
    | (go_at_call 66; refine (N3.out _ X2.out).mono ?_; clear N3; rintro r w3 ⟨k3, n3, s3, A3, m3, c3, rfl, V3, X3, B3, C3⟩; replace X3 := Lib.hid X3; replace V3 := Lib.hid (V3.lower (by have := X2.out.big; omega)); clear C3; have gx3 : b < w3.heap.size := by have h1 := X3.out.lt; have h2 := X3.out.big; omega))
  have hblt := X3.out.lt
  have hbgL := X3.out.big
  have hbx3 := World.alloc_heap_new w3 (.cells #[.int .i64 k3, .int .i64 n3, .string s3, .slice A3 m3 c3] 33)
  have XR := Lib.hid (X3.out.alloc (.cells #[.int .i64 k3, .int .i64 n3, .string s3, .slice A3 m3 c3] 33))
  have DR := Lib.hid (show Chg (· = b) w3 (w3.alloc (.cells #[.int .i64 k3, .int .i64 n3, .string s3, .slice A3 m3 c3] 33)) from (Chg.refl (· = b) w3).alloc _)
  have zR : (w3.alloc (.cells #[.int .i64 k3, .int .i64 n3, .string s3, .slice A3 m3 c3] 33)).heap.size = w3.heap.size + 1 := World.size_alloc _ _
  replace V3 := Lib.hid (V3.out.keep (fun c h1 h2 => DR.out.block c h2 (by omega)) DR.out.size)
  obtain ⟨R0, hR0⟩ : ∃ U, (w3.alloc (.cells #[.int .i64 k3, .int .i64 n3, .string s3, .slice A3 m3 c3] 33)) = U := ⟨_, rfl⟩
  rw [hR0] at hbx3 XR zR V3 ⊢
  obtain ⟨ya3, yb3, yc3, yd3⟩ := box_cellsG hbx3
  have HB3 := Lib.hid hbx3
  have XD := Lib.hid (XR.out.step (XR.out.src.chg ((Chg.refl (fun _ => False) R0).drew) (fun e => e) (fun _ e => e.elim)) ((Chg.refl (· = b) R0).drew))
  clear hR0 DR hbx3
  go_region_law
    (first
      | (go_simp; go_at_call 66; refine (N4.out _ XD.out B3).mono ?_; clear N4; rintro r w4 ⟨k4, n4, s4, A4, m4, c4, rfl, V4, X4, B4, C4⟩
         replace C4 := Lib.hid (show Chg (· = b) R0 w4 from ((Chg.refl (· = b) R0).drew).trans C4 (fun _ _ e => e))
         replace X4 := Lib.hid X4
         replace V4 := Lib.hid (show Nw (W.heap.size + 1) w4 t4 (ndv k4 n4 s4 (.slice A4 m4 c4)) from V4.lower (show W.heap.size + 1 ≤ R0.heap.size by omega))
         obtain ⟨za3, zb3, zc3, zd3⟩ := box_cellsG ((C4.out.block _ (heap_lt HB3.out) (by have := gx3; omega)).trans HB3.out)
         obtain ⟨p0, p1, p2, p3, o0, o1, o2, o3⟩ := (X4.out.alloc (.cells #[.int .i64 k3, .int .i64 n3, .string s3, .slice A3 m3 c3, .int .i64 k4, .int .i64 n4, .string s4, .slice A4 m4 c4] 33)).cells))
  all_goals
    go_wp2_with fail
    obtain ⟨U, hU⟩ : ∃ U, ((((w4.alloc (.cells #[.int .i64 k3, .int .i64 n3, .string s3, .slice A3 m3 c3, .int .i64 k4, .int .i64 n4, .string s4, .slice A4 m4 c4] 33)).setCell ⟨W.heap.size, 0, none⟩ (.int .i64 18)).setCell ⟨W.heap.size, 1, none⟩ (.int .i64 0)).setCell ⟨W.heap.size, 2, none⟩ (.string z)).setCell ⟨W.heap.size, 3, none⟩ (.slice (some ⟨w4.heap.size, 0, none⟩) 2 2) = U := ⟨_, rfl⟩
    rw [hU]
    have hbgE := X4.out.big
    obtain ⟨f1, f2, f3, f4⟩ := (X4.out.alloc (.cells #[.int .i64 k3, .int .i64 n3, .string s3, .slice A3 m3 c3, .int .i64 k4, .int .i64 n4, .string s4, .slice A4 m4 c4] 33)).fin 18 0 z (.slice (some ⟨w4.heap.size, 0, none⟩) 2 2) (Nw.mk2 hbgE hz (V3.out.keep (fun c h1 h2 => C4.out.block c h2 (by omega)) C4.out.size) V4.out) hU
    refine bodyPost_ret (ret_N rfl _ rfl f1) rfl ?_
    exact ⟨_, rfl, f2, f3, by omega, f4⟩

set_option maxRecDepth 100000 in
set_option maxHeartbeats 40000000 in
theorem boM_0 (L : List Int) (D : Nat) (hD : 1 ≤ D) (hD2 : D ≤ 100) (e : Nat) (subT : PG.Gen) (subI : PG.Gen) (W : World) (lo b i : Nat) (hs : GenV W lo b L i) (hi : i + (3 + 2 * e) ≤ 1000000000) (hk : PG.nx L i 8 = 0) :
    Calls Tryz.prog 67 #[.pointer (some ⟨b, 0, none⟩), .int .i64 (D : Int)] W fun r w' => ∃ v, r = .returned v ∧ Nw W.heap.size w' (PG.gB L subT subI 0 (i + 1)).1 v ∧ GenV w' lo b L (PG.gB L subT subI 0 (i + 1)).2 ∧ (PG.gB L subT subI 0 (i + 1)).2 ≤ i + (3 + 2 * e) ∧ Chg (· = b) W w' := by
  obtain ⟨W0, hW0⟩ : ∃ U, W.alloc (.cells #[.int .i64 0, .int .i64 0, .string ⟨#[]⟩, .slice none 0 0] 33) = U := ⟨_, rfl⟩
  have X0 : ExG W W0 lo b L i := hW0 ▸ ExG.begin hs
  have N1 := Lib.hid (gpk X0 (by omega) 8 0 8 (by decide) (by decide) rfl hk)
  have HW0 := Lib.hid hW0
  clear hs hW0 X0
  have hwr : IntKind.i64.wrap ((D : Int) - 1) = (D : Int) - 1 := IntWalk.i64_in _ (by omega)
  have hd0 : decide ((D : Int) ≤ 0) = false := by rw [decide_eq_false_iff_not]; omega
  obtain ⟨y, hy2⟩ : ∃ y, PG.nx L (i + 1) 2 = y := ⟨_, rfl⟩
  have N2 := Lib.hid (fun V (h : ExG W V lo b L (i + 1)) => gpk h (by omega) 2 y 2 (by decide) (by decide) rfl hy2)
  have hG : (PG.gB L subT subI 0 (i + 1)) = (.mk 13 (y : Int) TY.eps [], i + 1 + 1) := by
    unfold PG.gB
    simp [hy2]
  rw [hG]
  clear hG hy2 hk
  go_enter Tryz.func67, Tryz.ntmps67
  go_wp2_with (first
    | (rw [HW0.out]; go_at_call 17; refine N1.out.mono ?_; clear N1; rintro r w1 ⟨rfl, X1, C1⟩; replace X1 := Lib.hid X1; clear C1)
    | (go_at_call 17; refine (N2.out _ X1.out).mono ?_; clear N2; rintro r w2 ⟨rfl, X2, C2⟩; replace X2 := Lib.hid X2; clear C2; obtain ⟨p0, p1, p2, p3, o0, o1, o2, o3⟩ := X2.out.cells))
  obtain ⟨U, hU⟩ : ∃ U, (((w2.setCell ⟨W.heap.size, 0, none⟩ (.int .i64 13)).setCell ⟨W.heap.size, 1, none⟩ (.int .i64 (y : Int))).setCell ⟨W.heap.size, 2, none⟩ (.string ⟨#[]⟩)).setCell ⟨W.heap.size, 3, none⟩ (.slice none 0 0) = U := ⟨_, rfl⟩
  rw [hU]
  obtain ⟨f1, f2, f3, f4⟩ := X2.out.fin 13 (y : Int) ⟨#[]⟩ (.slice none 0 0) (Nw.leaf _ _ _ _ _ (by decide)) hU
  refine bodyPost_ret (ret_N rfl _ rfl f1) rfl ?_
  exact ⟨_, rfl, f2, f3, by omega, f4⟩

set_option maxRecDepth 100000 in
set_option maxHeartbeats 40000000 in
theorem boM_5 (L : List Int) (D : Nat) (hD : 1 ≤ D) (hD2 : D ≤ 100) (e : Nat) (subT : PG.Gen) (subI : PG.Gen) (hsub : GAt 67 L [(D : Int) - 1] subT e) (W : World) (lo b i : Nat) (hs : GenV W lo b L i) (hi : i + (3 + 2 * e) ≤ 1000000000) (hk : PG.nx L i 8 = 5) :
    Calls Tryz.prog 67 #[.pointer (some ⟨b, 0, none⟩), .int .i64 (D : Int)] W fun r w' => ∃ v, r = .returned v ∧ Nw W.heap.size w' (PG.gB L subT subI 5 (i + 1)).1 v ∧ GenV w' lo b L (PG.gB L subT subI 5 (i + 1)).2 ∧ (PG.gB L subT subI 5 (i + 1)).2 ≤ i + (3 + 2 * e) ∧ Chg (· = b) W w' := by
  obtain ⟨W0, hW0⟩ : ∃ U, W.alloc (.cells #[.int .i64 0, .int .i64 0, .string ⟨#[]⟩, .slice none 0 0] 33) = U := ⟨_, rfl⟩
  have X0 : ExG W W0 lo b L i := hW0 ▸ ExG.begin hs
  have N1 := Lib.hid (gpk X0 (by omega) 8 5 8 (by decide) (by decide) rfl hk)
  have HW0 := Lib.hid hW0
  clear hs hW0 X0
  have hwr : IntKind.i64.wrap ((D : Int) - 1) = (D : Int) - 1 := IntWalk.i64_in _ (by omega)
  have hd0 : decide ((D : Int) ≤ 0) = false := by rw [decide_eq_false_iff_not]; omega
  obtain ⟨⟨t2, j2⟩, h2⟩ : ∃ p, subT (i + 1) = p := ⟨_, rfl⟩
  have N2 := Lib.hid (fun V (h : ExG W V lo b L (i + 1)) => gsb hsub h (by omega) h2)
  have hG : (PG.gB L subT subI 5 (i + 1)) = (.mk 17 0 TY.sNot [t2], j2) := by
    unfold PG.gB PG.one
    simp [h2]
  rw [hG]
  clear hG h2 hsub hk
  go_enter Tryz.func67, Tryz.ntmps67
  go_wp2_with (first
    | (rw [HW0.out]; go_at_call 17; refine N1.out.mono ?_; clear N1; rintro r w1 ⟨rfl, X1, C1⟩; replace X1 := Lib.hid X1; clear C1)
    | (go_at_call 67; refine (N2.out _ X1.out).mono ?_; clear N2; rintro r w2 ⟨k2, n2, s2, A2, m2, c2, rfl, V2, X2, B2, C2⟩; replace X2 := Lib.hid X2; replace V2 := Lib.hid (V2.lower (by have := X1.out.big; omega)); clear C2; obtain ⟨p0, p1, p2, p3, o0, o1, o2, o3⟩ := (X2.out.alloc (.cells #[.int .i64 k2, .int .i64 n2, .string s2, .slice A2 m2 c2] 33)).cells))
  obtain ⟨U, hU⟩ : ∃ U, ((((w2.alloc (.cells #[.int .i64 k2, .int .i64 n2, .string s2, .slice A2 m2 c2] 33)).setCell ⟨W.heap.size, 0, none⟩ (.int .i64 17)).setCell ⟨W.heap.size, 1, none⟩ (.int .i64 0)).setCell ⟨W.heap.size, 2, none⟩ (.string ⟨#[33]⟩)).setCell ⟨W.heap.size, 3, none⟩ (.slice (some ⟨w2.heap.size, 0, none⟩) 1 1) = U := ⟨_, rfl⟩
  rw [hU]
  have hbgE := X2.out.big
  obtain ⟨f1, f2, f3, f4⟩ := (X2.out.alloc (.cells #[.int .i64 k2, .int .i64 n2, .string s2, .slice A2 m2 c2] 33)).fin 17 0 ⟨#[33]⟩ (.slice (some ⟨w2.heap.size, 0, none⟩) 1 1) (Nw.mk1 hbgE (by decide) V2.out) hU
  refine bodyPost_ret (ret_N rfl _ rfl f1) rfl ?_
  exact ⟨_, rfl, f2, f3, by omega, f4⟩

set_option maxRecDepth 100000 in
set_option maxHeartbeats 40000000 in
theorem boM_6 (L : List Int) (D : Nat) (hD : 1 ≤ D) (hD2 : D ≤ 100) (e : Nat) (subT : PG.Gen) (subI : PG.Gen) (hsub : GAt 67 L [(D : Int) - 1] subT e) (W : World) (lo b i : Nat) (hs : GenV W lo b L i) (hi : i + (3 + 2 * e) ≤ 1000000000) (n0 : Nat) (hk : PG.nx L i 8 = n0) (hlo : 6 ≤ n0) (hhi : n0 < 8) :
    Calls Tryz.prog 67 #[.pointer (some ⟨b, 0, none⟩), .int .i64 (D : Int)] W fun r w' => ∃ v, r = .returned v ∧ Nw W.heap.size w' (PG.gB L subT subI n0 (i + 1)).1 v ∧ GenV w' lo b L (PG.gB L subT subI n0 (i + 1)).2 ∧ (PG.gB L subT subI n0 (i + 1)).2 ≤ i + (3 + 2 * e) ∧ Chg (· = b) W w' := by
  obtain ⟨W0, hW0⟩ : ∃ U, W.alloc (.cells #[.int .i64 0, .int .i64 0, .string ⟨#[]⟩, .slice none 0 0] 33) = U := ⟨_, rfl⟩
  have X0 : ExG W W0 lo b L i := hW0 ▸ ExG.begin hs
  have N1 := Lib.hid (gpk X0 (by omega) 8 n0 8 (by decide) (by decide) rfl hk)
  have HW0 := Lib.hid hW0
  clear hs hW0 X0
  have hwr : IntKind.i64.wrap ((D : Int) - 1) = (D : Int) - 1 := IntWalk.i64_in _ (by omega)
  have hd0 : decide ((D : Int) ≤ 0) = false := by rw [decide_eq_false_iff_not]; omega
  have e0 : ((n0 : Int) == 0) = false := by simp; omega
  have e5 : ((n0 : Int) == 5) = false := by simp; omega
  have g5 : decide ((5 : Int) < (n0 : Int)) = true := decide_eq_true (by omega)
  obtain ⟨y, hy2⟩ : ∃ y, PG.nx L (i + 1) 2 = y := ⟨_, rfl⟩
  have hy2l : y < 2 := hy2 ▸ PG.nx_lt _ _ (by decide)
  have N2 := Lib.hid (fun V (h : ExG W V lo b L (i + 1)) => gpc h (by omega) #[.string TY.sAnd, .string TY.sOr] 9 2 y 2 (fun j => .string (TY.pick TY.logic j)) (by decide) (by decide) rfl hy2 (fun j hj => by
      match j, hj with
      | 0, _ => rfl
      | 1, _ => rfl))
  obtain ⟨z, hzz⟩ : ∃ z, TY.pick TY.logic y = z := ⟨_, rfl⟩
  have hz : z.size ≤ 1000 := hzz ▸ pick_small (by decide) _
  simp only [hzz] at N2
  obtain ⟨⟨t3, j3⟩, h3⟩ : ∃ p, subT (i + 1 + 1) = p := ⟨_, rfl⟩
  have N3 := Lib.hid (fun V (h : ExG W V lo b L (i + 1 + 1)) => gsb hsub h (by omega) h3)
  obtain ⟨⟨t4, j4⟩, h4⟩ : ∃ p, subT (j3) = p := ⟨_, rfl⟩
  have N4 := Lib.hid (fun V (h : ExG W V lo b L (j3)) (_ : j3 ≤ i + 1 + 1 + e) => gsb hsub h (by omega) h4)
  have hG : (PG.gB L subT subI n0 (i + 1)) = (.mk 18 0 z [t3, t4], j4) := by
    unfold PG.gB PG.two
    rw [if_neg (by omega), if_neg (by omega), if_pos (by omega)]
    simp [hy2, hzz, h3, h4]
  rw [hG]
  clear hG hy2 hzz h3 h4 hsub hk
  go_enter Tryz.func67, Tryz.ntmps67
  go_wp2_with (first
    | (rw [HW0.out]; go_at_call 17; refine N1.out.mono ?_; clear N1; rintro r w1 ⟨rfl, X1, C1⟩; replace X1 := Lib.hid X1; clear C1)
    | (go_at_call 17; refine (N2.out _ X1.out).mono ?_; clear N2; rintro r w2 ⟨rfl, X2, qc2, C2⟩; replace X2 := Lib.hid X2; clear C2)
    | (go_at_call 67; refine (N3.out _ X2.out).mono ?_; clear N3; rintro r w3 ⟨k3, n3, s3, A3, m3, c3, rfl, V3, X3, B3, C3⟩; replace X3 := Lib.hid X3; replace V3 := Lib.hid (V3.lower (by have := X2.out.big; omega)); clear C3; have gx3 : b < w3.heap.size := by have h1 := X3.out.lt; have h2 := X3.out.big; omega))
  have hblt := X3.out.lt
  have hbgL := X3.out.big
  have hbx3 := World.alloc_heap_new w3 (.cells #[.int .i64 k3, .int .i64 n3, .string s3, .slice A3 m3 c3] 33)
  have XR := Lib.hid (X3.out.alloc (.cells #[.int .i64 k3, .int .i64 n3, .string s3, .slice A3 m3 c3] 33))
  have DR := Lib.hid (show Chg (· = b) w3 (w3.alloc (.cells #[.int .i64 k3, .int .i64 n3, .string s3, .slice A3 m3 c3] 33)) from (Chg.refl (· = b) w3).alloc _)
  have zR : (w3.alloc (.cells #[.int .i64 k3, .int .i64 n3, .string s3, .slice A3 m3 c3] 33)).heap.size = w3.heap.size + 1 := World.size_alloc _ _
  replace V3 := Lib.hid (V3.out.keep (fun c h1 h2 => DR.out.block c h2 (by omega)) DR.out.size)
  obtain ⟨R0, hR0⟩ : ∃ U, (w3.alloc (.cells #[.int .i64 k3, .int .i64 n3, .string s3, .slice A3 m3 c3] 33)) = U := ⟨_, rfl⟩
  rw [hR0] at hbx3 XR zR V3 ⊢
  obtain ⟨ya3, yb3, yc3, yd3⟩ := box_cellsG hbx3
  have HB3 := Lib.hid hbx3
  have XD := Lib.hid (XR.out.step (XR.out.src.chg ((Chg.refl (fun _ => False) R0).drew) (fun e => e) (fun _ e => e.elim)) ((Chg.refl (· = b) R0).drew))
  clear hR0 DR hbx3
  go_region_law
    (first
      | (go_simp; go_at_call 67; refine (N4.out _ XD.out B3).mono ?_; clear N4; rintro r w4 ⟨k4, n4, s4, A4, m4, c4, rfl, V4, X4, B4, C4⟩
         replace C4 := Lib.hid (show Chg (· = b) R0 w4 from ((Chg.refl (· = b) R0).drew).trans C4 (fun _ _ e => e))
         replace X4 := Lib.hid X4
         replace V4 := Lib.hid (show Nw (W.heap.size + 1) w4 t4 (ndv k4 n4 s4 (.slice A4 m4 c4)) from V4.lower (show W.heap.size + 1 ≤ R0.heap.size by omega))
         obtain ⟨za3, zb3, zc3, zd3⟩ := box_cellsG ((C4.out.block _ (heap_lt HB3.out) (by have := gx3; omega)).trans HB3.out)
         obtain ⟨p0, p1, p2, p3, o0, o1, o2, o3⟩ := (X4.out.alloc (.cells #[.int .i64 k3, .int .i64 n3, .string s3, .slice A3 m3 c3, .int .i64 k4, .int .i64 n4, .string s4, .slice A4 m4 c4] 33)).cells))
  all_goals
    go_wp2_with fail
    obtain ⟨U, hU⟩ : ∃ U, ((((w4.alloc (.cells #[.int .i64 k3, .int .i64 n3, .string s3, .slice A3 m3 c3, .int .i64 k4, .int .i64 n4, .string s4, .slice A4 m4 c4] 33)).setCell ⟨W.heap.size, 0, none⟩ (.int .i64 18)).setCell ⟨W.heap.size, 1, none⟩ (.int .i64 0)).setCell ⟨W.heap.size, 2, none⟩ (.string z)).setCell ⟨W.heap.size, 3, none⟩ (.slice (some ⟨w4.heap.size, 0, none⟩) 2 2) = U := ⟨_, rfl⟩
    rw [hU]
    have hbgE := X4.out.big
    obtain ⟨f1, f2, f3, f4⟩ := (X4.out.alloc (.cells #[.int .i64 k3, .int .i64 n3, .string s3, .slice A3 m3 c3, .int .i64 k4, .int .i64 n4, .string s4, .slice A4 m4 c4] 33)).fin 18 0 z (.slice (some ⟨w4.heap.size, 0, none⟩) 2 2) (Nw.mk2 hbgE hz (V3.out.keep (fun c h1 h2 => C4.out.block c h2 (by omega)) C4.out.size) V4.out) hU
    refine bodyPost_ret (ret_N rfl _ rfl f1) rfl ?_
    exact ⟨_, rfl, f2, f3, by omega, f4⟩

set_option maxRecDepth 100000 in
set_option maxHeartbeats 40000000 in
theorem boM_1 (L : List Int) (D : Nat) (hD : 1 ≤ D) (hD2 : D ≤ 100) (e : Nat) (subT : PG.Gen) (subI : PG.Gen) (hsI : GAt 66 L [(D : Int) - 1] subI e) (W : World) (lo b i : Nat) (hs : GenV W lo b L i) (hi : i + (3 + 2 * e) ≤ 1000000000) (n0 : Nat) (hk : PG.nx L i 8 = n0) (hlo : 1 ≤ n0) (hhi : n0 < 5) :
    Calls Tryz.prog 67 #[.pointer (some ⟨b, 0, none⟩), .int .i64 (D : Int)] W fun r w' => ∃ v, r = .returned v ∧ Nw W.heap.size w' (PG.gB L subT subI n0 (i + 1)).1 v ∧ GenV w' lo b L (PG.gB L subT subI n0 (i + 1)).2 ∧ (PG.gB L subT subI n0 (i + 1)).2 ≤ i + (3 + 2 * e) ∧ Chg (· = b) W w' := by
  obtain ⟨W0, hW0⟩ : ∃ U, W.alloc (.cells #[.int .i64 0, .int .i64 0, .string ⟨#[]⟩, .slice none 0 0] 33) = U := ⟨_, rfl⟩
  have X0 : ExG W W0 lo b L i := hW0 ▸ ExG.begin hs
  have N1 := Lib.hid (gpk X0 (by omega) 8 n0 8 (by decide) (by decide) rfl hk)
  have HW0 := Lib.hid hW0
  clear hs hW0 X0
  have hwr : IntKind.i64.wrap ((D : Int) - 1) = (D : Int) - 1 := IntWalk.i64_in _ (by omega)
  have hd0 : decide ((D : Int) ≤ 0) = false := by rw [decide_eq_false_iff_not]; omega
  have e0 : ((n0 : Int) == 0) = false := by simp; omega
  have e5 : ((n0 : Int) == 5) = false := by simp; omega
  have g5 : decide ((5 : Int) < (n0 : Int)) = false := decide_eq_false (by omega)
  obtain ⟨y, hy2⟩ : ∃ y, PG.nx L (i + 1) 6 = y := ⟨_, rfl⟩
  have hy2l : y < 6 := hy2 ▸ PG.nx_lt _ _ (by decide)
  have N2 := Lib.hid (fun V (h : ExG W V lo b L (i + 1)) => gpc h (by omega) #[.string TY.sLt, .string TY.sLe, .string TY.sGt, .string TY.sGe, .string TY.sEq, .string TY.sNe] 9 6 y 6 (fun j => .string (TY.pick TY.compar j)) (by decide) (by decide) rfl hy2 (fun j hj => by
      match j, hj with
      | 0, _ => rfl
      | 1, _ => rfl
      | 2, _ => rfl
      | 3, _ => rfl
      | 4, _ => rfl
      | 5, _ => rfl))
  obtain ⟨z, hzz⟩ : ∃ z, TY.pick TY.compar y = z := ⟨_, rfl⟩
  have hz : z.size ≤ 1000 := hzz ▸ pick_small (by decide) _
  simp only [hzz] at N2
  obtain ⟨⟨t3, j3⟩, h3⟩ : ∃ p, subI (i + 1 + 1) = p := ⟨_, rfl⟩
  have N3 := Lib.hid (fun V (h : ExG W V lo b L (i + 1 + 1)) => gsb hsI h (by omega) h3)
  obtain ⟨⟨t4, j4⟩, h4⟩ : ∃ p, subI (j3) = p := ⟨_, rfl⟩
  have N4 := Lib.hid (fun V (h : ExG W V lo b L (j3)) (_ : j3 ≤ i + 1 + 1 + e) => gsb hsI h (by omega) h4)
  have hG : (PG.gB L subT subI n0 (i + 1)) = (.mk 18 0 z [t3, t4], j4) := by
    unfold PG.gB PG.two
    rw [if_neg (by omega), if_neg (by omega), if_neg (by omega)]
    simp [hy2, hzz, h3, h4]
  rw [hG]
  clear hG hy2 hzz h3 h4 hsI hk
  go_enter Tryz.func67, Tryz.ntmps67
  go_wp2_with (first
    | (rw [HW0.out]; go_at_call 17; refine N1.out.mono ?_; clear N1; rintro r w1 ⟨rfl, X1, C1⟩; replace X1 := Lib.hid X1; clear C1)
    | (go_at_call 17; refine (N2.out _ X1.out).mono ?_; clear N2; rintro r w2 ⟨rfl, X2, qc2, C2⟩; replace X2 := Lib.hid X2; clear C2)
    | (go_at_call 66; refine (N3.out _ X2.out).mono ?_; clear N3; rintro r w3 ⟨k3, n3, s3, A3, m3, c3, rfl, V3, X3, B3, C3⟩; replace X3 := Lib.hid X3; replace V3 := Lib.hid (V3.lower (by have := X2.out.big; omega)); clear C3; have gx3 : b < w3.heap.size := by have h1 := X3.out.lt; have h2 := X3.out.big; omega))
  have hblt := X3.out.lt
  have hbgL := X3.out.big
  have hbx3 := World.alloc_heap_new w3 (.cells #[.int .i64 k3, .int .i64 n3, .string s3, .slice A3 m3 c3] 33)
  have XR := Lib.hid (X3.out.alloc (.cells #[.int .i64 k3, .int .i64 n3, .string s3, .slice A3 m3 c3] 33))
  have DR := Lib.hid (show Chg (· = b) w3 (w3.alloc (.cells #[.int .i64 k3, .int .i64 n3, .string s3, .slice A3 m3 c3] 33)) from (Chg.refl (· = b) w3).alloc _)
  have zR : (w3.alloc (.cells #[.int .i64 k3, .int .i64 n3, .string s3, .slice A3 m3 c3] 33)).heap.size = w3.heap.size + 1 := World.size_alloc _ _
  replace V3 := Lib.hid (V3.out.keep (fun c h1 h2 => DR.out.block c h2 (by omega)) DR.out.size)
  obtain ⟨R0, hR0⟩ : ∃ U, (w3.alloc (.cells #[.int .i64 k3, .int .i64 n3, .string s3, .slice A3 m3 c3] 33)) = U := ⟨_, rfl⟩
  rw [hR0] at hbx3 XR zR V3 ⊢
  obtain ⟨ya3, yb3, yc3, yd3⟩ := box_cellsG hbx3
  have HB3 := Lib.hid hbx3
  have XD := Lib.hid (XR.out.step (XR.out.src.chg ((Chg.refl (fun _ => False) R0).drew) (fun e => e) (fun _ e => e.elim)) ((Chg.refl (· = b) R0).drew))
  clear hR0 DR hbx3
  go_region_law
    (first
      | (go_simp; go_at_call 66; refine (N4.out _ XD.out B3).mono ?_; clear N4; rintro r w4 ⟨k4, n4, s4, A4, m4, c4, rfl, V4, X4, B4, C4⟩
         replace C4 := Lib.hid (show Chg (· = b) R0 w4 from ((Chg.refl (· = b) R0).drew).trans C4 (fun _ _ e => e))
         replace X4 := Lib.hid X4
         replace V4 := Lib.hid (show Nw (W.heap.size + 1) w4 t4 (ndv k4 n4 s4 (.slice A4 m4 c4)) from V4.lower (show W.heap.size + 1 ≤ R0.heap.size by omega))
         obtain ⟨za3, zb3, zc3, zd3⟩ := box_cellsG ((C4.out.block _ (heap_lt HB3.out) (by have := gx3; omega)).trans HB3.out)
         obtain ⟨p0, p1, p2, p3, o0, o1, o2, o3⟩ := (X4.out.alloc (.cells #[.int .i64 k3, .int .i64 n3, .string s3, .slice A3 m3 c3, .int .i64 k4, .int .i64 n4, .string s4, .slice A4 m4 c4] 33)).cells))
  all_goals
    go_wp2_with fail
    obtain ⟨U, hU⟩ : ∃ U, ((((w4.alloc (.cells #[.int .i64 k3, .int .i64 n3, .string s3, .slice A3 m3 c3, .int .i64 k4, .int .i64 n4, .string s4, .slice A4 m4 c4] 33)).setCell ⟨W.heap.size, 0, none⟩ (.int .i64 18)).setCell ⟨W.heap.size, 1, none⟩ (.int .i64 0)).setCell ⟨W.heap.size, 2, none⟩ (.string z)).setCell ⟨W.heap.size, 3, none⟩ (.slice (some ⟨w4.heap.size, 0, none⟩) 2 2) = U := ⟨_, rfl⟩
    rw [hU]
    have hbgE := X4.out.big
    obtain ⟨f1, f2, f3, f4⟩ := (X4.out.alloc (.cells #[.int .i64 k3, .int .i64 n3, .string s3, .slice A3 m3 c3, .int .i64 k4, .int .i64 n4, .string s4, .slice A4 m4 c4] 33)).fin 18 0 z (.slice (some ⟨w4.heap.size, 0, none⟩) 2 2) (Nw.mk2 hbgE hz (V3.out.keep (fun c h1 h2 => C4.out.block c h2 (by omega)) C4.out.size) V4.out) hU
    refine bodyPost_ret (ret_N rfl _ rfl f1) rfl ?_
    exact ⟨_, rfl, f2, f3, by omega, f4⟩

theorem bool_leaf (L : List Int) (d : Int) (hd : d ≤ 0) (hd2 : -1000 ≤ d) : GAt 67 L [d] (PG.genB L 0) 9 := by
  intro W lo b i hs hi
  show Calls _ _ _ W fun r w' => ∃ v, r = .returned v ∧ Nw W.heap.size w' (PG.gB L PG.none0 (PG.genI L 0) (PG.nx L i 8 % 4) (i + 1)).1 v ∧ GenV w' lo b L (PG.gB L PG.none0 (PG.genI L 0) (PG.nx L i 8 % 4) (i + 1)).2 ∧ (PG.gB L PG.none0 (PG.genI L 0) (PG.nx L i 8 % 4) (i + 1)).2 ≤ i + 9 ∧ Chg (· = b) W w'
  have h : PG.nx L i 8 % 4 = 0 ∨ PG.nx L i 8 % 4 = 1 ∨ PG.nx L i 8 % 4 = 2 ∨ PG.nx L i 8 % 4 = 3 := by omega
  rcases h with h | h | h | h
  all_goals rw [h]
  · exact boL_0 L d hd W lo b i hs hi _ rfl h
  · exact boL_1 L d hd hd2 W lo b i hs hi _ rfl h
  · exact boL_2 L d hd hd2 W lo b i hs hi _ rfl h
  · exact boL_3 L d hd hd2 W lo b i hs hi _ rfl h
theorem bool_more (L : List Int) (D : Nat) (e : Nat) (sub subI : PG.Gen) (hD : 1 ≤ D) (hD2 : D ≤ 100) (hsub : GAt 67 L [(D : Int) - 1] sub e) (hsI : GAt 66 L [(D : Int) - 1] subI e) : GAt 67 L [(D : Int)] (fun i => PG.gB L sub subI (PG.nx L i 8) (i + 1)) (3 + 2 * e) := by
  intro W lo b i hs hi
  have h8 := PG.nx_lt L i (m := 8) (by decide)
  have h : PG.nx L i 8 = 0 ∨ PG.nx L i 8 = 5 ∨ 6 ≤ PG.nx L i 8 ∨ (1 ≤ PG.nx L i 8 ∧ PG.nx L i 8 < 5) := by omega
  rcases h with h | h | h | ⟨h, h5⟩
  · simp only [h]; exact boM_0 L D hD hD2 e sub subI W lo b i hs hi h
  · simp only [h]; exact boM_5 L D hD hD2 e sub subI hsub W lo b i hs hi h
  · exact boM_6 L D hD hD2 e sub subI hsub W lo b i hs hi _ rfl h h8
  · exact boM_1 L D hD hD2 e sub subI hsI W lo b i hs hi _ rfl h h5
/-- How many numbers a condition of depth d takes at most. -/
def ebo : Nat → Nat
  | 0 => 9
  | d + 1 => 3 + 2 * ebo d
theorem ei_ebo : ∀ d, ei d ≤ ebo d
  | 0 => by decide
  | d + 1 => by have := ei_ebo d; simp only [ei, ebo]; omega
theorem box_frozen {W' : World} {g : Nat} {a0 a1 a2 a3 : Value} (h : W'.heap[g]? = some (.cells #[a0, a1, a2, a3] 33 (0, 0))) : W'.frozen? ⟨g, 0, none⟩ = false ∧ W'.frozen? ⟨g, 1, none⟩ = false ∧ W'.frozen? ⟨g, 2, none⟩ = false ∧ W'.frozen? ⟨g, 3, none⟩ = false := by simp [World.frozen?, h]
theorem GAt.more {f : FuncId} {L : List Int} {xs : List Int} {g : PG.Gen} {e e' : Nat} (h : GAt f L xs g e) (he : e ≤ e') : GAt f L xs g e' := fun W lo b i hs hi => (h W lo b i hs (by omega)).mono fun r w' ⟨v, h1, h2, h3, h4, h5⟩ => ⟨v, h1, h2, h3, by omega, h5⟩
theorem bool_any (L : List Int) : ∀ d : Nat, d ≤ 100 → GAt 67 L [(d : Int)] (PG.genB L d) (ebo d)
  | 0, _ => bool_leaf L 0 (by decide) (by decide)
  | d + 1, h => by
    have hs : GAt 67 L [((d + 1 : Nat) : Int) - 1] (PG.genB L d) (ebo d) := by
      rw [show (((d + 1 : Nat) : Int) - 1) = (d : Int) by omega]
      exact bool_any L d (by omega)
    have hI : GAt 66 L [((d + 1 : Nat) : Int) - 1] (PG.genI L d) (ebo d) := by
      rw [show (((d + 1 : Nat) : Int) - 1) = (d : Int) by omega]
      exact (int_any L d (by omega)).more (ei_ebo d)
    exact bool_more L (d + 1) (ebo d) (PG.genB L d) (PG.genI L d) (by omega) h hs hI
theorem int_0 (L : List Int) : GAt 66 L [0] (PG.genI L 0) 3 := int_any L 0 (by decide)
theorem int_1 (L : List Int) : GAt 66 L [1] (PG.genI L 1) 9 := int_any L 1 (by decide)
theorem int_2 (L : List Int) : GAt 66 L [2] (PG.genI L 2) 21 := int_any L 2 (by decide)
theorem bo_1 (L : List Int) : GAt 67 L [1] (PG.genB L 1) 21 := bool_any L 1 (by decide)
theorem bo_2 (L : List Int) : GAt 67 L [2] (PG.genB L 2) 45 := bool_any L 2 (by decide)
end Go.Proofs.YtlfpaemfhanpiaaGreatDoor
