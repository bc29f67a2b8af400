/-
  The reference's generator: Int, one level, given what it does one level down. Written by wip/gen/ref6.py. Condition: the generator lies in a block of its own.
-/
import Derived.Test.YtlfpaemfhanpiaaGreatDoorK4
import Derived.Deep.RegionHeld3
import Derived.Deep.RegionLaw

namespace Go.Proofs.YtlfpaemfhanpiaaGreatDoor
open Go Go.RowKit Go.Proofs
attribute [local go_sem] Oper.semAt_some


set_option maxRecDepth 100000 in
set_option maxHeartbeats 40000000 in
theorem inL_0 (L : List Int) (d : Int) (hd : d ≤ 0) (W : World) (lo b i : Nat) (hs : GenV W lo b L i) (hi : i + 3 ≤ 1000000000) (x0 : Nat) (hk : PG.nx L i 12 = x0) (hr : x0 % 6 = 0) :
    Calls Tryz.prog 66 #[.pointer (some ⟨b, 0, none⟩), .int .i64 d] W fun r w' => ∃ v, r = .returned v ∧ Nw W.heap.size w' (PG.gI L PG.none0 0 (i + 1)).1 v ∧ GenV w' lo b L (PG.gI L PG.none0 0 (i + 1)).2 ∧ (PG.gI L PG.none0 0 (i + 1)).2 ≤ i + 3 ∧ Chg (· = b) W w' := by
  obtain ⟨W0, hW0⟩ : ∃ U, W.alloc (.cells #[.int .i64 0, .int .i64 0, .string ⟨#[]⟩, .slice none 0 0] 33) = U := ⟨_, rfl⟩
  have X0 : ExG W W0 lo b L i := hW0 ▸ ExG.begin hs
  have N1 := Lib.hid (gpk X0 (by omega) 12 x0 12 (by decide) (by decide) rfl hk)
  have HW0 := Lib.hid hW0
  clear hs hW0 X0
  have hd0 : decide (d ≤ 0) = true := decide_eq_true hd
  have hx0 : x0 < 12 := hk ▸ PG.nx_lt _ _ (by decide)
  have hrm : (x0 : Int).tmod 6 = 0 := by rw [Int.tmod_eq_emod_of_nonneg (by omega)]; omega
  have hrm2 : IntKind.i64.wrap ((x0 : Int).tmod 6) = 0 := by rw [hrm]; rfl
  obtain ⟨y, hy2⟩ : ∃ y, PG.nx L (i + 1) 8 = y := ⟨_, rfl⟩
  have hy2l : y < 8 := hy2 ▸ PG.nx_lt _ _ (by decide)
  have N2 := Lib.hid (fun V (h : ExG W V lo b L (i + 1)) => gpc h (by omega) #[.int .i64 0, .int .i64 1, .int .i64 2, .int .i64 3, .int .i64 7, .int .i64 100, .int .i64 2147483647, .int .i64 30] 3 8 y 8 (fun j => .int .i64 (PG.pickI j)) (by decide) (by decide) rfl hy2 (fun j hj => by
      match j, hj with
      | 0, _ => rfl
      | 1, _ => rfl
      | 2, _ => rfl
      | 3, _ => rfl
      | 4, _ => rfl
      | 5, _ => rfl
      | 6, _ => rfl
      | 7, _ => rfl))
  have hG : (PG.gI L PG.none0 0 (i + 1)) = (.mk 12 (PG.pickI y) TY.eps [], i + 1 + 1) := by
    unfold PG.gI
    simp [hy2]
  rw [hG]
  clear hG hy2 hk hr
  go_enter Tryz.func66, Tryz.ntmps66
  go_wp2_with (first
    | (rw [HW0.out]; go_at_call 17; refine N1.out.mono ?_; clear N1; rintro r w1 ⟨rfl, X1, C1⟩; replace X1 := Lib.hid X1; clear C1)
    | (go_at_call 17; refine (N2.out _ X1.out).mono ?_; clear N2; rintro r w2 ⟨rfl, X2, qc2, C2⟩; replace X2 := Lib.hid X2; clear C2; obtain ⟨p0, p1, p2, p3, o0, o1, o2, o3⟩ := X2.out.cells))
  obtain ⟨U, hU⟩ : ∃ U, (((w2.setCell ⟨W.heap.size, 0, none⟩ (.int .i64 12)).setCell ⟨W.heap.size, 1, none⟩ (.int .i64 (PG.pickI y))).setCell ⟨W.heap.size, 2, none⟩ (.string ⟨#[]⟩)).setCell ⟨W.heap.size, 3, none⟩ (.slice none 0 0) = U := ⟨_, rfl⟩
  rw [hU]
  obtain ⟨f1, f2, f3, f4⟩ := X2.out.fin 12 (PG.pickI y) ⟨#[]⟩ (.slice none 0 0) (Nw.leaf _ _ _ _ _ (by decide)) hU
  refine bodyPost_ret (ret_N rfl _ rfl f1) rfl ?_
  exact ⟨_, rfl, f2, f3, by omega, f4⟩

set_option maxRecDepth 100000 in
set_option maxHeartbeats 40000000 in
theorem inL_1 (L : List Int) (d : Int) (hd : d ≤ 0) (W : World) (lo b i : Nat) (hs : GenV W lo b L i) (hi : i + 3 ≤ 1000000000) (x0 : Nat) (hk : PG.nx L i 12 = x0) (hr : x0 % 6 = 1) :
    Calls Tryz.prog 66 #[.pointer (some ⟨b, 0, none⟩), .int .i64 d] W fun r w' => ∃ v, r = .returned v ∧ Nw W.heap.size w' (PG.gI L PG.none0 1 (i + 1)).1 v ∧ GenV w' lo b L (PG.gI L PG.none0 1 (i + 1)).2 ∧ (PG.gI L PG.none0 1 (i + 1)).2 ≤ i + 3 ∧ Chg (· = b) W w' := by
  obtain ⟨W0, hW0⟩ : ∃ U, W.alloc (.cells #[.int .i64 0, .int .i64 0, .string ⟨#[]⟩, .slice none 0 0] 33) = U := ⟨_, rfl⟩
  have X0 : ExG W W0 lo b L i := hW0 ▸ ExG.begin hs
  have N1 := Lib.hid (gpk X0 (by omega) 12 x0 12 (by decide) (by decide) rfl hk)
  have HW0 := Lib.hid hW0
  clear hs hW0 X0
  have hd0 : decide (d ≤ 0) = true := decide_eq_true hd
  have hx0 : x0 < 12 := hk ▸ PG.nx_lt _ _ (by decide)
  have hrm : (x0 : Int).tmod 6 = 1 := by rw [Int.tmod_eq_emod_of_nonneg (by omega)]; omega
  have hrm2 : IntKind.i64.wrap ((x0 : Int).tmod 6) = 1 := by rw [hrm]; rfl
  obtain ⟨y, hy2⟩ : ∃ y, PG.nx L (i + 1) 8 = y := ⟨_, rfl⟩
  have hy2l : y < 8 := hy2 ▸ PG.nx_lt _ _ (by decide)
  have N2 := Lib.hid (fun V (h : ExG W V lo b L (i + 1)) => gpc h (by omega) #[.int .i64 0, .int .i64 1, .int .i64 2, .int .i64 3, .int .i64 7, .int .i64 100, .int .i64 2147483647, .int .i64 30] 3 8 y 8 (fun j => .int .i64 (PG.pickI j)) (by decide) (by decide) rfl hy2 (fun j hj => by
      match j, hj with
      | 0, _ => rfl
      | 1, _ => rfl
      | 2, _ => rfl
      | 3, _ => rfl
      | 4, _ => rfl
      | 5, _ => rfl
      | 6, _ => rfl
      | 7, _ => rfl))
  have hG : (PG.gI L PG.none0 1 (i + 1)) = (.mk 12 (PG.pickI y) TY.eps [], i + 1 + 1) := by
    unfold PG.gI
    simp [hy2]
  rw [hG]
  clear hG hy2 hk hr
  go_enter Tryz.func66, Tryz.ntmps66
  go_wp2_with (first
    | (rw [HW0.out]; go_at_call 17; refine N1.out.mono ?_; clear N1; rintro r w1 ⟨rfl, X1, C1⟩; replace X1 := Lib.hid X1; clear C1)
    | (go_at_call 17; refine (N2.out _ X1.out).mono ?_; clear N2; rintro r w2 ⟨rfl, X2, qc2, C2⟩; replace X2 := Lib.hid X2; clear C2; obtain ⟨p0, p1, p2, p3, o0, o1, o2, o3⟩ := X2.out.cells))
  obtain ⟨U, hU⟩ : ∃ U, (((w2.setCell ⟨W.heap.size, 0, none⟩ (.int .i64 12)).setCell ⟨W.heap.size, 1, none⟩ (.int .i64 (PG.pickI y))).setCell ⟨W.heap.size, 2, none⟩ (.string ⟨#[]⟩)).setCell ⟨W.heap.size, 3, none⟩ (.slice none 0 0) = U := ⟨_, rfl⟩
  rw [hU]
  obtain ⟨f1, f2, f3, f4⟩ := X2.out.fin 12 (PG.pickI y) ⟨#[]⟩ (.slice none 0 0) (Nw.leaf _ _ _ _ _ (by decide)) hU
  refine bodyPost_ret (ret_N rfl _ rfl f1) rfl ?_
  exact ⟨_, rfl, f2, f3, by omega, f4⟩

set_option maxRecDepth 100000 in
set_option maxHeartbeats 40000000 in
theorem inL_2 (L : List Int) (d : Int) (hd : d ≤ 0) (W : World) (lo b i : Nat) (hs : GenV W lo b L i) (hi : i + 3 ≤ 1000000000) (x0 : Nat) (hk : PG.nx L i 12 = x0) (hr : x0 % 6 = 2) :
    Calls Tryz.prog 66 #[.pointer (some ⟨b, 0, none⟩), .int .i64 d] W fun r w' => ∃ v, r = .returned v ∧ Nw W.heap.size w' (PG.gI L PG.none0 2 (i + 1)).1 v ∧ GenV w' lo b L (PG.gI L PG.none0 2 (i + 1)).2 ∧ (PG.gI L PG.none0 2 (i + 1)).2 ≤ i + 3 ∧ Chg (· = b) W w' := by
  obtain ⟨W0, hW0⟩ : ∃ U, W.alloc (.cells #[.int .i64 0, .int .i64 0, .string ⟨#[]⟩, .slice none 0 0] 33) = U := ⟨_, rfl⟩
  have X0 : ExG W W0 lo b L i := hW0 ▸ ExG.begin hs
  have N1 := Lib.hid (gpk X0 (by omega) 12 x0 12 (by decide) (by decide) rfl hk)
  have HW0 := Lib.hid hW0
  clear hs hW0 X0
  have hd0 : decide (d ≤ 0) = true := decide_eq_true hd
  have hx0 : x0 < 12 := hk ▸ PG.nx_lt _ _ (by decide)
  have hrm : (x0 : Int).tmod 6 = 2 := by rw [Int.tmod_eq_emod_of_nonneg (by omega)]; omega
  have hrm2 : IntKind.i64.wrap ((x0 : Int).tmod 6) = 2 := by rw [hrm]; rfl
  obtain ⟨z, hzz⟩ : ∃ z, TY.pick PG.vars (PG.nx L (i + 1) 4) = z := ⟨_, rfl⟩
  have hz : z.size ≤ 1000 := hzz ▸ pick_small (by decide) _
  have N2 := Lib.hid (fun V (h : ExG W V lo b L (i + 1)) => gvr h (by omega) hzz)
  have hG : (PG.gI L PG.none0 2 (i + 1)) = (.mk 14 0 z [], i + 1 + 1) := by
    unfold PG.gI
    simp [hzz]
  rw [hG]
  clear hG hzz hk hr
  go_enter Tryz.func66, Tryz.ntmps66
  go_wp2_with (first
    | (rw [HW0.out]; go_at_call 17; refine N1.out.mono ?_; clear N1; rintro r w1 ⟨rfl, X1, C1⟩; replace X1 := Lib.hid X1; clear C1)
    | (go_at_call 65; refine (N2.out _ X1.out).mono ?_; clear N2; rintro r w2 ⟨rfl, X2, C2⟩; replace X2 := Lib.hid X2; clear C2; obtain ⟨p0, p1, p2, p3, o0, o1, o2, o3⟩ := X2.out.cells))
  obtain ⟨U, hU⟩ : ∃ U, (((w2.setCell ⟨W.heap.size, 0, none⟩ (.int .i64 14)).setCell ⟨W.heap.size, 1, none⟩ (.int .i64 0)).setCell ⟨W.heap.size, 2, none⟩ (.string z)).setCell ⟨W.heap.size, 3, none⟩ (.slice none 0 0) = U := ⟨_, rfl⟩
  rw [hU]
  obtain ⟨f1, f2, f3, f4⟩ := X2.out.fin 14 0 z (.slice none 0 0) (Nw.leaf _ _ _ _ _ hz) hU
  refine bodyPost_ret (ret_N rfl _ rfl f1) rfl ?_
  exact ⟨_, rfl, f2, f3, by omega, f4⟩

set_option maxRecDepth 100000 in
set_option maxHeartbeats 40000000 in
theorem inL_3 (L : List Int) (d : Int) (hd : d ≤ 0) (W : World) (lo b i : Nat) (hs : GenV W lo b L i) (hi : i + 3 ≤ 1000000000) (x0 : Nat) (hk : PG.nx L i 12 = x0) (hr : x0 % 6 = 3) :
    Calls Tryz.prog 66 #[.pointer (some ⟨b, 0, none⟩), .int .i64 d] W fun r w' => ∃ v, r = .returned v ∧ Nw W.heap.size w' (PG.gI L PG.none0 3 (i + 1)).1 v ∧ GenV w' lo b L (PG.gI L PG.none0 3 (i + 1)).2 ∧ (PG.gI L PG.none0 3 (i + 1)).2 ≤ i + 3 ∧ Chg (· = b) W w' := by
  obtain ⟨W0, hW0⟩ : ∃ U, W.alloc (.cells #[.int .i64 0, .int .i64 0, .string ⟨#[]⟩, .slice none 0 0] 33) = U := ⟨_, rfl⟩
  have X0 : ExG W W0 lo b L i := hW0 ▸ ExG.begin hs
  have N1 := Lib.hid (gpk X0 (by omega) 12 x0 12 (by decide) (by decide) rfl hk)
  have HW0 := Lib.hid hW0
  clear hs hW0 X0
  have hd0 : decide (d ≤ 0) = true := decide_eq_true hd
  have hx0 : x0 < 12 := hk ▸ PG.nx_lt _ _ (by decide)
  have hrm : (x0 : Int).tmod 6 = 3 := by rw [Int.tmod_eq_emod_of_nonneg (by omega)]; omega
  have hrm2 : IntKind.i64.wrap ((x0 : Int).tmod 6) = 3 := by rw [hrm]; rfl
  obtain ⟨z, hzz⟩ : ∃ z, TY.pick PG.vars (PG.nx L (i + 1) 4) = z := ⟨_, rfl⟩
  have hz : z.size ≤ 1000 := hzz ▸ pick_small (by decide) _
  have N2 := Lib.hid (fun V (h : ExG W V lo b L (i + 1)) => gvr h (by omega) hzz)
  have hG : (PG.gI L PG.none0 3 (i + 1)) = (.mk 14 0 z [], i + 1 + 1) := by
    unfold PG.gI
    simp [hzz]
  rw [hG]
  clear hG hzz hk hr
  go_enter Tryz.func66, Tryz.ntmps66
  go_wp2_with (first
    | (rw [HW0.out]; go_at_call 17; refine N1.out.mono ?_; clear N1; rintro r w1 ⟨rfl, X1, C1⟩; replace X1 := Lib.hid X1; clear C1)
    | (go_at_call 65; refine (N2.out _ X1.out).mono ?_; clear N2; rintro r w2 ⟨rfl, X2, C2⟩; replace X2 := Lib.hid X2; clear C2; obtain ⟨p0, p1, p2, p3, o0, o1, o2, o3⟩ := X2.out.cells))
  obtain ⟨U, hU⟩ : ∃ U, (((w2.setCell ⟨W.heap.size, 0, none⟩ (.int .i64 14)).setCell ⟨W.heap.size, 1, none⟩ (.int .i64 0)).setCell ⟨W.heap.size, 2, none⟩ (.string z)).setCell ⟨W.heap.size, 3, none⟩ (.slice none 0 0) = U := ⟨_, rfl⟩
  rw [hU]
  obtain ⟨f1, f2, f3, f4⟩ := X2.out.fin 14 0 z (.slice none 0 0) (Nw.leaf _ _ _ _ _ hz) hU
  refine bodyPost_ret (ret_N rfl _ rfl f1) rfl ?_
  exact ⟨_, rfl, f2, f3, by omega, f4⟩

set_option maxRecDepth 100000 in
set_option maxHeartbeats 40000000 in
theorem inL_4 (L : List Int) (d : Int) (hd : d ≤ 0) (W : World) (lo b i : Nat) (hs : GenV W lo b L i) (hi : i + 3 ≤ 1000000000) (x0 : Nat) (hk : PG.nx L i 12 = x0) (hr : x0 % 6 = 4) :
    Calls Tryz.prog 66 #[.pointer (some ⟨b, 0, none⟩), .int .i64 d] W fun r w' => ∃ v, r = .returned v ∧ Nw W.heap.size w' (PG.gI L PG.none0 4 (i + 1)).1 v ∧ GenV w' lo b L (PG.gI L PG.none0 4 (i + 1)).2 ∧ (PG.gI L PG.none0 4 (i + 1)).2 ≤ i + 3 ∧ Chg (· = b) W w' := by
  obtain ⟨W0, hW0⟩ : ∃ U, W.alloc (.cells #[.int .i64 0, .int .i64 0, .string ⟨#[]⟩, .slice none 0 0] 33) = U := ⟨_, rfl⟩
  have X0 : ExG W W0 lo b L i := hW0 ▸ ExG.begin hs
  have N1 := Lib.hid (gpk X0 (by omega) 12 x0 12 (by decide) (by decide) rfl hk)
  have HW0 := Lib.hid hW0
  clear hs hW0 X0
  have hd0 : decide (d ≤ 0) = true := decide_eq_true hd
  have hx0 : x0 < 12 := hk ▸ PG.nx_lt _ _ (by decide)
  have hrm : (x0 : Int).tmod 6 = 4 := by rw [Int.tmod_eq_emod_of_nonneg (by omega)]; omega
  have hrm2 : IntKind.i64.wrap ((x0 : Int).tmod 6) = 4 := by rw [hrm]; rfl
  obtain ⟨y, hy2⟩ : ∃ y, PG.nx L (i + 1) 9 = y := ⟨_, rfl⟩
  have hy2l : y < 9 := hy2 ▸ PG.nx_lt _ _ (by decide)
  have N2 := Lib.hid (fun V (h : ExG W V lo b L (i + 1)) => gpc h (by omega) (TY.bNames.map Value.string).toArray 9 9 y 9 (fun j => .string (TY.pick TY.bNames j)) (by decide) (by decide) rfl hy2 (fun j hj => by
      match j, hj with
      | 0, _ => rfl
      | 1, _ => rfl
      | 2, _ => rfl
      | 3, _ => rfl
      | 4, _ => rfl
      | 5, _ => rfl
      | 6, _ => rfl
      | 7, _ => rfl
      | 8, _ => rfl))
  obtain ⟨z, hzz⟩ : ∃ z, TY.pick TY.bNames y = z := ⟨_, rfl⟩
  have hz : z.size ≤ 1000 := hzz ▸ pick_small (by decide) _
  simp only [hzz] at N2
  have hG : (PG.gI L PG.none0 4 (i + 1)) = (.mk 15 0 z [], i + 1 + 1) := by
    unfold PG.gI
    simp [hy2, hzz]
  rw [hG]
  clear hG hy2 hzz hk hr
  go_enter Tryz.func66, Tryz.ntmps66
  go_wp2_with (first
    | (rw [HW0.out]; go_at_call 17; refine N1.out.mono ?_; clear N1; rintro r w1 ⟨rfl, X1, C1⟩; replace X1 := Lib.hid X1; clear C1)
    | (go_at_call 87; refine (Builtins_any _).mono ?_; rintro r wb ⟨rfl, rfl⟩)
    | (go_at_call 17; refine (N2.out _ X1.out).mono ?_; clear N2; rintro r w2 ⟨rfl, X2, qc2, C2⟩; replace X2 := Lib.hid X2; clear C2; obtain ⟨p0, p1, p2, p3, o0, o1, o2, o3⟩ := X2.out.cells))
  obtain ⟨U, hU⟩ : ∃ U, (((w2.setCell ⟨W.heap.size, 0, none⟩ (.int .i64 15)).setCell ⟨W.heap.size, 1, none⟩ (.int .i64 0)).setCell ⟨W.heap.size, 2, none⟩ (.string z)).setCell ⟨W.heap.size, 3, none⟩ (.slice none 0 0) = U := ⟨_, rfl⟩
  rw [hU]
  obtain ⟨f1, f2, f3, f4⟩ := X2.out.fin 15 0 z (.slice none 0 0) (Nw.leaf _ _ _ _ _ hz) hU
  refine bodyPost_ret (ret_N rfl _ rfl f1) rfl ?_
  exact ⟨_, rfl, f2, f3, by omega, f4⟩

set_option maxRecDepth 100000 in
set_option maxHeartbeats 40000000 in
theorem inL_5 (L : List Int) (d : Int) (hd : d ≤ 0) (W : World) (lo b i : Nat) (hs : GenV W lo b L i) (hi : i + 3 ≤ 1000000000) (x0 : Nat) (hk : PG.nx L i 12 = x0) (hr : x0 % 6 = 5) :
    Calls Tryz.prog 66 #[.pointer (some ⟨b, 0, none⟩), .int .i64 d] W fun r w' => ∃ v, r = .returned v ∧ Nw W.heap.size w' (PG.gI L PG.none0 5 (i + 1)).1 v ∧ GenV w' lo b L (PG.gI L PG.none0 5 (i + 1)).2 ∧ (PG.gI L PG.none0 5 (i + 1)).2 ≤ i + 3 ∧ Chg (· = b) W w' := by
  obtain ⟨W0, hW0⟩ : ∃ U, W.alloc (.cells #[.int .i64 0, .int .i64 0, .string ⟨#[]⟩, .slice none 0 0] 33) = U := ⟨_, rfl⟩
  have X0 : ExG W W0 lo b L i := hW0 ▸ ExG.begin hs
  have N1 := Lib.hid (gpk X0 (by omega) 12 x0 12 (by decide) (by decide) rfl hk)
  have HW0 := Lib.hid hW0
  clear hs hW0 X0
  have hd0 : decide (d ≤ 0) = true := decide_eq_true hd
  have hx0 : x0 < 12 := hk ▸ PG.nx_lt _ _ (by decide)
  have hrm : (x0 : Int).tmod 6 = 5 := by rw [Int.tmod_eq_emod_of_nonneg (by omega)]; omega
  have hrm2 : IntKind.i64.wrap ((x0 : Int).tmod 6) = 5 := by rw [hrm]; rfl
  obtain ⟨y, hy2⟩ : ∃ y, PG.nx L (i + 1) 9 = y := ⟨_, rfl⟩
  have hy2l : y < 9 := hy2 ▸ PG.nx_lt _ _ (by decide)
  have N2 := Lib.hid (fun V (h : ExG W V lo b L (i + 1)) => gpc h (by omega) (TY.bNames.map Value.string).toArray 9 9 y 9 (fun j => .string (TY.pick TY.bNames j)) (by decide) (by decide) rfl hy2 (fun j hj => by
      match j, hj with
      | 0, _ => rfl
      | 1, _ => rfl
      | 2, _ => rfl
      | 3, _ => rfl
      | 4, _ => rfl
      | 5, _ => rfl
      | 6, _ => rfl
      | 7, _ => rfl
      | 8, _ => rfl))
  obtain ⟨z, hzz⟩ : ∃ z, TY.pick TY.bNames y = z := ⟨_, rfl⟩
  have hz : z.size ≤ 1000 := hzz ▸ pick_small (by decide) _
  simp only [hzz] at N2
  have hG : (PG.gI L PG.none0 5 (i + 1)) = (.mk 15 0 z [], i + 1 + 1) := by
    unfold PG.gI
    simp [hy2, hzz]
  rw [hG]
  clear hG hy2 hzz hk hr
  go_enter Tryz.func66, Tryz.ntmps66
  go_wp2_with (first
    | (rw [HW0.out]; go_at_call 17; refine N1.out.mono ?_; clear N1; rintro r w1 ⟨rfl, X1, C1⟩; replace X1 := Lib.hid X1; clear C1)
    | (go_at_call 87; refine (Builtins_any _).mono ?_; rintro r wb ⟨rfl, rfl⟩)
    | (go_at_call 17; refine (N2.out _ X1.out).mono ?_; clear N2; rintro r w2 ⟨rfl, X2, qc2, C2⟩; replace X2 := Lib.hid X2; clear C2; obtain ⟨p0, p1, p2, p3, o0, o1, o2, o3⟩ := X2.out.cells))
  obtain ⟨U, hU⟩ : ∃ U, (((w2.setCell ⟨W.heap.size, 0, none⟩ (.int .i64 15)).setCell ⟨W.heap.size, 1, none⟩ (.int .i64 0)).setCell ⟨W.heap.size, 2, none⟩ (.string z)).setCell ⟨W.heap.size, 3, none⟩ (.slice none 0 0) = U := ⟨_, rfl⟩
  rw [hU]
  obtain ⟨f1, f2, f3, f4⟩ := X2.out.fin 15 0 z (.slice none 0 0) (Nw.leaf _ _ _ _ _ hz) hU
  refine bodyPost_ret (ret_N rfl _ rfl f1) rfl ?_
  exact ⟨_, rfl, f2, f3, by omega, f4⟩

set_option maxRecDepth 100000 in
set_option maxHeartbeats 40000000 in
theorem inM_0 (L : List Int) (D : Nat) (hD : 1 ≤ D) (hD2 : D ≤ 100) (e : Nat) (subT : PG.Gen) (W : World) (lo b i : Nat) (hs : GenV W lo b L i) (hi : i + (3 + 2 * e) ≤ 1000000000) (hk : PG.nx L i 12 = 0) :
    Calls Tryz.prog 66 #[.pointer (some ⟨b, 0, none⟩), .int .i64 (D : Int)] W fun r w' => ∃ v, r = .returned v ∧ Nw W.heap.size w' (PG.gI L subT 0 (i + 1)).1 v ∧ GenV w' lo b L (PG.gI L subT 0 (i + 1)).2 ∧ (PG.gI L subT 0 (i + 1)).2 ≤ i + (3 + 2 * e) ∧ Chg (· = b) W w' := by
  obtain ⟨W0, hW0⟩ : ∃ U, W.alloc (.cells #[.int .i64 0, .int .i64 0, .string ⟨#[]⟩, .slice none 0 0] 33) = U := ⟨_, rfl⟩
  have X0 : ExG W W0 lo b L i := hW0 ▸ ExG.begin hs
  have N1 := Lib.hid (gpk X0 (by omega) 12 0 12 (by decide) (by decide) rfl hk)
  have HW0 := Lib.hid hW0
  clear hs hW0 X0
  have hwr : IntKind.i64.wrap ((D : Int) - 1) = (D : Int) - 1 := IntWalk.i64_in _ (by omega)
  have hd0 : decide ((D : Int) ≤ 0) = false := by rw [decide_eq_false_iff_not]; omega
  obtain ⟨y, hy2⟩ : ∃ y, PG.nx L (i + 1) 8 = y := ⟨_, rfl⟩
  have hy2l : y < 8 := hy2 ▸ PG.nx_lt _ _ (by decide)
  have N2 := Lib.hid (fun V (h : ExG W V lo b L (i + 1)) => gpc h (by omega) #[.int .i64 0, .int .i64 1, .int .i64 2, .int .i64 3, .int .i64 7, .int .i64 100, .int .i64 2147483647, .int .i64 30] 3 8 y 8 (fun j => .int .i64 (PG.pickI j)) (by decide) (by decide) rfl hy2 (fun j hj => by
      match j, hj with
      | 0, _ => rfl
      | 1, _ => rfl
      | 2, _ => rfl
      | 3, _ => rfl
      | 4, _ => rfl
      | 5, _ => rfl
      | 6, _ => rfl
      | 7, _ => rfl))
  have hG : (PG.gI L subT 0 (i + 1)) = (.mk 12 (PG.pickI y) TY.eps [], i + 1 + 1) := by
    unfold PG.gI
    simp [hy2]
  rw [hG]
  clear hG hy2 hk
  go_enter Tryz.func66, Tryz.ntmps66
  go_wp2_with (first
    | (rw [HW0.out]; go_at_call 17; refine N1.out.mono ?_; clear N1; rintro r w1 ⟨rfl, X1, C1⟩; replace X1 := Lib.hid X1; clear C1)
    | (go_at_call 17; refine (N2.out _ X1.out).mono ?_; clear N2; rintro r w2 ⟨rfl, X2, qc2, C2⟩; replace X2 := Lib.hid X2; clear C2; obtain ⟨p0, p1, p2, p3, o0, o1, o2, o3⟩ := X2.out.cells))
  obtain ⟨U, hU⟩ : ∃ U, (((w2.setCell ⟨W.heap.size, 0, none⟩ (.int .i64 12)).setCell ⟨W.heap.size, 1, none⟩ (.int .i64 (PG.pickI y))).setCell ⟨W.heap.size, 2, none⟩ (.string ⟨#[]⟩)).setCell ⟨W.heap.size, 3, none⟩ (.slice none 0 0) = U := ⟨_, rfl⟩
  rw [hU]
  obtain ⟨f1, f2, f3, f4⟩ := X2.out.fin 12 (PG.pickI y) ⟨#[]⟩ (.slice none 0 0) (Nw.leaf _ _ _ _ _ (by decide)) hU
  refine bodyPost_ret (ret_N rfl _ rfl f1) rfl ?_
  exact ⟨_, rfl, f2, f3, by omega, f4⟩

set_option maxRecDepth 100000 in
set_option maxHeartbeats 40000000 in
theorem inM_1 (L : List Int) (D : Nat) (hD : 1 ≤ D) (hD2 : D ≤ 100) (e : Nat) (subT : PG.Gen) (W : World) (lo b i : Nat) (hs : GenV W lo b L i) (hi : i + (3 + 2 * e) ≤ 1000000000) (hk : PG.nx L i 12 = 1) :
    Calls Tryz.prog 66 #[.pointer (some ⟨b, 0, none⟩), .int .i64 (D : Int)] W fun r w' => ∃ v, r = .returned v ∧ Nw W.heap.size w' (PG.gI L subT 1 (i + 1)).1 v ∧ GenV w' lo b L (PG.gI L subT 1 (i + 1)).2 ∧ (PG.gI L subT 1 (i + 1)).2 ≤ i + (3 + 2 * e) ∧ Chg (· = b) W w' := by
  obtain ⟨W0, hW0⟩ : ∃ U, W.alloc (.cells #[.int .i64 0, .int .i64 0, .string ⟨#[]⟩, .slice none 0 0] 33) = U := ⟨_, rfl⟩
  have X0 : ExG W W0 lo b L i := hW0 ▸ ExG.begin hs
  have N1 := Lib.hid (gpk X0 (by omega) 12 1 12 (by decide) (by decide) rfl hk)
  have HW0 := Lib.hid hW0
  clear hs hW0 X0
  have hwr : IntKind.i64.wrap ((D : Int) - 1) = (D : Int) - 1 := IntWalk.i64_in _ (by omega)
  have hd0 : decide ((D : Int) ≤ 0) = false := by rw [decide_eq_false_iff_not]; omega
  obtain ⟨y, hy2⟩ : ∃ y, PG.nx L (i + 1) 8 = y := ⟨_, rfl⟩
  have hy2l : y < 8 := hy2 ▸ PG.nx_lt _ _ (by decide)
  have N2 := Lib.hid (fun V (h : ExG W V lo b L (i + 1)) => gpc h (by omega) #[.int .i64 0, .int .i64 1, .int .i64 2, .int .i64 3, .int .i64 7, .int .i64 100, .int .i64 2147483647, .int .i64 30] 3 8 y 8 (fun j => .int .i64 (PG.pickI j)) (by decide) (by decide) rfl hy2 (fun j hj => by
      match j, hj with
      | 0, _ => rfl
      | 1, _ => rfl
      | 2, _ => rfl
      | 3, _ => rfl
      | 4, _ => rfl
      | 5, _ => rfl
      | 6, _ => rfl
      | 7, _ => rfl))
  have hG : (PG.gI L subT 1 (i + 1)) = (.mk 12 (PG.pickI y) TY.eps [], i + 1 + 1) := by
    unfold PG.gI
    simp [hy2]
  rw [hG]
  clear hG hy2 hk
  go_enter Tryz.func66, Tryz.ntmps66
  go_wp2_with (first
    | (rw [HW0.out]; go_at_call 17; refine N1.out.mono ?_; clear N1; rintro r w1 ⟨rfl, X1, C1⟩; replace X1 := Lib.hid X1; clear C1)
    | (go_at_call 17; refine (N2.out _ X1.out).mono ?_; clear N2; rintro r w2 ⟨rfl, X2, qc2, C2⟩; replace X2 := Lib.hid X2; clear C2; obtain ⟨p0, p1, p2, p3, o0, o1, o2, o3⟩ := X2.out.cells))
  obtain ⟨U, hU⟩ : ∃ U, (((w2.setCell ⟨W.heap.size, 0, none⟩ (.int .i64 12)).setCell ⟨W.heap.size, 1, none⟩ (.int .i64 (PG.pickI y))).setCell ⟨W.heap.size, 2, none⟩ (.string ⟨#[]⟩)).setCell ⟨W.heap.size, 3, none⟩ (.slice none 0 0) = U := ⟨_, rfl⟩
  rw [hU]
  obtain ⟨f1, f2, f3, f4⟩ := X2.out.fin 12 (PG.pickI y) ⟨#[]⟩ (.slice none 0 0) (Nw.leaf _ _ _ _ _ (by decide)) hU
  refine bodyPost_ret (ret_N rfl _ rfl f1) rfl ?_
  exact ⟨_, rfl, f2, f3, by omega, f4⟩

set_option maxRecDepth 100000 in
set_option maxHeartbeats 40000000 in
theorem inM_2 (L : List Int) (D : Nat) (hD : 1 ≤ D) (hD2 : D ≤ 100) (e : Nat) (subT : PG.Gen) (W : World) (lo b i : Nat) (hs : GenV W lo b L i) (hi : i + (3 + 2 * e) ≤ 1000000000) (hk : PG.nx L i 12 = 2) :
    Calls Tryz.prog 66 #[.pointer (some ⟨b, 0, none⟩), .int .i64 (D : Int)] W fun r w' => ∃ v, r = .returned v ∧ Nw W.heap.size w' (PG.gI L subT 2 (i + 1)).1 v ∧ GenV w' lo b L (PG.gI L subT 2 (i + 1)).2 ∧ (PG.gI L subT 2 (i + 1)).2 ≤ i + (3 + 2 * e) ∧ Chg (· = b) W w' := by
  obtain ⟨W0, hW0⟩ : ∃ U, W.alloc (.cells #[.int .i64 0, .int .i64 0, .string ⟨#[]⟩, .slice none 0 0] 33) = U := ⟨_, rfl⟩
  have X0 : ExG W W0 lo b L i := hW0 ▸ ExG.begin hs
  have N1 := Lib.hid (gpk X0 (by omega) 12 2 12 (by decide) (by decide) rfl hk)
  have HW0 := Lib.hid hW0
  clear hs hW0 X0
  have hwr : IntKind.i64.wrap ((D : Int) - 1) = (D : Int) - 1 := IntWalk.i64_in _ (by omega)
  have hd0 : decide ((D : Int) ≤ 0) = false := by rw [decide_eq_false_iff_not]; omega
  obtain ⟨z, hzz⟩ : ∃ z, TY.pick PG.vars (PG.nx L (i + 1) 4) = z := ⟨_, rfl⟩
  have hz : z.size ≤ 1000 := hzz ▸ pick_small (by decide) _
  have N2 := Lib.hid (fun V (h : ExG W V lo b L (i + 1)) => gvr h (by omega) hzz)
  have hG : (PG.gI L subT 2 (i + 1)) = (.mk 14 0 z [], i + 1 + 1) := by
    unfold PG.gI
    simp [hzz]
  rw [hG]
  clear hG hzz hk
  go_enter Tryz.func66, Tryz.ntmps66
  go_wp2_with (first
    | (rw [HW0.out]; go_at_call 17; refine N1.out.mono ?_; clear N1; rintro r w1 ⟨rfl, X1, C1⟩; replace X1 := Lib.hid X1; clear C1)
    | (go_at_call 65; refine (N2.out _ X1.out).mono ?_; clear N2; rintro r w2 ⟨rfl, X2, C2⟩; replace X2 := Lib.hid X2; clear C2; obtain ⟨p0, p1, p2, p3, o0, o1, o2, o3⟩ := X2.out.cells))
  obtain ⟨U, hU⟩ : ∃ U, (((w2.setCell ⟨W.heap.size, 0, none⟩ (.int .i64 14)).setCell ⟨W.heap.size, 1, none⟩ (.int .i64 0)).setCell ⟨W.heap.size, 2, none⟩ (.string z)).setCell ⟨W.heap.size, 3, none⟩ (.slice none 0 0) = U := ⟨_, rfl⟩
  rw [hU]
  obtain ⟨f1, f2, f3, f4⟩ := X2.out.fin 14 0 z (.slice none 0 0) (Nw.leaf _ _ _ _ _ hz) hU
  refine bodyPost_ret (ret_N rfl _ rfl f1) rfl ?_
  exact ⟨_, rfl, f2, f3, by omega, f4⟩

set_option maxRecDepth 100000 in
set_option maxHeartbeats 40000000 in
theorem inM_3 (L : List Int) (D : Nat) (hD : 1 ≤ D) (hD2 : D ≤ 100) (e : Nat) (subT : PG.Gen) (W : World) (lo b i : Nat) (hs : GenV W lo b L i) (hi : i + (3 + 2 * e) ≤ 1000000000) (hk : PG.nx L i 12 = 3) :
    Calls Tryz.prog 66 #[.pointer (some ⟨b, 0, none⟩), .int .i64 (D : Int)] W fun r w' => ∃ v, r = .returned v ∧ Nw W.heap.size w' (PG.gI L subT 3 (i + 1)).1 v ∧ GenV w' lo b L (PG.gI L subT 3 (i + 1)).2 ∧ (PG.gI L subT 3 (i + 1)).2 ≤ i + (3 + 2 * e) ∧ Chg (· = b) W w' := by
  obtain ⟨W0, hW0⟩ : ∃ U, W.alloc (.cells #[.int .i64 0, .int .i64 0, .string ⟨#[]⟩, .slice none 0 0] 33) = U := ⟨_, rfl⟩
  have X0 : ExG W W0 lo b L i := hW0 ▸ ExG.begin hs
  have N1 := Lib.hid (gpk X0 (by omega) 12 3 12 (by decide) (by decide) rfl hk)
  have HW0 := Lib.hid hW0
  clear hs hW0 X0
  have hwr : IntKind.i64.wrap ((D : Int) - 1) = (D : Int) - 1 := IntWalk.i64_in _ (by omega)
  have hd0 : decide ((D : Int) ≤ 0) = false := by rw [decide_eq_false_iff_not]; omega
  obtain ⟨z, hzz⟩ : ∃ z, TY.pick PG.vars (PG.nx L (i + 1) 4) = z := ⟨_, rfl⟩
  have hz : z.size ≤ 1000 := hzz ▸ pick_small (by decide) _
  have N2 := Lib.hid (fun V (h : ExG W V lo b L (i + 1)) => gvr h (by omega) hzz)
  have hG : (PG.gI L subT 3 (i + 1)) = (.mk 14 0 z [], i + 1 + 1) := by
    unfold PG.gI
    simp [hzz]
  rw [hG]
  clear hG hzz hk
  go_enter Tryz.func66, Tryz.ntmps66
  go_wp2_with (first
    | (rw [HW0.out]; go_at_call 17; refine N1.out.mono ?_; clear N1; rintro r w1 ⟨rfl, X1, C1⟩; replace X1 := Lib.hid X1; clear C1)
    | (go_at_call 65; refine (N2.out _ X1.out).mono ?_; clear N2; rintro r w2 ⟨rfl, X2, C2⟩; replace X2 := Lib.hid X2; clear C2; obtain ⟨p0, p1, p2, p3, o0, o1, o2, o3⟩ := X2.out.cells))
  obtain ⟨U, hU⟩ : ∃ U, (((w2.setCell ⟨W.heap.size, 0, none⟩ (.int .i64 14)).setCell ⟨W.heap.size, 1, none⟩ (.int .i64 0)).setCell ⟨W.heap.size, 2, none⟩ (.string z)).setCell ⟨W.heap.size, 3, none⟩ (.slice none 0 0) = U := ⟨_, rfl⟩
  rw [hU]
  obtain ⟨f1, f2, f3, f4⟩ := X2.out.fin 14 0 z (.slice none 0 0) (Nw.leaf _ _ _ _ _ hz) hU
  refine bodyPost_ret (ret_N rfl _ rfl f1) rfl ?_
  exact ⟨_, rfl, f2, f3, by omega, f4⟩

set_option maxRecDepth 100000 in
set_option maxHeartbeats 40000000 in
theorem inM_4 (L : List Int) (D : Nat) (hD : 1 ≤ D) (hD2 : D ≤ 100) (e : Nat) (subT : PG.Gen) (W : World) (lo b i : Nat) (hs : GenV W lo b L i) (hi : i + (3 + 2 * e) ≤ 1000000000) (hk : PG.nx L i 12 = 4) :
    Calls Tryz.prog 66 #[.pointer (some ⟨b, 0, none⟩), .int .i64 (D : Int)] W fun r w' => ∃ v, r = .returned v ∧ Nw W.heap.size w' (PG.gI L subT 4 (i + 1)).1 v ∧ GenV w' lo b L (PG.gI L subT 4 (i + 1)).2 ∧ (PG.gI L subT 4 (i + 1)).2 ≤ i + (3 + 2 * e) ∧ Chg (· = b) W w' := by
  obtain ⟨W0, hW0⟩ : ∃ U, W.alloc (.cells #[.int .i64 0, .int .i64 0, .string ⟨#[]⟩, .slice none 0 0] 33) = U := ⟨_, rfl⟩
  have X0 : ExG W W0 lo b L i := hW0 ▸ ExG.begin hs
  have N1 := Lib.hid (gpk X0 (by omega) 12 4 12 (by decide) (by decide) rfl hk)
  have HW0 := Lib.hid hW0
  clear hs hW0 X0
  have hwr : IntKind.i64.wrap ((D : Int) - 1) = (D : Int) - 1 := IntWalk.i64_in _ (by omega)
  have hd0 : decide ((D : Int) ≤ 0) = false := by rw [decide_eq_false_iff_not]; omega
  obtain ⟨y, hy2⟩ : ∃ y, PG.nx L (i + 1) 9 = y := ⟨_, rfl⟩
  have hy2l : y < 9 := hy2 ▸ PG.nx_lt _ _ (by decide)
  have N2 := Lib.hid (fun V (h : ExG W V lo b L (i + 1)) => gpc h (by omega) (TY.bNames.map Value.string).toArray 9 9 y 9 (fun j => .string (TY.pick TY.bNames j)) (by decide) (by decide) rfl hy2 (fun j hj => by
      match j, hj with
      | 0, _ => rfl
      | 1, _ => rfl
      | 2, _ => rfl
      | 3, _ => rfl
      | 4, _ => rfl
      | 5, _ => rfl
      | 6, _ => rfl
      | 7, _ => rfl
      | 8, _ => rfl))
  obtain ⟨z, hzz⟩ : ∃ z, TY.pick TY.bNames y = z := ⟨_, rfl⟩
  have hz : z.size ≤ 1000 := hzz ▸ pick_small (by decide) _
  simp only [hzz] at N2
  have hG : (PG.gI L subT 4 (i + 1)) = (.mk 15 0 z [], i + 1 + 1) := by
    unfold PG.gI
    simp [hy2, hzz]
  rw [hG]
  clear hG hy2 hzz hk
  go_enter Tryz.func66, Tryz.ntmps66
  go_wp2_with (first
    | (rw [HW0.out]; go_at_call 17; refine N1.out.mono ?_; clear N1; rintro r w1 ⟨rfl, X1, C1⟩; replace X1 := Lib.hid X1; clear C1)
    | (go_at_call 87; refine (Builtins_any _).mono ?_; rintro r wb ⟨rfl, rfl⟩)
    | (go_at_call 17; refine (N2.out _ X1.out).mono ?_; clear N2; rintro r w2 ⟨rfl, X2, qc2, C2⟩; replace X2 := Lib.hid X2; clear C2; obtain ⟨p0, p1, p2, p3, o0, o1, o2, o3⟩ := X2.out.cells))
  obtain ⟨U, hU⟩ : ∃ U, (((w2.setCell ⟨W.heap.size, 0, none⟩ (.int .i64 15)).setCell ⟨W.heap.size, 1, none⟩ (.int .i64 0)).setCell ⟨W.heap.size, 2, none⟩ (.string z)).setCell ⟨W.heap.size, 3, none⟩ (.slice none 0 0) = U := ⟨_, rfl⟩
  rw [hU]
  obtain ⟨f1, f2, f3, f4⟩ := X2.out.fin 15 0 z (.slice none 0 0) (Nw.leaf _ _ _ _ _ hz) hU
  refine bodyPost_ret (ret_N rfl _ rfl f1) rfl ?_
  exact ⟨_, rfl, f2, f3, by omega, f4⟩

set_option maxRecDepth 100000 in
set_option maxHeartbeats 40000000 in
theorem inM_5 (L : List Int) (D : Nat) (hD : 1 ≤ D) (hD2 : D ≤ 100) (e : Nat) (subT : PG.Gen) (W : World) (lo b i : Nat) (hs : GenV W lo b L i) (hi : i + (3 + 2 * e) ≤ 1000000000) (hk : PG.nx L i 12 = 5) :
    Calls Tryz.prog 66 #[.pointer (some ⟨b, 0, none⟩), .int .i64 (D : Int)] W fun r w' => ∃ v, r = .returned v ∧ Nw W.heap.size w' (PG.gI L subT 5 (i + 1)).1 v ∧ GenV w' lo b L (PG.gI L subT 5 (i + 1)).2 ∧ (PG.gI L subT 5 (i + 1)).2 ≤ i + (3 + 2 * e) ∧ Chg (· = b) W w' := by
  obtain ⟨W0, hW0⟩ : ∃ U, W.alloc (.cells #[.int .i64 0, .int .i64 0, .string ⟨#[]⟩, .slice none 0 0] 33) = U := ⟨_, rfl⟩
  have X0 : ExG W W0 lo b L i := hW0 ▸ ExG.begin hs
  have N1 := Lib.hid (gpk X0 (by omega) 12 5 12 (by decide) (by decide) rfl hk)
  have HW0 := Lib.hid hW0
  clear hs hW0 X0
  have hwr : IntKind.i64.wrap ((D : Int) - 1) = (D : Int) - 1 := IntWalk.i64_in _ (by omega)
  have hd0 : decide ((D : Int) ≤ 0) = false := by rw [decide_eq_false_iff_not]; omega
  obtain ⟨y, hy2⟩ : ∃ y, PG.nx L (i + 1) 9 = y := ⟨_, rfl⟩
  have hy2l : y < 9 := hy2 ▸ PG.nx_lt _ _ (by decide)
  have N2 := Lib.hid (fun V (h : ExG W V lo b L (i + 1)) => gpc h (by omega) (TY.bNames.map Value.string).toArray 9 9 y 9 (fun j => .string (TY.pick TY.bNames j)) (by decide) (by decide) rfl hy2 (fun j hj => by
      match j, hj with
      | 0, _ => rfl
      | 1, _ => rfl
      | 2, _ => rfl
      | 3, _ => rfl
      | 4, _ => rfl
      | 5, _ => rfl
      | 6, _ => rfl
      | 7, _ => rfl
      | 8, _ => rfl))
  obtain ⟨z, hzz⟩ : ∃ z, TY.pick TY.bNames y = z := ⟨_, rfl⟩
  have hz : z.size ≤ 1000 := hzz ▸ pick_small (by decide) _
  simp only [hzz] at N2
  have hG : (PG.gI L subT 5 (i + 1)) = (.mk 15 0 z [], i + 1 + 1) := by
    unfold PG.gI
    simp [hy2, hzz]
  rw [hG]
  clear hG hy2 hzz hk
  go_enter Tryz.func66, Tryz.ntmps66
  go_wp2_with (first
    | (rw [HW0.out]; go_at_call 17; refine N1.out.mono ?_; clear N1; rintro r w1 ⟨rfl, X1, C1⟩; replace X1 := Lib.hid X1; clear C1)
    | (go_at_call 87; refine (Builtins_any _).mono ?_; rintro r wb ⟨rfl, rfl⟩)
    | (go_at_call 17; refine (N2.out _ X1.out).mono ?_; clear N2; rintro r w2 ⟨rfl, X2, qc2, C2⟩; replace X2 := Lib.hid X2; clear C2; obtain ⟨p0, p1, p2, p3, o0, o1, o2, o3⟩ := X2.out.cells))
  obtain ⟨U, hU⟩ : ∃ U, (((w2.setCell ⟨W.heap.size, 0, none⟩ (.int .i64 15)).setCell ⟨W.heap.size, 1, none⟩ (.int .i64 0)).setCell ⟨W.heap.size, 2, none⟩ (.string z)).setCell ⟨W.heap.size, 3, none⟩ (.slice none 0 0) = U := ⟨_, rfl⟩
  rw [hU]
  obtain ⟨f1, f2, f3, f4⟩ := X2.out.fin 15 0 z (.slice none 0 0) (Nw.leaf _ _ _ _ _ hz) hU
  refine bodyPost_ret (ret_N rfl _ rfl f1) rfl ?_
  exact ⟨_, rfl, f2, f3, by omega, f4⟩

set_option maxRecDepth 100000 in
set_option maxHeartbeats 40000000 in
theorem inM_6 (L : List Int) (D : Nat) (hD : 1 ≤ D) (hD2 : D ≤ 100) (e : Nat) (subT : PG.Gen) (hsub : GAt 66 L [(D : Int) - 1] subT e) (W : World) (lo b i : Nat) (hs : GenV W lo b L i) (hi : i + (3 + 2 * e) ≤ 1000000000) (hk : PG.nx L i 12 = 6) :
    Calls Tryz.prog 66 #[.pointer (some ⟨b, 0, none⟩), .int .i64 (D : Int)] W fun r w' => ∃ v, r = .returned v ∧ Nw W.heap.size w' (PG.gI L subT 6 (i + 1)).1 v ∧ GenV w' lo b L (PG.gI L subT 6 (i + 1)).2 ∧ (PG.gI L subT 6 (i + 1)).2 ≤ i + (3 + 2 * e) ∧ Chg (· = b) W w' := by
  obtain ⟨W0, hW0⟩ : ∃ U, W.alloc (.cells #[.int .i64 0, .int .i64 0, .string ⟨#[]⟩, .slice none 0 0] 33) = U := ⟨_, rfl⟩
  have X0 : ExG W W0 lo b L i := hW0 ▸ ExG.begin hs
  have N1 := Lib.hid (gpk X0 (by omega) 12 6 12 (by decide) (by decide) rfl hk)
  have HW0 := Lib.hid hW0
  clear hs hW0 X0
  have hwr : IntKind.i64.wrap ((D : Int) - 1) = (D : Int) - 1 := IntWalk.i64_in _ (by omega)
  have hd0 : decide ((D : Int) ≤ 0) = false := by rw [decide_eq_false_iff_not]; omega
  obtain ⟨⟨t2, j2⟩, h2⟩ : ∃ p, subT (i + 1) = p := ⟨_, rfl⟩
  have N2 := Lib.hid (fun V (h : ExG W V lo b L (i + 1)) => gsb hsub h (by omega) h2)
  have hG : (PG.gI L subT 6 (i + 1)) = (.mk 16 0 TY.eps [t2], j2) := by
    unfold PG.gI PG.one
    simp [h2]
  rw [hG]
  clear hG h2 hsub hk
  go_enter Tryz.func66, Tryz.ntmps66
  go_wp2_with (first
    | (rw [HW0.out]; go_at_call 17; refine N1.out.mono ?_; clear N1; rintro r w1 ⟨rfl, X1, C1⟩; replace X1 := Lib.hid X1; clear C1)
    | (go_at_call 66; refine (N2.out _ X1.out).mono ?_; clear N2; rintro r w2 ⟨k2, n2, s2, A2, m2, c2, rfl, V2, X2, B2, C2⟩; replace X2 := Lib.hid X2; replace V2 := Lib.hid (V2.lower (by have := X1.out.big; omega)); clear C2; obtain ⟨p0, p1, p2, p3, o0, o1, o2, o3⟩ := (X2.out.alloc (.cells #[.int .i64 k2, .int .i64 n2, .string s2, .slice A2 m2 c2] 33)).cells))
  obtain ⟨U, hU⟩ : ∃ U, ((((w2.alloc (.cells #[.int .i64 k2, .int .i64 n2, .string s2, .slice A2 m2 c2] 33)).setCell ⟨W.heap.size, 0, none⟩ (.int .i64 16)).setCell ⟨W.heap.size, 1, none⟩ (.int .i64 0)).setCell ⟨W.heap.size, 2, none⟩ (.string ⟨#[]⟩)).setCell ⟨W.heap.size, 3, none⟩ (.slice (some ⟨w2.heap.size, 0, none⟩) 1 1) = U := ⟨_, rfl⟩
  rw [hU]
  have hbgE := X2.out.big
  obtain ⟨f1, f2, f3, f4⟩ := (X2.out.alloc (.cells #[.int .i64 k2, .int .i64 n2, .string s2, .slice A2 m2 c2] 33)).fin 16 0 ⟨#[]⟩ (.slice (some ⟨w2.heap.size, 0, none⟩) 1 1) (Nw.mk1 hbgE (by decide) V2.out) hU
  refine bodyPost_ret (ret_N rfl _ rfl f1) rfl ?_
  exact ⟨_, rfl, f2, f3, by omega, f4⟩

set_option maxRecDepth 100000 in
set_option maxHeartbeats 40000000 in
theorem inM_7 (L : List Int) (D : Nat) (hD : 1 ≤ D) (hD2 : D ≤ 100) (e : Nat) (subT : PG.Gen) (hsub : GAt 66 L [(D : Int) - 1] subT e) (W : World) (lo b i : Nat) (hs : GenV W lo b L i) (hi : i + (3 + 2 * e) ≤ 1000000000) (hk : PG.nx L i 12 = 7) :
    Calls Tryz.prog 66 #[.pointer (some ⟨b, 0, none⟩), .int .i64 (D : Int)] W fun r w' => ∃ v, r = .returned v ∧ Nw W.heap.size w' (PG.gI L subT 7 (i + 1)).1 v ∧ GenV w' lo b L (PG.gI L subT 7 (i + 1)).2 ∧ (PG.gI L subT 7 (i + 1)).2 ≤ i + (3 + 2 * e) ∧ Chg (· = b) W w' := by
  obtain ⟨W0, hW0⟩ : ∃ U, W.alloc (.cells #[.int .i64 0, .int .i64 0, .string ⟨#[]⟩, .slice none 0 0] 33) = U := ⟨_, rfl⟩
  have X0 : ExG W W0 lo b L i := hW0 ▸ ExG.begin hs
  have N1 := Lib.hid (gpk X0 (by omega) 12 7 12 (by decide) (by decide) rfl hk)
  have HW0 := Lib.hid hW0
  clear hs hW0 X0
  have hwr : IntKind.i64.wrap ((D : Int) - 1) = (D : Int) - 1 := IntWalk.i64_in _ (by omega)
  have hd0 : decide ((D : Int) ≤ 0) = false := by rw [decide_eq_false_iff_not]; omega
  obtain ⟨⟨t2, j2⟩, h2⟩ : ∃ p, subT (i + 1) = p := ⟨_, rfl⟩
  have N2 := Lib.hid (fun V (h : ExG W V lo b L (i + 1)) => gsb hsub h (by omega) h2)
  have hG : (PG.gI L subT 7 (i + 1)) = (.mk 17 0 TY.sMinus [t2], j2) := by
    unfold PG.gI PG.one
    simp [h2]
  rw [hG]
  clear hG h2 hsub hk
  go_enter Tryz.func66, Tryz.ntmps66
  go_wp2_with (first
    | (rw [HW0.out]; go_at_call 17; refine N1.out.mono ?_; clear N1; rintro r w1 ⟨rfl, X1, C1⟩; replace X1 := Lib.hid X1; clear C1)
    | (go_at_call 66; refine (N2.out _ X1.out).mono ?_; clear N2; rintro r w2 ⟨k2, n2, s2, A2, m2, c2, rfl, V2, X2, B2, C2⟩; replace X2 := Lib.hid X2; replace V2 := Lib.hid (V2.lower (by have := X1.out.big; omega)); clear C2; obtain ⟨p0, p1, p2, p3, o0, o1, o2, o3⟩ := (X2.out.alloc (.cells #[.int .i64 k2, .int .i64 n2, .string s2, .slice A2 m2 c2] 33)).cells))
  obtain ⟨U, hU⟩ : ∃ U, ((((w2.alloc (.cells #[.int .i64 k2, .int .i64 n2, .string s2, .slice A2 m2 c2] 33)).setCell ⟨W.heap.size, 0, none⟩ (.int .i64 17)).setCell ⟨W.heap.size, 1, none⟩ (.int .i64 0)).setCell ⟨W.heap.size, 2, none⟩ (.string ⟨#[45]⟩)).setCell ⟨W.heap.size, 3, none⟩ (.slice (some ⟨w2.heap.size, 0, none⟩) 1 1) = U := ⟨_, rfl⟩
  rw [hU]
  have hbgE := X2.out.big
  obtain ⟨f1, f2, f3, f4⟩ := (X2.out.alloc (.cells #[.int .i64 k2, .int .i64 n2, .string s2, .slice A2 m2 c2] 33)).fin 17 0 ⟨#[45]⟩ (.slice (some ⟨w2.heap.size, 0, none⟩) 1 1) (Nw.mk1 hbgE (by decide) V2.out) hU
  refine bodyPost_ret (ret_N rfl _ rfl f1) rfl ?_
  exact ⟨_, rfl, f2, f3, by omega, f4⟩

set_option maxRecDepth 100000 in
set_option maxHeartbeats 40000000 in
theorem inM_8 (L : List Int) (D : Nat) (hD : 1 ≤ D) (hD2 : D ≤ 100) (e : Nat) (subT : PG.Gen) (hsub : GAt 66 L [(D : Int) - 1] subT e) (W : World) (lo b i : Nat) (hs : GenV W lo b L i) (hi : i + (3 + 2 * e) ≤ 1000000000) (n0 : Nat) (hk : PG.nx L i 12 = n0) (hlo : 8 ≤ n0) (hhi : n0 < 12) :
    Calls Tryz.prog 66 #[.pointer (some ⟨b, 0, none⟩), .int .i64 (D : Int)] W fun r w' => ∃ v, r = .returned v ∧ Nw W.heap.size w' (PG.gI L subT n0 (i + 1)).1 v ∧ GenV w' lo b L (PG.gI L subT n0 (i + 1)).2 ∧ (PG.gI L subT n0 (i + 1)).2 ≤ i + (3 + 2 * e) ∧ Chg (· = b) W w' := by
  obtain ⟨W0, hW0⟩ : ∃ U, W.alloc (.cells #[.int .i64 0, .int .i64 0, .string ⟨#[]⟩, .slice none 0 0] 33) = U := ⟨_, rfl⟩
  have X0 : ExG W W0 lo b L i := hW0 ▸ ExG.begin hs
  have N1 := Lib.hid (gpk X0 (by omega) 12 n0 12 (by decide) (by decide) rfl hk)
  have HW0 := Lib.hid hW0
  clear hs hW0 X0
  have hwr : IntKind.i64.wrap ((D : Int) - 1) = (D : Int) - 1 := IntWalk.i64_in _ (by omega)
  have hd0 : decide ((D : Int) ≤ 0) = false := by rw [decide_eq_false_iff_not]; omega
  have e0 : ((n0 : Int) == 0) = false := by simp; omega
  have e1 : ((n0 : Int) == 1) = false := by simp; omega
  have e2 : ((n0 : Int) == 2) = false := by simp; omega
  have e3 : ((n0 : Int) == 3) = false := by simp; omega
  have e4 : ((n0 : Int) == 4) = false := by simp; omega
  have e5 : ((n0 : Int) == 5) = false := by simp; omega
  have e6 : ((n0 : Int) == 6) = false := by simp; omega
  have e7 : ((n0 : Int) == 7) = false := by simp; omega
  obtain ⟨y, hy2⟩ : ∃ y, PG.nx L (i + 1) 4 = y := ⟨_, rfl⟩
  have hy2l : y < 4 := hy2 ▸ PG.nx_lt _ _ (by decide)
  have N2 := Lib.hid (fun V (h : ExG W V lo b L (i + 1)) => gpc h (by omega) #[.string TY.sPlus, .string TY.sMinus, .string TY.sMul, .string TY.sDiv] 9 4 y 4 (fun j => .string (TY.pick TY.arith j)) (by decide) (by decide) rfl hy2 (fun j hj => by
      match j, hj with
      | 0, _ => rfl
      | 1, _ => rfl
      | 2, _ => rfl
      | 3, _ => rfl))
  obtain ⟨z, hzz⟩ : ∃ z, TY.pick TY.arith y = z := ⟨_, rfl⟩
  have hz : z.size ≤ 1000 := hzz ▸ pick_small (by decide) _
  simp only [hzz] at N2
  obtain ⟨⟨t3, j3⟩, h3⟩ : ∃ p, subT (i + 1 + 1) = p := ⟨_, rfl⟩
  have N3 := Lib.hid (fun V (h : ExG W V lo b L (i + 1 + 1)) => gsb hsub h (by omega) h3)
  obtain ⟨⟨t4, j4⟩, h4⟩ : ∃ p, subT (j3) = p := ⟨_, rfl⟩
  have N4 := Lib.hid (fun V (h : ExG W V lo b L (j3)) (_ : j3 ≤ i + 1 + 1 + e) => gsb hsub h (by omega) h4)
  have hG : (PG.gI L subT n0 (i + 1)) = (.mk 18 0 z [t3, t4], j4) := by
    unfold PG.gI PG.two
    rw [if_neg (by omega), if_neg (by omega), if_neg (by omega), if_neg (by omega), if_neg (by omega)]
    simp [hy2, hzz, h3, h4]
  rw [hG]
  clear hG hy2 hzz h3 h4 hsub hk
  go_enter Tryz.func66, Tryz.ntmps66
  go_wp2_with (first
    | (rw [HW0.out]; go_at_call 17; refine N1.out.mono ?_; clear N1; rintro r w1 ⟨rfl, X1, C1⟩; replace X1 := Lib.hid X1; clear C1)
    | (go_at_call 17; refine (N2.out _ X1.out).mono ?_; clear N2; rintro r w2 ⟨rfl, X2, qc2, C2⟩; replace X2 := Lib.hid X2; clear C2)
    | (go_at_call 66; refine (N3.out _ X2.out).mono ?_; clear N3; rintro r w3 ⟨k3, n3, s3, A3, m3, c3, rfl, V3, X3, B3, C3⟩; replace X3 := Lib.hid X3; replace V3 := Lib.hid (V3.lower (by have := X2.out.big; omega)); clear C3; have gx3 : b < w3.heap.size := by have h1 := X3.out.lt; have h2 := X3.out.big; omega))
  have hblt := X3.out.lt
  have hbgL := X3.out.big
  have hbx3 := World.alloc_heap_new w3 (.cells #[.int .i64 k3, .int .i64 n3, .string s3, .slice A3 m3 c3] 33)
  have XR := Lib.hid (X3.out.alloc (.cells #[.int .i64 k3, .int .i64 n3, .string s3, .slice A3 m3 c3] 33))
  have DR := Lib.hid (show Chg (· = b) w3 (w3.alloc (.cells #[.int .i64 k3, .int .i64 n3, .string s3, .slice A3 m3 c3] 33)) from (Chg.refl (· = b) w3).alloc _)
  have zR : (w3.alloc (.cells #[.int .i64 k3, .int .i64 n3, .string s3, .slice A3 m3 c3] 33)).heap.size = w3.heap.size + 1 := World.size_alloc _ _
  replace V3 := Lib.hid (V3.out.keep (fun c h1 h2 => DR.out.block c h2 (by omega)) DR.out.size)
  obtain ⟨R0, hR0⟩ : ∃ U, (w3.alloc (.cells #[.int .i64 k3, .int .i64 n3, .string s3, .slice A3 m3 c3] 33)) = U := ⟨_, rfl⟩
  rw [hR0] at hbx3 XR zR V3 ⊢
  obtain ⟨ya3, yb3, yc3, yd3⟩ := box_cellsG hbx3
  have HB3 := Lib.hid hbx3
  have XD := Lib.hid (XR.out.step (XR.out.src.chg ((Chg.refl (fun _ => False) R0).drew) (fun e => e) (fun _ e => e.elim)) ((Chg.refl (· = b) R0).drew))
  clear hR0 DR hbx3
  go_region_law
    (first
      | (go_simp; go_at_call 66; refine (N4.out _ XD.out B3).mono ?_; clear N4; rintro r w4 ⟨k4, n4, s4, A4, m4, c4, rfl, V4, X4, B4, C4⟩
         replace C4 := Lib.hid (show Chg (· = b) R0 w4 from ((Chg.refl (· = b) R0).drew).trans C4 (fun _ _ e => e))
         replace X4 := Lib.hid X4
         replace V4 := Lib.hid (show Nw (W.heap.size + 1) w4 t4 (ndv k4 n4 s4 (.slice A4 m4 c4)) from V4.lower (show W.heap.size + 1 ≤ R0.heap.size by omega))
         obtain ⟨za3, zb3, zc3, zd3⟩ := box_cellsG ((C4.out.block _ (heap_lt HB3.out) (by have := gx3; omega)).trans HB3.out)
         obtain ⟨p0, p1, p2, p3, o0, o1, o2, o3⟩ := (X4.out.alloc (.cells #[.int .i64 k3, .int .i64 n3, .string s3, .slice A3 m3 c3, .int .i64 k4, .int .i64 n4, .string s4, .slice A4 m4 c4] 33)).cells))
  all_goals
    go_wp2_with fail
    obtain ⟨U, hU⟩ : ∃ U, ((((w4.alloc (.cells #[.int .i64 k3, .int .i64 n3, .string s3, .slice A3 m3 c3, .int .i64 k4, .int .i64 n4, .string s4, .slice A4 m4 c4] 33)).setCell ⟨W.heap.size, 0, none⟩ (.int .i64 18)).setCell ⟨W.heap.size, 1, none⟩ (.int .i64 0)).setCell ⟨W.heap.size, 2, none⟩ (.string z)).setCell ⟨W.heap.size, 3, none⟩ (.slice (some ⟨w4.heap.size, 0, none⟩) 2 2) = U := ⟨_, rfl⟩
    rw [hU]
    have hbgE := X4.out.big
    obtain ⟨f1, f2, f3, f4⟩ := (X4.out.alloc (.cells #[.int .i64 k3, .int .i64 n3, .string s3, .slice A3 m3 c3, .int .i64 k4, .int .i64 n4, .string s4, .slice A4 m4 c4] 33)).fin 18 0 z (.slice (some ⟨w4.heap.size, 0, none⟩) 2 2) (Nw.mk2 hbgE hz (V3.out.keep (fun c h1 h2 => C4.out.block c h2 (by omega)) C4.out.size) V4.out) hU
    refine bodyPost_ret (ret_N rfl _ rfl f1) rfl ?_
    exact ⟨_, rfl, f2, f3, by omega, f4⟩

theorem int_leaf (L : List Int) (d : Int) (hd : d ≤ 0) : GAt 66 L [d] (PG.genI L 0) 3 := by
  intro W lo b i hs hi
  show Calls _ _ _ W fun r w' => ∃ v, r = .returned v ∧ Nw W.heap.size w' (PG.gI L PG.none0 (PG.nx L i 12 % 6) (i + 1)).1 v ∧ GenV w' lo b L (PG.gI L PG.none0 (PG.nx L i 12 % 6) (i + 1)).2 ∧ (PG.gI L PG.none0 (PG.nx L i 12 % 6) (i + 1)).2 ≤ i + 3 ∧ Chg (· = b) W w'
  have h : PG.nx L i 12 % 6 = 0 ∨ PG.nx L i 12 % 6 = 1 ∨ PG.nx L i 12 % 6 = 2 ∨ PG.nx L i 12 % 6 = 3 ∨ PG.nx L i 12 % 6 = 4 ∨ PG.nx L i 12 % 6 = 5 := by omega
  rcases h with h | h | h | h | h | h
  all_goals rw [h]
  · exact inL_0 L d hd W lo b i hs hi _ rfl h
  · exact inL_1 L d hd W lo b i hs hi _ rfl h
  · exact inL_2 L d hd W lo b i hs hi _ rfl h
  · exact inL_3 L d hd W lo b i hs hi _ rfl h
  · exact inL_4 L d hd W lo b i hs hi _ rfl h
  · exact inL_5 L d hd W lo b i hs hi _ rfl h
theorem int_more (L : List Int) (D : Nat) (e : Nat) (sub : PG.Gen) (hD : 1 ≤ D) (hD2 : D ≤ 100) (hsub : GAt 66 L [(D : Int) - 1] sub e) : GAt 66 L [(D : Int)] (fun i => PG.gI L sub (PG.nx L i 12) (i + 1)) (3 + 2 * e) := by
  intro W lo b i hs hi
  have h12 := PG.nx_lt L i (m := 12) (by decide)
  have h : PG.nx L i 12 = 0 ∨ PG.nx L i 12 = 1 ∨ PG.nx L i 12 = 2 ∨ PG.nx L i 12 = 3 ∨ PG.nx L i 12 = 4 ∨ PG.nx L i 12 = 5 ∨ PG.nx L i 12 = 6 ∨ PG.nx L i 12 = 7 ∨ 8 ≤ PG.nx L i 12 := by omega
  rcases h with h | h | h | h | h | h | h | h | h
  · simp only [h]; exact inM_0 L D hD hD2 e sub W lo b i hs hi h
  · simp only [h]; exact inM_1 L D hD hD2 e sub W lo b i hs hi h
  · simp only [h]; exact inM_2 L D hD hD2 e sub W lo b i hs hi h
  · simp only [h]; exact inM_3 L D hD hD2 e sub W lo b i hs hi h
  · simp only [h]; exact inM_4 L D hD hD2 e sub W lo b i hs hi h
  · simp only [h]; exact inM_5 L D hD hD2 e sub W lo b i hs hi h
  · simp only [h]; exact inM_6 L D hD hD2 e sub hsub W lo b i hs hi h
  · simp only [h]; exact inM_7 L D hD hD2 e sub hsub W lo b i hs hi h
  · exact inM_8 L D hD hD2 e sub hsub W lo b i hs hi _ rfl h h12
/-- How many numbers an expression of depth d takes at most. -/
def ei : Nat → Nat
  | 0 => 3
  | d + 1 => 3 + 2 * ei d
theorem int_any (L : List Int) : ∀ d : Nat, d ≤ 100 → GAt 66 L [(d : Int)] (PG.genI L d) (ei d)
  | 0, _ => int_leaf L 0 (by decide)
  | d + 1, h => by
    have hs : GAt 66 L [((d + 1 : Nat) : Int) - 1] (PG.genI L d) (ei d) := by
      rw [show (((d + 1 : Nat) : Int) - 1) = (d : Int) by omega]
      exact int_any L d (by omega)
    exact int_more L (d + 1) (ei d) (PG.genI L d) (by omega) h hs
end Go.Proofs.YtlfpaemfhanpiaaGreatDoor
