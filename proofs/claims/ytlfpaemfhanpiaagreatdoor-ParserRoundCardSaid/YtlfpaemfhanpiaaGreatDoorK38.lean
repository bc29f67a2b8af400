/-
  The reference's generator: statement's if; statement at every depth but the blocks. Written by wip/gen/ref6if.py. Condition: the generator lies in a block of its own.
  The reference's generator: block, given what statement does at that depth. Condition: the generator lies in a block of its own.
-/
import Derived.Test.YtlfpaemfhanpiaaGreatDoorK37
import Derived.Deep.Cut
import Derived.Test.YtlfpaemfhanpiaaGreatDoorK4
import Derived.Deep.RegionLaw

namespace Go.Proofs.YtlfpaemfhanpiaaGreatDoor
open Go Go.RowKit Go.Proofs
attribute [local go_sem] Oper.semAt_some

/-- A box written anew. -/
theorem ExG.boxed {W V : World} {lo b i : Nat} {L : List Int} (h : ExG W V lo b L i) (g : Nat) (hg : W.heap.size + 1 ≤ g) {a0 a1 a2 a3 : Value} (hb : V.heap[g]? = some (.cells #[a0, a1, a2, a3] 33 (0, 0))) (k n : Int) (s : ByteArray) (K : Value) {U : World} (hU : (((V.setCell ⟨g, 0, none⟩ (.int .i64 k)).setCell ⟨g, 1, none⟩ (.int .i64 n)).setCell ⟨g, 2, none⟩ (.string s)).setCell ⟨g, 3, none⟩ K = U) : ExG W U lo b L i ∧ U.heap[g]? = some (.cells #[.int .i64 k, .int .i64 n, .string s, K] 33 (0, 0)) ∧ (∀ c, c ≠ g → U.heap[c]? = V.heap[c]?) ∧ U.heap.size = V.heap.size := by
  subst hU
  have keep : ∀ c, c ≠ g → ((((V.setCell ⟨g, 0, none⟩ (.int .i64 k)).setCell ⟨g, 1, none⟩ (.int .i64 n)).setCell ⟨g, 2, none⟩ (.string s)).setCell ⟨g, 3, none⟩ K).heap[c]? = V.heap[c]? := fun c hc => (Below.heap_setCell _ _ _ _ hc).trans ((Below.heap_setCell _ _ _ _ hc).trans ((Below.heap_setCell _ _ _ _ hc).trans (Below.heap_setCell _ _ _ _ hc)))
  have hc : Chg (· = g) V ((((V.setCell ⟨g, 0, none⟩ (.int .i64 k)).setCell ⟨g, 1, none⟩ (.int .i64 n)).setCell ⟨g, 2, none⟩ (.string s)).setCell ⟨g, 3, none⟩ K) :=
    ((((Chg.refl (· = g) V).setCell (p := ⟨g, 0, none⟩) (fun _ => rfl) _).setCell (p := ⟨g, 1, none⟩) (fun _ => rfl) _).setCell (p := ⟨g, 2, none⟩) (fun _ => rfl) _).setCell (p := ⟨g, 3, none⟩) (fun _ => rfl) _
  have hlt := h.lt
  have hlo : lo ≤ b := h.src.1
  refine ⟨⟨h.src.chg hc (by omega) (fun q e => by omega), (keep _ (by omega)).trans h.box, h.chg.trans hc (fun x hx e => by omega), hlt⟩, ?_, keep, by simp [World.setCell]⟩
  simp only [World.setCell, Array.getElem?_modify]
  simp [hb]

set_option maxRecDepth 100000 in
set_option maxHeartbeats 40000000 in
theorem stM_if0 (L : List Int) (D : Nat) (hD : 1 ≤ D) (hD2 : D ≤ 100) (e : Nat) (subT : PG.Gen) (hsub : GAt 18 L [(D : Int) - 1, 2] subT e) (W : World) (lo b i : Nat) (hs : GenV W lo b L i) (hi : i + (100 + 2 * e) ≤ 1000000000) (n0 : Nat) (hk : PG.nx L i 14 = n0) (hlo : 12 ≤ n0) (hy : ¬ PG.nx L (subT (PG.genB L 2 (i + 1)).2).2 2 = 1) :
    Calls Tryz.prog 36 #[.pointer (some ⟨b, 0, none⟩), .int .i64 (D : Int)] W fun r w' => ∃ v, r = .returned v ∧ Nw W.heap.size w' (PG.gS L subT n0 (i + 1)).1 v ∧ GenV w' lo b L (PG.gS L subT n0 (i + 1)).2 ∧ (PG.gS L subT n0 (i + 1)).2 ≤ i + (100 + 2 * e) ∧ Chg (· = b) W w' := by
  obtain ⟨W0, hW0⟩ : ∃ U, W.alloc (.cells #[.int .i64 0, .int .i64 0, .string ⟨#[]⟩, .slice none 0 0] 33) = U := ⟨_, rfl⟩
  have X0 : ExG W W0 lo b L i := hW0 ▸ ExG.begin hs
  have N1 := Lib.hid (gpk X0 (by omega) 14 n0 14 (by decide) (by decide) rfl hk)
  have HW0 := Lib.hid hW0
  clear hs hW0 X0
  have hwr : IntKind.i64.wrap ((D : Int) - 1) = (D : Int) - 1 := IntWalk.i64_in _ (by omega)
  have hd0 : decide ((D : Int) ≤ 0) = false := by rw [decide_eq_false_iff_not]; omega
  have e0 : ((n0 : Int) == 0) = false := by simp; omega
  have e1 : ((n0 : Int) == 1) = false := by simp; omega
  have e2 : ((n0 : Int) == 2) = false := by simp; omega
  have e3 : ((n0 : Int) == 3) = false := by simp; omega
  have e4 : ((n0 : Int) == 4) = false := by simp; omega
  have e5 : ((n0 : Int) == 5) = false := by simp; omega
  have e6 : ((n0 : Int) == 6) = false := by simp; omega
  have e7 : ((n0 : Int) == 7) = false := by simp; omega
  have e8 : ((n0 : Int) == 8) = false := by simp; omega
  have e9 : ((n0 : Int) == 9) = false := by simp; omega
  have e10 : ((n0 : Int) == 10) = false := by simp; omega
  have e11 : ((n0 : Int) == 11) = false := by simp; omega
  obtain ⟨⟨t2, j2⟩, h2⟩ : ∃ p, PG.genB L 2 (i + 1) = p := ⟨_, rfl⟩
  have N2 := Lib.hid (fun V (h : ExG W V lo b L (i + 1)) => gsb (bo_2 L) h (by omega) h2)
  obtain ⟨⟨t3, j3⟩, h3⟩ : ∃ p, subT j2 = p := ⟨_, rfl⟩
  have N3 := Lib.hid (fun V (h : ExG W V lo b L j2) (_ : j2 ≤ i + 1 + 45) => gsb hsub h (by omega) h3)
  obtain ⟨y, hyy⟩ : ∃ y, PG.nx L j3 2 = y := ⟨_, rfl⟩
  rw [h2] at hy
  have hy : ¬ PG.nx L (subT j2).2 2 = 1 := hy
  rw [h3] at hy
  have hy : ¬ PG.nx L j3 2 = 1 := hy
  have N4 := Lib.hid (fun V (h : ExG W V lo b L j3) (_ : j2 ≤ i + 1 + 45) (_ : j3 ≤ j2 + e) => gpk h (by omega) 2 y 2 (by decide) (by decide) rfl hyy)
  rw [hyy] at hy
  have gy : ((y : Int) == 1) = false := by simp; omega
  have hG : (PG.gS L subT n0 (i + 1)) = (.mk 2 0 TY.eps [t2, t3, .mk 11 0 TY.eps []], j3 + 1) := by
    unfold PG.gS
    rw [if_neg (by omega), if_neg (by omega), if_neg (by omega), if_neg (by omega), if_neg (by omega), if_neg (by omega), if_neg (by omega), if_neg (by omega), if_neg (by omega)]
    simp [h2, h3, hyy, hy]
  rw [hG]
  clear hG h2 h3 hsub hk hy hyy hlo
  go_enter Tryz.func36, Tryz.ntmps36
  go_wp2_with (first
    | (rw [HW0.out]; go_at_call 17; refine N1.out.mono ?_; clear N1; rintro r w1 ⟨rfl, X1, C1⟩; replace X1 := Lib.hid X1; clear C1)
    | (go_at_call 67; refine (N2.out _ X1.out).mono ?_; clear N2; rintro r w2 ⟨k2, n2, s2, A2, m2, c2, rfl, V2, X2, B2, C2⟩; replace X2 := Lib.hid X2; replace V2 := Lib.hid (V2.lower (by have := X1.out.big; omega)); clear C2; have gx2 : b < w2.heap.size := by have h1 := X2.out.lt; have h2 := X2.out.big; omega)
    | (go_at_call 18; refine (N3.out _ (X2.out.alloc _) B2).mono ?_; clear N3; rintro r w3 ⟨k3, n3, s3, A3, m3, c3, rfl, V3, X3, B3, C3⟩; replace X3 := Lib.hid X3; replace V3 := Lib.hid (V3.lower (by have := X2.out.big; show W.heap.size + 1 ≤ (w2.alloc _).heap.size; rw [World.size_alloc]; omega)); have D3 := Lib.hid (show Chg (· = b) w2 w3 from ((Chg.refl (· = b) w2).alloc _).trans C3 (fun _ _ e => e)); have H2 := Lib.hid ((C3.block _ (by rw [World.size_alloc]; omega) (by omega)).trans (World.alloc_heap_new w2 (.cells #[.int .i64 k2, .int .i64 n2, .string s2, .slice A2 m2 c2] 33))); clear C3; have gx3 : b < w3.heap.size := by have h1 := X3.out.lt; have h2 := X3.out.big; omega)
    | (go_at_call 17; refine (N4.out _ ((X3.out.alloc _).alloc _) B2 B3).mono ?_; clear N4; rintro r w4 ⟨rfl, X4, C4⟩; replace X4 := Lib.hid X4; have D4 := Lib.hid (show Chg (· = b) w3 w4 from (((Chg.refl (· = b) w3).alloc _).alloc _).trans C4 (fun _ _ e => e)); have z3 : (w3.alloc (.cells #[.int .i64 k3, .int .i64 n3, .string s3, .slice A3 m3 c3] 33)).heap.size = w3.heap.size + 1 := World.size_alloc _ _; have H3 := Lib.hid ((C4.block _ (by rw [World.size_alloc]; omega) (by omega)).trans ((Below.heap_alloc _ _ _ (by omega)).trans (World.alloc_heap_new w3 (.cells #[.int .i64 k3, .int .i64 n3, .string s3, .slice A3 m3 c3] 33)))); have HO := Lib.hid ((C4.block (w3.heap.size + 1) (by rw [World.size_alloc]; omega) (by omega)).trans (z3 ▸ World.alloc_heap_new (w3.alloc (.cells #[.int .i64 k3, .int .i64 n3, .string s3, .slice A3 m3 c3] 33)) (.cells #[.int .i64 11, .int .i64 0, .string ⟨#[]⟩, .slice none 0 0] 33))); replace H2 := Lib.hid ((D4.out.block _ (heap_lt H2.out) (by omega)).trans H2.out); clear C4; obtain ⟨ya, yb, yc, yd⟩ := box_cellsG H2.out; obtain ⟨za, zb, zc, zd⟩ := box_cellsG H3.out; obtain ⟨xa, xb, xc, xd⟩ := box_cellsG HO.out; obtain ⟨p0, p1, p2, p3, o0, o1, o2, o3⟩ := (X4.out.alloc (.cells #[.int .i64 k2, .int .i64 n2, .string s2, .slice A2 m2 c2, .int .i64 k3, .int .i64 n3, .string s3, .slice A3 m3 c3, .int .i64 11, .int .i64 0, .string ⟨#[]⟩, .slice none 0 0] 33)).cells))
  obtain ⟨U, hU⟩ : ∃ U, ((((w4.alloc (.cells #[.int .i64 k2, .int .i64 n2, .string s2, .slice A2 m2 c2, .int .i64 k3, .int .i64 n3, .string s3, .slice A3 m3 c3, .int .i64 11, .int .i64 0, .string ⟨#[]⟩, .slice none 0 0] 33)).setCell ⟨W.heap.size, 0, none⟩ (.int .i64 2)).setCell ⟨W.heap.size, 1, none⟩ (.int .i64 0)).setCell ⟨W.heap.size, 2, none⟩ (.string ⟨#[]⟩)).setCell ⟨W.heap.size, 3, none⟩ (.slice (some ⟨w4.heap.size, 0, none⟩) 3 3) = U := ⟨_, rfl⟩
  rw [hU]
  have hbg := X4.out.big
  have hz2 := D3.out.size
  have hz3 := D4.out.size
  have V2f := V2.out.keep (w' := w4) (fun c h1 h2 => (D4.out.block c (by omega) (by have := X4.out.lt; omega)).trans (D3.out.block c h2 (by have := X4.out.lt; omega))) (by omega)
  have V3f := V3.out.keep (w' := w4) (fun c h1 h2 => D4.out.block c h2 (by have := X4.out.lt; omega)) (by omega)
  obtain ⟨f1, f2, f3, f4⟩ := (X4.out.alloc (.cells #[.int .i64 k2, .int .i64 n2, .string s2, .slice A2 m2 c2, .int .i64 k3, .int .i64 n3, .string s3, .slice A3 m3 c3, .int .i64 11, .int .i64 0, .string ⟨#[]⟩, .slice none 0 0] 33)).fin 2 0 ⟨#[]⟩ (.slice (some ⟨w4.heap.size, 0, none⟩) 3 3) (Nw.mk3 hbg (by decide) V2f V3f (Nw.leaf _ _ 11 0 ⟨#[]⟩ (by decide))) hU
  refine bodyPost_ret (ret_N rfl _ rfl f1) rfl ?_
  exact ⟨_, rfl, f2, f3, by omega, f4⟩

set_option maxRecDepth 100000 in
set_option maxHeartbeats 40000000 in
theorem stM_if1 (L : List Int) (D : Nat) (hD : 1 ≤ D) (hD2 : D ≤ 100) (e : Nat) (subT : PG.Gen) (hsub : GAt 18 L [(D : Int) - 1, 2] subT e) (W : World) (lo b i : Nat) (hs : GenV W lo b L i) (hi : i + (100 + 2 * e) ≤ 1000000000) (n0 : Nat) (hk : PG.nx L i 14 = n0) (hlo : 12 ≤ n0) (hy : PG.nx L (subT (PG.genB L 2 (i + 1)).2).2 2 = 1) :
    Calls Tryz.prog 36 #[.pointer (some ⟨b, 0, none⟩), .int .i64 (D : Int)] W fun r w' => ∃ v, r = .returned v ∧ Nw W.heap.size w' (PG.gS L subT n0 (i + 1)).1 v ∧ GenV w' lo b L (PG.gS L subT n0 (i + 1)).2 ∧ (PG.gS L subT n0 (i + 1)).2 ≤ i + (100 + 2 * e) ∧ Chg (· = b) W w' := by
  obtain ⟨W0, hW0⟩ : ∃ U, W.alloc (.cells #[.int .i64 0, .int .i64 0, .string ⟨#[]⟩, .slice none 0 0] 33) = U := ⟨_, rfl⟩
  have X0 : ExG W W0 lo b L i := hW0 ▸ ExG.begin hs
  have N1 := Lib.hid (gpk X0 (by omega) 14 n0 14 (by decide) (by decide) rfl hk)
  have HW0 := Lib.hid hW0
  clear hs hW0 X0
  have hwr : IntKind.i64.wrap ((D : Int) - 1) = (D : Int) - 1 := IntWalk.i64_in _ (by omega)
  have hd0 : decide ((D : Int) ≤ 0) = false := by rw [decide_eq_false_iff_not]; omega
  have e0 : ((n0 : Int) == 0) = false := by simp; omega
  have e1 : ((n0 : Int) == 1) = false := by simp; omega
  have e2 : ((n0 : Int) == 2) = false := by simp; omega
  have e3 : ((n0 : Int) == 3) = false := by simp; omega
  have e4 : ((n0 : Int) == 4) = false := by simp; omega
  have e5 : ((n0 : Int) == 5) = false := by simp; omega
  have e6 : ((n0 : Int) == 6) = false := by simp; omega
  have e7 : ((n0 : Int) == 7) = false := by simp; omega
  have e8 : ((n0 : Int) == 8) = false := by simp; omega
  have e9 : ((n0 : Int) == 9) = false := by simp; omega
  have e10 : ((n0 : Int) == 10) = false := by simp; omega
  have e11 : ((n0 : Int) == 11) = false := by simp; omega
  obtain ⟨⟨t2, j2⟩, h2⟩ : ∃ p, PG.genB L 2 (i + 1) = p := ⟨_, rfl⟩
  have N2 := Lib.hid (fun V (h : ExG W V lo b L (i + 1)) => gsb (bo_2 L) h (by omega) h2)
  obtain ⟨⟨t3, j3⟩, h3⟩ : ∃ p, subT j2 = p := ⟨_, rfl⟩
  have N3 := Lib.hid (fun V (h : ExG W V lo b L j2) (_ : j2 ≤ i + 1 + 45) => gsb hsub h (by omega) h3)
  obtain ⟨y, hyy⟩ : ∃ y, PG.nx L j3 2 = y := ⟨_, rfl⟩
  rw [h2] at hy
  have hy : PG.nx L (subT j2).2 2 = 1 := hy
  rw [h3] at hy
  have hy : PG.nx L j3 2 = 1 := hy
  have N4 := Lib.hid (fun V (h : ExG W V lo b L j3) (_ : j2 ≤ i + 1 + 45) (_ : j3 ≤ j2 + e) => gpk h (by omega) 2 y 2 (by decide) (by decide) rfl hyy)
  rw [hyy] at hy
  have gy : ((y : Int) == 1) = true := by simp; omega
  obtain ⟨⟨t5, j5⟩, h5⟩ : ∃ p, subT (j3 + 1) = p := ⟨_, rfl⟩
  have N5 := Lib.hid (fun V (h : ExG W V lo b L (j3 + 1)) (_ : j2 ≤ i + 1 + 45) (_ : j3 ≤ j2 + e) => gsb hsub h (by omega) h5)
  have hG : (PG.gS L subT n0 (i + 1)) = (.mk 2 0 TY.eps [t2, t3, t5], j5) := by
    unfold PG.gS
    rw [if_neg (by omega), if_neg (by omega), if_neg (by omega), if_neg (by omega), if_neg (by omega), if_neg (by omega), if_neg (by omega), if_neg (by omega), if_neg (by omega)]
    simp [h2, h3, hyy, hy, h5]
  rw [hG]
  clear hG h2 h3 hsub hk hy hyy hlo h5
  go_enter Tryz.func36, Tryz.ntmps36
  go_wp2_with (first
    | (rw [HW0.out]; go_at_call 17; refine N1.out.mono ?_; clear N1; rintro r w1 ⟨rfl, X1, C1⟩; replace X1 := Lib.hid X1; clear C1)
    | (go_at_call 67; refine (N2.out _ X1.out).mono ?_; clear N2; rintro r w2 ⟨k2, n2, s2, A2, m2, c2, rfl, V2, X2, B2, C2⟩; replace X2 := Lib.hid X2; replace V2 := Lib.hid (V2.lower (by have := X1.out.big; omega)); clear C2; have gx2 : b < w2.heap.size := by have h1 := X2.out.lt; have h2 := X2.out.big; omega)
    | (go_at_call 18; refine (N3.out _ (X2.out.alloc _) B2).mono ?_; clear N3; rintro r w3 ⟨k3, n3, s3, A3, m3, c3, rfl, V3, X3, B3, C3⟩; replace X3 := Lib.hid X3; replace V3 := Lib.hid (V3.lower (by have := X2.out.big; show W.heap.size + 1 ≤ (w2.alloc _).heap.size; rw [World.size_alloc]; omega)); have D3 := Lib.hid (show Chg (· = b) w2 w3 from ((Chg.refl (· = b) w2).alloc _).trans C3 (fun _ _ e => e)); have H2 := Lib.hid ((C3.block _ (by rw [World.size_alloc]; omega) (by omega)).trans (World.alloc_heap_new w2 (.cells #[.int .i64 k2, .int .i64 n2, .string s2, .slice A2 m2 c2] 33))); clear C3; have gx3 : b < w3.heap.size := by have h1 := X3.out.lt; have h2 := X3.out.big; omega)
    | (go_at_call 17; refine (N4.out _ ((X3.out.alloc _).alloc _) B2 B3).mono ?_; clear N4; rintro r w4 ⟨rfl, X4, C4⟩; replace X4 := Lib.hid X4; have D4 := Lib.hid (show Chg (· = b) w3 w4 from (((Chg.refl (· = b) w3).alloc _).alloc _).trans C4 (fun _ _ e => e)); have z3 : (w3.alloc (.cells #[.int .i64 k3, .int .i64 n3, .string s3, .slice A3 m3 c3] 33)).heap.size = w3.heap.size + 1 := World.size_alloc _ _; have H3 := Lib.hid ((C4.block _ (by rw [World.size_alloc]; omega) (by omega)).trans ((Below.heap_alloc _ _ _ (by omega)).trans (World.alloc_heap_new w3 (.cells #[.int .i64 k3, .int .i64 n3, .string s3, .slice A3 m3 c3] 33)))); have HO := Lib.hid ((C4.block (w3.heap.size + 1) (by rw [World.size_alloc]; omega) (by omega)).trans (z3 ▸ World.alloc_heap_new (w3.alloc (.cells #[.int .i64 k3, .int .i64 n3, .string s3, .slice A3 m3 c3] 33)) (.cells #[.int .i64 11, .int .i64 0, .string ⟨#[]⟩, .slice none 0 0] 33))); replace H2 := Lib.hid ((D4.out.block _ (heap_lt H2.out) (by omega)).trans H2.out); clear C4))
  refine (N5.out _ X4.out B2 B3).mono ?_
  clear N5
  rintro r w5 ⟨k5, n5, s5, A5, m5, c5, rfl, V5, X5, B5, C5⟩
  have hz2 := D3.out.size
  have hz3 := D4.out.size
  have hz5 := C5.size
  have hblt := X4.out.lt
  have hbg4 := X4.out.big
  have hbg3 := X3.out.big
  have hbg2 := X2.out.big
  have h2 := (C5.block _ (heap_lt H2.out) (by omega)).trans H2.out
  have h3 := (C5.block _ (heap_lt H3.out) (by omega)).trans H3.out
  have hO := (C5.block _ (heap_lt HO.out) (by omega)).trans HO.out
  have hOl := heap_lt HO.out
  obtain ⟨xa, xb, xc, xd⟩ := box_cellsG hO
  obtain ⟨fa, fb, fc, fd⟩ := box_frozen hO
  obtain ⟨U6, hU6⟩ : ∃ U, (((w5.setCell ⟨w3.heap.size + 1, 0, none⟩ (.int .i64 k5)).setCell ⟨w3.heap.size + 1, 1, none⟩ (.int .i64 n5)).setCell ⟨w3.heap.size + 1, 2, none⟩ (.string s5)).setCell ⟨w3.heap.size + 1, 3, none⟩ (.slice A5 m5 c5) = U := ⟨_, rfl⟩
  obtain ⟨X6, hO6, k6, z6⟩ := X5.boxed (w3.heap.size + 1) (by omega) hO k5 n5 s5 (.slice A5 m5 c5) hU6
  have V2f := Lib.hid (V2.out.keep (w' := U6) (fun c h1 h2 => (k6 c (by omega)).trans ((C5.block c (by omega) (by omega)).trans ((D4.out.block c (by omega) (by omega)).trans (D3.out.block c h2 (by omega))))) (by omega))
  have V3f := Lib.hid (V3.out.keep (w' := U6) (fun c h1 h2 => (k6 c (by omega)).trans ((C5.block c (by omega) (by omega)).trans (D4.out.block c h2 (by omega)))) (by omega))
  have V5f := Lib.hid ((V5.keep (w' := U6) (fun c h1 h2 => k6 c (by omega)) (by omega)).lower (show W.heap.size + 1 ≤ w4.heap.size by omega))
  obtain ⟨ya, yb, yc, yd⟩ := box_cellsG ((k6 _ (by omega)).trans h2)
  obtain ⟨za, zb, zc, zd⟩ := box_cellsG ((k6 _ (by omega)).trans h3)
  obtain ⟨ta, tb, tc, td⟩ := box_cellsG hO6
  obtain ⟨p0, p1, p2, p3, o0, o1, o2, o3⟩ := (X6.alloc (.cells #[.int .i64 k2, .int .i64 n2, .string s2, .slice A2 m2 c2, .int .i64 k3, .int .i64 n3, .string s3, .slice A3 m3 c3, .int .i64 k5, .int .i64 n5, .string s5, .slice A5 m5 c5] 33)).cells
  have X6 := Lib.hid X6
  have HU6 := Lib.hid hU6
  clear V5 X5 C5 h2 h3 hO hO6 k6 D3 D4 V2 V3 hU6 z6
  go_upto_region 38 with fail
  rw [HU6.out]
  clear xa xb xc xd fa fb fc fd HU6
  go_wp2_with fail
  obtain ⟨U, hU⟩ : ∃ U, ((((U6.alloc (.cells #[.int .i64 k2, .int .i64 n2, .string s2, .slice A2 m2 c2, .int .i64 k3, .int .i64 n3, .string s3, .slice A3 m3 c3, .int .i64 k5, .int .i64 n5, .string s5, .slice A5 m5 c5] 33)).setCell ⟨W.heap.size, 0, none⟩ (.int .i64 2)).setCell ⟨W.heap.size, 1, none⟩ (.int .i64 0)).setCell ⟨W.heap.size, 2, none⟩ (.string ⟨#[]⟩)).setCell ⟨W.heap.size, 3, none⟩ (.slice (some ⟨U6.heap.size, 0, none⟩) 3 3) = U := ⟨_, rfl⟩
  rw [hU]
  have hbg := X6.out.big
  obtain ⟨f1, f2, f3, f4⟩ := (X6.out.alloc (.cells #[.int .i64 k2, .int .i64 n2, .string s2, .slice A2 m2 c2, .int .i64 k3, .int .i64 n3, .string s3, .slice A3 m3 c3, .int .i64 k5, .int .i64 n5, .string s5, .slice A5 m5 c5] 33)).fin 2 0 ⟨#[]⟩ (.slice (some ⟨U6.heap.size, 0, none⟩) 3 3) (Nw.mk3 hbg (by decide) V2f.out V3f.out V5f.out) hU
  refine bodyPost_ret (ret_N rfl _ rfl f1) rfl ?_
  exact ⟨_, rfl, f2, f3, by omega, f4⟩

theorem st_leaf (L : List Int) (d : Int) (hd : d ≤ 0) : GAt 36 L [d] (PG.genS L 0) 100 := by
  intro W lo b i hs hi
  show Calls _ _ _ W fun r w' => ∃ v, r = .returned v ∧ Nw W.heap.size w' (PG.gS L PG.noneB (PG.nx L i 14 % 11) (i + 1)).1 v ∧ GenV w' lo b L (PG.gS L PG.noneB (PG.nx L i 14 % 11) (i + 1)).2 ∧ (PG.gS L PG.noneB (PG.nx L i 14 % 11) (i + 1)).2 ≤ i + 100 ∧ Chg (· = b) W w'
  have h : PG.nx L i 14 % 11 = 0 ∨ PG.nx L i 14 % 11 = 1 ∨ PG.nx L i 14 % 11 = 2 ∨ PG.nx L i 14 % 11 = 3 ∨ PG.nx L i 14 % 11 = 4 ∨ PG.nx L i 14 % 11 = 5 ∨ PG.nx L i 14 % 11 = 6 ∨ PG.nx L i 14 % 11 = 7 ∨ PG.nx L i 14 % 11 = 8 ∨ PG.nx L i 14 % 11 = 9 ∨ PG.nx L i 14 % 11 = 10 := by omega
  rcases h with h | h | h | h | h | h | h | h | h | h | h
  all_goals rw [h]
  · exact stL_0 L d hd W lo b i hs hi _ rfl h
  · exact stL_1 L d hd W lo b i hs hi _ rfl h
  · exact stL_2 L d hd W lo b i hs hi _ rfl h
  · exact stL_3 L d hd W lo b i hs hi _ rfl h
  · exact stL_4 L d hd W lo b i hs hi _ rfl h
  · exact stL_5 L d hd W lo b i hs hi _ rfl h
  · exact stL_6 L d hd W lo b i hs hi _ rfl h
  · exact stL_7 L d hd W lo b i hs hi _ rfl h
  · exact stL_8 L d hd W lo b i hs hi _ rfl h
  · exact stL_9 L d hd W lo b i hs hi _ rfl h
  · by_cases h3 : 0 < PG.nx L (i + 1) 3
    · exact stL_10a L d hd W lo b i hs hi _ rfl h h3
    · exact stL_10b L d hd W lo b i hs hi _ rfl h h3
theorem st_more (L : List Int) (D : Nat) (e : Nat) (sub : PG.Gen) (hD : 1 ≤ D) (hD2 : D ≤ 100) (hsub : GAt 18 L [(D : Int) - 1, 2] sub e) : GAt 36 L [(D : Int)] (fun i => PG.gS L sub (PG.nx L i 14) (i + 1)) (100 + 2 * e) := by
  intro W lo b i hs hi
  have h14 := PG.nx_lt L i (m := 14) (by decide)
  have h : PG.nx L i 14 = 0 ∨ PG.nx L i 14 = 1 ∨ PG.nx L i 14 = 2 ∨ PG.nx L i 14 = 3 ∨ PG.nx L i 14 = 4 ∨ PG.nx L i 14 = 5 ∨ PG.nx L i 14 = 6 ∨ PG.nx L i 14 = 7 ∨ PG.nx L i 14 = 8 ∨ PG.nx L i 14 = 9 ∨ PG.nx L i 14 = 10 ∨ PG.nx L i 14 = 11 ∨ 12 ≤ PG.nx L i 14 := by omega
  rcases h with h | h | h | h | h | h | h | h | h | h | h | h | h
  · simp only [h]; exact stM_0 L D hD hD2 e sub W lo b i hs hi h
  · simp only [h]; exact stM_1 L D hD hD2 e sub W lo b i hs hi h
  · simp only [h]; exact stM_2 L D hD hD2 e sub W lo b i hs hi h
  · simp only [h]; exact stM_3 L D hD hD2 e sub W lo b i hs hi h
  · simp only [h]; exact stM_4 L D hD hD2 e sub W lo b i hs hi h
  · simp only [h]; exact stM_5 L D hD hD2 e sub W lo b i hs hi h
  · simp only [h]; exact stM_6 L D hD hD2 e sub W lo b i hs hi h
  · simp only [h]; exact stM_7 L D hD hD2 e sub W lo b i hs hi h
  · simp only [h]; exact stM_8 L D hD hD2 e sub W lo b i hs hi h
  · simp only [h]; exact stM_9 L D hD hD2 e sub W lo b i hs hi h
  · simp only [h]
    by_cases h3 : 0 < PG.nx L (i + 1) 3
    · exact stM_10a L D hD hD2 e sub W lo b i hs hi h h3
    · exact stM_10b L D hD hD2 e sub W lo b i hs hi h h3
  · simp only [h]; exact stM_11 L D hD hD2 e sub hsub W lo b i hs hi h
  · by_cases hy : PG.nx L (sub (PG.genB L 2 (i + 1)).2).2 2 = 1
    · exact stM_if1 L D hD hD2 e sub hsub W lo b i hs hi _ rfl h hy
    · exact stM_if0 L D hD hD2 e sub hsub W lo b i hs hi _ rfl h hy
end Go.Proofs.YtlfpaemfhanpiaaGreatDoor

namespace Go.Proofs.YtlfpaemfhanpiaaGreatDoor
open Go Go.RowKit Go.Proofs
attribute [local go_sem] Oper.semAt_some

theorem info_nodG : (Tryz.prog.info? 33).map (fun i => (i.zero, i.size, i.bytes)) = some (some (.agg #[.int .i64 0, .int .i64 0, .string ⟨#[]⟩, .slice none 0 0]), 4, 56) := by kernel_rfl

set_option maxRecDepth 100000 in
set_option maxHeartbeats 8000000 in
theorem blk_any (L : List Int) (d : Int) (most : Nat) (hmost : most ≤ 3) (st : PG.Gen) (e : Nat) (hst : GAt 36 L [d] st e) : GAt 18 L [d, (most : Int)] (PG.blockG L st most) (1 + 3 * e) := by
  intro W lo b i hs hi
  obtain ⟨W0, hW0⟩ : ∃ U, W.alloc (.cells #[.int .i64 0, .int .i64 0, .string ⟨#[]⟩, .slice none 0 0] 33) = U := ⟨_, rfl⟩
  obtain ⟨W1, hW1⟩ : ∃ U, W0.alloc (.cells #[.int .i64 11, .int .i64 0, .string ⟨#[]⟩, .slice none 0 0] 33) = U := ⟨_, rfl⟩
  have X0 : ExG W W0 lo b L i := hW0 ▸ ExG.begin hs
  have X1 : ExG W W1 lo b L i := hW1 ▸ X0.alloc _
  have z0 : W0.heap.size = W.heap.size + 1 := by rw [← hW0, World.size_alloc]
  have z1 : W1.heap.size = W.heap.size + 1 + 1 := by rw [← hW1, World.size_alloc, z0]
  have n1 : W1.heap[W.heap.size + 1]? = some (.cells #[.int .i64 11, .int .i64 0, .string ⟨#[]⟩, .slice none 0 0] 33 (0, 0)) := by rw [← hW1, ← z0]; exact World.alloc_heap_new W0 _
  obtain ⟨m, hm⟩ : ∃ m, PG.nx L i (most + 1) = m := ⟨_, rfl⟩
  have hm4 : m < most + 1 := hm ▸ PG.nx_lt _ _ (by omega)
  obtain ⟨⟨T, J⟩, hTJ⟩ : ∃ p, PG.many st m (i + 1) = p := ⟨_, rfl⟩
  have hG : PG.blockG L st most i = (.mk 11 0 ⟨#[]⟩ T, J) := by
    unfold PG.blockG
    simp only [hm, hTJ]
    rfl
  rw [hG]
  show Calls Tryz.prog 18 #[.pointer (some ⟨b, 0, none⟩), .int .i64 d, .int .i64 (most : Int)] W _
  have N1 := Lib.hid (gpk X1 (by omega) (most + 1) m ((most : Int) + 1) (by omega) (by omega) rfl hm)
  have HW := Lib.hid (show (W.alloc (.cells #[.int .i64 0, .int .i64 0, .string ⟨#[]⟩, .slice none 0 0] 33)).alloc (.cells #[.int .i64 11, .int .i64 0, .string ⟨#[]⟩, .slice none 0 0] 33) = W1 by rw [hW0, hW1])
  have HTJ := Lib.hid hTJ
  have HST := Lib.hid hst
  have HI := Lib.hid hi
  have HN1 := Lib.hid n1
  have hbW := X1.lt
  obtain ⟨i0, hi0, hz0, hz1, hz2⟩ := info_parts info_nodG
  have HZ := Lib.hid (And.intro hi0 (And.intro hz0 (And.intro hz1 hz2)))
  clear hG hm hTJ hst hi n1 hW0 hW1 X0 X1 z0 hs hi0 hz0 hz1 hz2
  go_enter Tryz.func18, Tryz.ntmps18
  go_wp2_with (first
    | (rw [HW.out]; go_at_call 17; refine N1.out.mono ?_; clear N1; rintro e w1 ⟨rfl, X2, C2⟩; replace X2 := Lib.hid X2; replace C2 := Lib.hid C2))
  have HN2 := Lib.hid ((C2.out.block _ (by omega) (by omega)).trans HN1.out)
  have hs2 := C2.out.size
  clear HW C2 HN1
  go_loopw [8] (fun x V => ∃ (r p j : Nat) (ts : List TY.Nd) (A : Option Addr) (c : Nat) (cs : List Value), x = .int .i64 (r : Int) ∧ j + r ≤ 3 ∧ Hid (ts.length = j) ∧ Hid (ts ++ (PG.many st r p).1 = T) ∧ Hid ((PG.many st r p).2 = J) ∧ Hid (p + r * e ≤ i + 1 + 3 * e) ∧ Hid (ExG W V lo b L p) ∧
    Hid (V.heap[W.heap.size + 1]? = some (.cells #[.int .i64 11, .int .i64 0, .string ⟨#[]⟩, .slice A j c] 33 (0, 0))) ∧ Hid (TR 33 0 (W.heap.size + 1 + 1) V A j c (nds ts) cs) ∧ W.heap.size + 1 + 1 ≤ V.heap.size) (fun x _ => (intOf x).toNat)
  case atStart =>
    refine ⟨m, i + 1, 0, [], none, 0, [], rfl, by omega, rfl, ?_, ?_, ?_, X2.out, HN2.out, TR.nil _ _ _ _, by omega⟩
    · show [] ++ _ = _
      rw [HTJ.out]; rfl
    · show _ = _
      rw [HTJ.out]
    · show _ ≤ _
      have := Nat.mul_le_mul_right e (show m ≤ 3 by omega)
      omega
  case round =>
    obtain ⟨r, p, j, ts, A, c, cs, rfl, hjr, hjl, hT, hJ, hp, hX, hB, hR, hsz⟩ := hrel
    rcases Nat.eq_zero_or_pos r with h0 | h0
    · subst h0
      obtain rfl : ts = T := by have := hT.out; simpa [PG.many] using this
      have hpJ : p = J := hJ.out
      obtain ⟨q0, q1, q2, q3, p0, p1, p2, p3⟩ := hX.out.cells
      have u0 : wr.cell? ⟨W.heap.size + 1, 0, none⟩ = some (.int .i64 11) := cell_of_row wr _ 0 _ _ (0, 0) hB.out
      have u1 : wr.cell? ⟨W.heap.size + 1, 1, none⟩ = some (.int .i64 0) := cell_of_row wr _ 1 _ _ (0, 0) hB.out
      have u2 : wr.cell? ⟨W.heap.size + 1, 2, none⟩ = some (.string ⟨#[]⟩) := cell_of_row wr _ 2 _ _ (0, 0) hB.out
      have u3 : wr.cell? ⟨W.heap.size + 1, 3, none⟩ = some (.slice A j c) := cell_of_row wr _ 3 _ _ (0, 0) hB.out
      have hpb := hp.out
      have hnw := TR.node hR.out (by omega) 11 0 ⟨#[]⟩ (by decide)
      rw [nds_snd] at hnw
      go_wp2_with fail
      obtain ⟨U, hU⟩ : ∃ U, (((wr.setCell ⟨W.heap.size, 0, none⟩ (.int .i64 11)).setCell ⟨W.heap.size, 1, none⟩ (.int .i64 0)).setCell ⟨W.heap.size, 2, none⟩ (.string ⟨#[]⟩)).setCell ⟨W.heap.size, 3, none⟩ (.slice A j c) = U := ⟨_, rfl⟩
      rw [hU]
      obtain ⟨f1, f2, f3, f4⟩ := hX.out.fin 11 0 ⟨#[]⟩ (.slice A j c) (hnw.lower (by omega)) hU
      refine bodyPost_ret (ret_N rfl _ rfl f1) rfl ?_
      exact ⟨_, rfl, f2, hpJ ▸ f3, by omega, f4⟩
    · obtain ⟨r, rfl⟩ : ∃ q, r = q + 1 := ⟨r - 1, by omega⟩
      obtain ⟨⟨t5, j5⟩, h5⟩ : ∃ x, st p = x := ⟨_, rfl⟩
      have hmany : PG.many st (r + 1) p = (t5 :: (PG.many st r j5).1, (PG.many st r j5).2) := by
        rw [PG.many]
        simp only [h5]
      have hT' := hT.out
      have hJ' := hJ.out
      have hp' := hp.out
      rw [hmany] at hT' hJ'
      rw [Nat.add_mul, Nat.one_mul] at hp'
      have HT' := Lib.hid hT'
      have HJ' := Lib.hid hJ'
      have HP' := Lib.hid hp'
      have S5 := Lib.hid (fun V (h : ExG W V lo b L p) => gsb HST.out h (by have := HI.out; omega) h5)
      have XD : Hid (ExG W wr.drew lo b L p) := ⟨hX.out.src, hX.out.box, hX.out.chg.drew, hX.out.lt⟩
      have c3 : wr.cell? ⟨W.heap.size + 1, 3, none⟩ = some (.slice A j c) := cell_of_row wr _ 3 _ _ (0, 0) hB.out
      clear hT hJ hp hmany h5 hT' hJ' hp'
      go_wp2_with fail
      go_region_law
        (first
          | (refine step_append_lies _ rfl (.tmp 19) (.tmp 23) 31 rfl (W.heap.size + 1 + 1) 33 i0 _ 4 56 Tryz.underlying31 HZ.out.1 HZ.out.2.1 HZ.out.2.2.1 HZ.out.2.2.2 rfl (by decide) (.slice A j c) j _ (by simp [Act.eval]) HO5.out ⟨w5.heap.size, 0, none⟩ 1 1 [.int .i64 k5, .int .i64 n5, .string s5, .slice A5 m5 c5] (by simp [Act.eval]) rfl (news_alloc _ _ _ _ rfl) (by simp [Value.oneCell']) (by decide) (by simp only [maxLen]; omega) (by omega) (by simp; omega) _ rfl ?_; intro g4 c4 w6 hown4 hgrow4 hat4 _; have hb6 := grown_kept hgrow4 HB5.out HO5.out (by omega); have d6 : w6.cell? ⟨W.heap.size + 1, 3, none⟩ = some (.slice A j c) := cell_of_row w6 _ 3 _ _ (0, 0) hb6; have f6 : w6.frozen? ⟨W.heap.size + 1, 3, none⟩ = false := by simp [World.frozen?, hb6])
          | (go_simp; go_at_call 36; refine (S5.out _ XD.out).mono ?_; clear S5; rintro x w5 ⟨k5, n5, s5, A5, m5, c5, rfl, V5, X5, B5, C5⟩; replace X5 := Lib.hid X5; replace V5 := Lib.hid V5; replace C5 := Lib.hid (show Chg (· = b) wr w5 from ((Chg.refl (· = b) wr).drew.trans C5 (fun _ _ h => h))); have hs5 := C5.out.size; have HB5 := Lib.hid ((C5.out.block _ (by omega) (by omega)).trans hB.out); have d5 : (w5.alloc (.cells #[.int .i64 k5, .int .i64 n5, .string s5, .slice A5 m5 c5] 33)).cell? ⟨W.heap.size + 1, 3, none⟩ = some (.slice A j c) := (((Below.refl w5.heap.size w5).alloc (Nat.le_refl _) _).cell (p := ⟨W.heap.size + 1, 3, none⟩) (heap_lt HB5.out)).trans (cell_of_row w5 _ 3 _ _ (0, 0) HB5.out); have e5 : w5.cell? ⟨W.heap.size + 1, 3, none⟩ = some (.slice A j c) := cell_of_row w5 _ 3 _ _ (0, 0) HB5.out; have HO5 := Lib.hid (TR.own hR.out C5.out (fun x hx => by omega) (.cells #[.int .i64 k5, .int .i64 n5, .string s5, .slice A5 m5 c5] 33))))
      all_goals
        obtain ⟨U, hU⟩ : ∃ U, w6.setCell ⟨W.heap.size + 1, 3, none⟩ (.slice (some ⟨g4, 0, none⟩) (j + 1) c4) = U := ⟨_, rfl⟩
        have hUk : ∀ x, x ≠ W.heap.size + 1 → U.heap[x]? = w6.heap[x]? := fun x hx => by rw [← hU]; exact Below.heap_setCell _ _ _ _ hx
        have hUs : U.heap.size = w6.heap.size := by rw [← hU]; simp [World.setCell]
        have hUb : U.heap[W.heap.size + 1]? = some (.cells #[.int .i64 11, .int .i64 0, .string ⟨#[]⟩, .slice (some ⟨g4, 0, none⟩) (j + 1) c4] 33 (0, 0)) := by
          rw [← hU]
          simp only [World.setCell, Array.getElem?_modify]
          simp [hb6]
        have hTR := TR.step (pre := []) (U := U) hR.out C5.out (fun x hx => by omega) hsz rfl V5.out hgrow4 (hat4.imp id fun h => by rw [h, World.size_alloc]; omega) hown4 (fun x hx => hUk x (by omega)) hUs
        have hc56 : Chg (W.heap.size + 1 ≤ ·) w5 U := by
          rw [← hU]
          exact ((grown_chg hgrow4 HO5.out).mono (fun _ _ h => Nat.le_of_succ_le h)).setCell (p := ⟨W.heap.size + 1, 3, none⟩) (fun _ => Nat.le_refl _) _
        have hXU : ExG W U lo b L j5 := ⟨X5.out.src.chg hc56 (by omega) (fun g hg => by have := X5.out.src.1; omega), (hc56.block _ (by omega) (by omega)).trans X5.out.box, X5.out.chg.trans hc56 (fun x hx h => by omega), X5.out.lt⟩
        have hs6 := hc56.size
        have G1 := Lib.hid hTR
        have G2 := Lib.hid hXU
        have G3 := Lib.hid hUb
        have HU := Lib.hid hU
        have HP2 := Lib.hid (show j5 + r * e ≤ i + 1 + 3 * e by have := HP'.out; omega)
        clear hTR hXU hUb hc56 hUk hU
        go_wp2_with fail
        rw [HU.out]
        go_roundw
        case rel => exact ⟨r, j5, j + 1, ts ++ [t5], some ⟨g4, 0, none⟩, c4, _, by go_num, by omega, by show _ = _; rw [List.length_append, hjl.out]; rfl, by show _ = _; rw [List.append_assoc]; exact HT'.out, HJ'.out, HP2.out, G2.out, G3.out, by rw [nds_snoc]; exact G1.out, by omega⟩
        case measure => simp [intOf]
end Go.Proofs.YtlfpaemfhanpiaaGreatDoor
