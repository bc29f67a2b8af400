/-
  Which events fit their layout. No condition.
-/
import Derived.Test.YtggallpnbbidfaaGreatDoorNmW
import Derived.Test.YtggallpnbbidfaaGreatDoorRgV
namespace Go.Proofs.YtggallpnbbidfaaGreatDoor
open Go Go.RowKit Go.Proofs
attribute [local go_sem] Oper.semAt_some

set_option maxHeartbeats 4000000 in
set_option maxRecDepth 100000 in
theorem fits_0 (x : ByteArray) (b1 b2 : Bool) (k n a c h t i p : Int) (w : World) (hx : x.toList = []) :
    Calls Tryz.prog 30 #[.agg #[.string x, .bool b1, .bool b2], .agg #[.int .i64 k, .int .i64 n, .int .i64 a, .int .i64 c, .int .i64 h, .int .i64 t, .int .i64 i, .int .i64 p]] w fun e w' => e = .returned (.bool false) ∧ Below w.heap.size w w' := by
  obtain ⟨U, hU, hb, k1, k2, hlt⟩ := two_boxes w (.cells #[.string x, .bool b1, .bool b2] 65) (.cells #[.int .i64 k, .int .i64 n, .int .i64 a, .int .i64 c, .int .i64 h, .int .i64 t, .int .i64 i, .int .i64 p] 28)
  have hl0 : w.heap.size < U.heap.size := by omega
  have HK := Lib.hid (show ∀ V, Below U.heap.size U V → V.cell? ⟨w.heap.size, 0, none⟩ = some (.string x) ∧ V.cell? ⟨w.heap.size, 1, none⟩ = some (.bool b1) ∧ V.cell? ⟨w.heap.size, 2, none⟩ = some (.bool b2) ∧ V.cell? ⟨w.heap.size + 1, 0, none⟩ = some (.int .i64 k) ∧ V.cell? ⟨w.heap.size + 1, 1, none⟩ = some (.int .i64 n) ∧ V.cell? ⟨w.heap.size + 1, 2, none⟩ = some (.int .i64 a) ∧ V.cell? ⟨w.heap.size + 1, 3, none⟩ = some (.int .i64 c) ∧ V.cell? ⟨w.heap.size + 1, 4, none⟩ = some (.int .i64 h) ∧ V.cell? ⟨w.heap.size + 1, 5, none⟩ = some (.int .i64 t) ∧ V.cell? ⟨w.heap.size + 1, 6, none⟩ = some (.int .i64 i) ∧ V.cell? ⟨w.heap.size + 1, 7, none⟩ = some (.int .i64 p) from by
    intro V B
    obtain ⟨b0, b1, b2, b3, b4, b5, b6, b7⟩ := row8 k2
    have a0 := cell_of_row _ _ 0 _ _ (0, 0) k1
    have a1 := cell_of_row _ _ 1 _ _ (0, 0) k1
    have a2 := cell_of_row _ _ 2 _ _ (0, 0) k1
    exact ⟨(B.cell (p := ⟨w.heap.size, 0, none⟩) hl0).trans a0, (B.cell (p := ⟨w.heap.size, 1, none⟩) hl0).trans a1, (B.cell (p := ⟨w.heap.size, 2, none⟩) hl0).trans a2, (B.cell (p := ⟨w.heap.size + 1, 0, none⟩) hlt).trans b0, (B.cell (p := ⟨w.heap.size + 1, 1, none⟩) hlt).trans b1, (B.cell (p := ⟨w.heap.size + 1, 2, none⟩) hlt).trans b2, (B.cell (p := ⟨w.heap.size + 1, 3, none⟩) hlt).trans b3, (B.cell (p := ⟨w.heap.size + 1, 4, none⟩) hlt).trans b4, (B.cell (p := ⟨w.heap.size + 1, 5, none⟩) hlt).trans b5, (B.cell (p := ⟨w.heap.size + 1, 6, none⟩) hlt).trans b6, (B.cell (p := ⟨w.heap.size + 1, 7, none⟩) hlt).trans b7⟩)
  have HU := Lib.hid hU
  have HB := Lib.hid hb
  clear hU hb k1 k2
  go_enter Tryz.func30, Tryz.ntmps30
  go_wp2_with fail
  rw [HU.out]
  clear HU
  refine region_vals 26 5 4 (fun i => if i = 25 then 4 else 5 + i) (fun ix_ => match ix_ with | 0 => .pointer (some ⟨w.heap.size, 0, none⟩) | 1 => .string x | 2 => .bool false | 3 => .bool false | 4 => undef | 5 => undef | 6 => undef | 7 => undef | 8 => undef | 9 => .bool false | 10 => .bool false | 11 => undef | 12 => undef | 13 => undef | 14 => .bool false | 15 => .bool false | 16 => undef | 17 => undef | 18 => undef | 19 => .bool false | 20 => .bool false | 21 => undef | 22 => undef | 23 => undef | 24 => .bool false | 25 => .bool false | _ => undef) (fun V => Below U.heap.size U V) ((Below.refl _ U).drew) (by kernel_rfl) rfl (by kernel_rfl) (fun i hi => by show (if i = 25 then 4 else 5 + i) < 30 ∧ (5 ≤ (if i = 25 then 4 else 5 + i) ∨ (if i = 25 then 4 else 5 + i) = 4); (repeat' split) <;> omega) (fun i j hi hj => by show (if i = 25 then 4 else 5 + i) = (if j = 25 then 4 else 5 + j) → i = j; (repeat' split) <;> omega) ?step ?fin
  case step =>
    intro listed A_ w3 ix op_ hI ho hdep
    have hi : ix < 26 := (Array.getElem?_eq_some_iff.1 ho).1
    have hcase : ix = 0 ∨ ix = 1 ∨ ix = 2 ∨ ix = 3 ∨ ix = 4 ∨ ix = 5 ∨ ix = 6 ∨ ix = 7 ∨ ix = 8 ∨ ix = 9 ∨ ix = 10 ∨ ix = 11 ∨ ix = 12 ∨ ix = 13 ∨ ix = 14 ∨ ix = 15 ∨ ix = 16 ∨ ix = 17 ∨ ix = 18 ∨ ix = 19 ∨ ix = 20 ∨ ix = 21 ∨ ix = 22 ∨ ix = 23 ∨ ix = 24 ∨ ix = 25 := by omega
    have hh := hI.held
    clear hi
    rcases hcase with rfl | rfl | rfl | rfl | rfl | rfl | rfl | rfl | rfl | rfl | rfl | rfl | rfl | rfl | rfl | rfl | rfl | rfl | rfl | rfl | rfl | rfl | rfl | rfl | rfl | rfl
    · simp only [List.getElem?_toArray, List.getElem?_cons_zero, Option.some.injEq] at ho
      subst ho
      refine ⟨rfl, ?_⟩
      have e2 : A_.tmps[2]?.getD undef = .pointer (some ⟨w.heap.size, 0, none⟩) := by rw [hI.low 2 (by decide) (by decide)]; rfl
      clear hI hdep
      exact .run rfl (by simp [execOp, go_sem, Act.eval, e2])
    · simp only [List.getElem?_toArray, List.getElem?_cons_succ, List.getElem?_cons_zero, Option.some.injEq] at ho
      subst ho
      refine ⟨rfl, ?_⟩
      have e5 : A_.tmps[5]?.getD undef = .pointer (some ⟨w.heap.size, 0, none⟩) := getD_of (hI.at_ (i := 0) rfl (by decide) (hdep ⟨0, .data⟩ (by simp) rfl))
      clear hI hdep
      obtain ⟨c0, c1, c2, d0, d1, d2, d3, d4, d5, d6, d7⟩ := HK.out w3 hh
      exact .run rfl (by simp [execOp, go_sem, Act.eval, *])
    · simp only [List.getElem?_toArray, List.getElem?_cons_succ, List.getElem?_cons_zero, Option.some.injEq] at ho
      subst ho
      refine ⟨rfl, ?_⟩
      have e6 : A_.tmps[6]?.getD undef = .string x := getD_of (hI.at_ (i := 1) rfl (by decide) (hdep ⟨1, .data⟩ (by simp) rfl))
      clear hI hdep
      exact .run rfl (by simp [execOp, go_sem, Act.eval, *])
    · simp only [List.getElem?_toArray, List.getElem?_cons_succ, List.getElem?_cons_zero, Option.some.injEq] at ho
      subst ho
      refine ⟨rfl, ?_⟩
      have e7 : A_.tmps[7]?.getD undef = .bool false := getD_of (hI.at_ (i := 2) rfl (by decide) (hdep ⟨2, .data⟩ (by simp) rfl))
      clear hI hdep
      exact .run rfl (by simp [execOp, go_sem, Act.eval, e7])
    · simp only [List.getElem?_toArray, List.getElem?_cons_succ, List.getElem?_cons_zero, Option.some.injEq] at ho
      subst ho
      refine ⟨rfl, ?_⟩
      have g8 : A_.tmps[8]? = some (.bool false) := hI.at_ (i := 3) rfl (by decide) (hdep ⟨3, .guard⟩ (by simp) rfl)
      exact .skip ((wanted_some rfl rfl g8).trans rfl) rfl
    · simp only [List.getElem?_toArray, List.getElem?_cons_succ, List.getElem?_cons_zero, Option.some.injEq] at ho
      subst ho
      refine ⟨rfl, ?_⟩
      have g8 : A_.tmps[8]? = some (.bool false) := hI.at_ (i := 3) rfl (by decide) (hdep ⟨3, .guard⟩ (by simp) rfl)
      exact .skip ((wanted_some rfl rfl g8).trans rfl) rfl
    · simp only [List.getElem?_toArray, List.getElem?_cons_succ, List.getElem?_cons_zero, Option.some.injEq] at ho
      subst ho
      refine ⟨rfl, ?_⟩
      have g8 : A_.tmps[8]? = some (.bool false) := hI.at_ (i := 3) rfl (by decide) (hdep ⟨3, .guard⟩ (by simp) rfl)
      exact .skip ((wanted_some rfl rfl g8).trans rfl) rfl
    · simp only [List.getElem?_toArray, List.getElem?_cons_succ, List.getElem?_cons_zero, Option.some.injEq] at ho
      subst ho
      refine ⟨rfl, ?_⟩
      have g8 : A_.tmps[8]? = some (.bool false) := hI.at_ (i := 3) rfl (by decide) (hdep ⟨3, .guard⟩ (by simp) rfl)
      exact .skip ((wanted_some rfl rfl g8).trans rfl) rfl
    · simp only [List.getElem?_toArray, List.getElem?_cons_succ, List.getElem?_cons_zero, Option.some.injEq] at ho
      subst ho
      refine ⟨rfl, ?_⟩
      have g8 : A_.tmps[8]? = some (.bool false) := hI.at_ (i := 3) rfl (by decide) (hdep ⟨3, .guard⟩ (by simp) rfl)
      exact .skip ((wanted_some rfl rfl g8).trans rfl) rfl
    · simp only [List.getElem?_toArray, List.getElem?_cons_succ, List.getElem?_cons_zero, Option.some.injEq] at ho
      subst ho
      refine ⟨rfl, ?_⟩
      have e8 : A_.tmps[8]?.getD undef = .bool false := getD_of (hI.at_ (i := 3) rfl (by decide) (hdep ⟨3, .data⟩ (by simp) rfl))
      have e13 : A_.tmps[13]?.getD undef = undef := getD_of (hI.at_ (i := 8) rfl (by decide) (hdep ⟨8, .data⟩ (by simp) rfl))
      clear hI hdep
      exact .run rfl (by simp [execOp, go_sem, Act.eval, e8, e13])
    · simp only [List.getElem?_toArray, List.getElem?_cons_succ, List.getElem?_cons_zero, Option.some.injEq] at ho
      subst ho
      refine ⟨rfl, ?_⟩
      have e14 : A_.tmps[14]?.getD undef = .bool false := getD_of (hI.at_ (i := 9) rfl (by decide) (hdep ⟨9, .data⟩ (by simp) rfl))
      clear hI hdep
      exact .run rfl (by simp [execOp, go_sem, Act.eval, e14])
    · simp only [List.getElem?_toArray, List.getElem?_cons_succ, List.getElem?_cons_zero, Option.some.injEq] at ho
      subst ho
      refine ⟨rfl, ?_⟩
      have g15 : A_.tmps[15]? = some (.bool false) := hI.at_ (i := 10) rfl (by decide) (hdep ⟨10, .guard⟩ (by simp) rfl)
      exact .skip ((wanted_some rfl rfl g15).trans rfl) rfl
    · simp only [List.getElem?_toArray, List.getElem?_cons_succ, List.getElem?_cons_zero, Option.some.injEq] at ho
      subst ho
      refine ⟨rfl, ?_⟩
      have g15 : A_.tmps[15]? = some (.bool false) := hI.at_ (i := 10) rfl (by decide) (hdep ⟨10, .guard⟩ (by simp) rfl)
      exact .skip ((wanted_some rfl rfl g15).trans rfl) rfl
    · simp only [List.getElem?_toArray, List.getElem?_cons_succ, List.getElem?_cons_zero, Option.some.injEq] at ho
      subst ho
      refine ⟨rfl, ?_⟩
      have g15 : A_.tmps[15]? = some (.bool false) := hI.at_ (i := 10) rfl (by decide) (hdep ⟨10, .guard⟩ (by simp) rfl)
      exact .skip ((wanted_some rfl rfl g15).trans rfl) rfl
    · simp only [List.getElem?_toArray, List.getElem?_cons_succ, List.getElem?_cons_zero, Option.some.injEq] at ho
      subst ho
      refine ⟨rfl, ?_⟩
      have e15 : A_.tmps[15]?.getD undef = .bool false := getD_of (hI.at_ (i := 10) rfl (by decide) (hdep ⟨10, .data⟩ (by simp) rfl))
      have e18 : A_.tmps[18]?.getD undef = undef := getD_of (hI.at_ (i := 13) rfl (by decide) (hdep ⟨13, .data⟩ (by simp) rfl))
      clear hI hdep
      exact .run rfl (by simp [execOp, go_sem, Act.eval, e15, e18])
    · simp only [List.getElem?_toArray, List.getElem?_cons_succ, List.getElem?_cons_zero, Option.some.injEq] at ho
      subst ho
      refine ⟨rfl, ?_⟩
      have e19 : A_.tmps[19]?.getD undef = .bool false := getD_of (hI.at_ (i := 14) rfl (by decide) (hdep ⟨14, .data⟩ (by simp) rfl))
      clear hI hdep
      exact .run rfl (by simp [execOp, go_sem, Act.eval, e19])
    · simp only [List.getElem?_toArray, List.getElem?_cons_succ, List.getElem?_cons_zero, Option.some.injEq] at ho
      subst ho
      refine ⟨rfl, ?_⟩
      have g20 : A_.tmps[20]? = some (.bool false) := hI.at_ (i := 15) rfl (by decide) (hdep ⟨15, .guard⟩ (by simp) rfl)
      exact .skip ((wanted_some rfl rfl g20).trans rfl) rfl
    · simp only [List.getElem?_toArray, List.getElem?_cons_succ, List.getElem?_cons_zero, Option.some.injEq] at ho
      subst ho
      refine ⟨rfl, ?_⟩
      have g20 : A_.tmps[20]? = some (.bool false) := hI.at_ (i := 15) rfl (by decide) (hdep ⟨15, .guard⟩ (by simp) rfl)
      exact .skip ((wanted_some rfl rfl g20).trans rfl) rfl
    · simp only [List.getElem?_toArray, List.getElem?_cons_succ, List.getElem?_cons_zero, Option.some.injEq] at ho
      subst ho
      refine ⟨rfl, ?_⟩
      have g20 : A_.tmps[20]? = some (.bool false) := hI.at_ (i := 15) rfl (by decide) (hdep ⟨15, .guard⟩ (by simp) rfl)
      exact .skip ((wanted_some rfl rfl g20).trans rfl) rfl
    · simp only [List.getElem?_toArray, List.getElem?_cons_succ, List.getElem?_cons_zero, Option.some.injEq] at ho
      subst ho
      refine ⟨rfl, ?_⟩
      have e20 : A_.tmps[20]?.getD undef = .bool false := getD_of (hI.at_ (i := 15) rfl (by decide) (hdep ⟨15, .data⟩ (by simp) rfl))
      have e23 : A_.tmps[23]?.getD undef = undef := getD_of (hI.at_ (i := 18) rfl (by decide) (hdep ⟨18, .data⟩ (by simp) rfl))
      clear hI hdep
      exact .run rfl (by simp [execOp, go_sem, Act.eval, e20, e23])
    · simp only [List.getElem?_toArray, List.getElem?_cons_succ, List.getElem?_cons_zero, Option.some.injEq] at ho
      subst ho
      refine ⟨rfl, ?_⟩
      have e24 : A_.tmps[24]?.getD undef = .bool false := getD_of (hI.at_ (i := 19) rfl (by decide) (hdep ⟨19, .data⟩ (by simp) rfl))
      clear hI hdep
      exact .run rfl (by simp [execOp, go_sem, Act.eval, e24])
    · simp only [List.getElem?_toArray, List.getElem?_cons_succ, List.getElem?_cons_zero, Option.some.injEq] at ho
      subst ho
      refine ⟨rfl, ?_⟩
      have g25 : A_.tmps[25]? = some (.bool false) := hI.at_ (i := 20) rfl (by decide) (hdep ⟨20, .guard⟩ (by simp) rfl)
      exact .skip ((wanted_some rfl rfl g25).trans rfl) rfl
    · simp only [List.getElem?_toArray, List.getElem?_cons_succ, List.getElem?_cons_zero, Option.some.injEq] at ho
      subst ho
      refine ⟨rfl, ?_⟩
      have g25 : A_.tmps[25]? = some (.bool false) := hI.at_ (i := 20) rfl (by decide) (hdep ⟨20, .guard⟩ (by simp) rfl)
      exact .skip ((wanted_some rfl rfl g25).trans rfl) rfl
    · simp only [List.getElem?_toArray, List.getElem?_cons_succ, List.getElem?_cons_zero, Option.some.injEq] at ho
      subst ho
      refine ⟨rfl, ?_⟩
      have g25 : A_.tmps[25]? = some (.bool false) := hI.at_ (i := 20) rfl (by decide) (hdep ⟨20, .guard⟩ (by simp) rfl)
      exact .skip ((wanted_some rfl rfl g25).trans rfl) rfl
    · simp only [List.getElem?_toArray, List.getElem?_cons_succ, List.getElem?_cons_zero, Option.some.injEq] at ho
      subst ho
      refine ⟨rfl, ?_⟩
      have e25 : A_.tmps[25]?.getD undef = .bool false := getD_of (hI.at_ (i := 20) rfl (by decide) (hdep ⟨20, .data⟩ (by simp) rfl))
      have e28 : A_.tmps[28]?.getD undef = undef := getD_of (hI.at_ (i := 23) rfl (by decide) (hdep ⟨23, .data⟩ (by simp) rfl))
      clear hI hdep
      exact .run rfl (by simp [execOp, go_sem, Act.eval, e25, e28])
    · simp only [List.getElem?_toArray, List.getElem?_cons_succ, List.getElem?_cons_zero, Option.some.injEq] at ho
      subst ho
      refine ⟨rfl, ?_⟩
      have e29 : A_.tmps[29]?.getD undef = .bool false := getD_of (hI.at_ (i := 24) rfl (by decide) (hdep ⟨24, .data⟩ (by simp) rfl))
      clear hI hdep
      exact .run rfl (by simp [execOp, go_sem, Act.eval, e29])
  case fin =>
  intro A_ w3 hs hd hlow hS hok
  obtain rfl : A_ = ⟨#[.agg #[.string x, .bool b1, .bool b2], .agg #[.int .i64 k, .int .i64 n, .int .i64 a, .int .i64 c, .int .i64 h, .int .i64 t, .int .i64 i, .int .i64 p], .pointer (some ⟨w.heap.size, 0, none⟩), .pointer (some ⟨w.heap.size + 1, 0, none⟩), .bool false, .pointer (some ⟨w.heap.size, 0, none⟩), .string x, .bool false, .bool false, undef, undef, undef, undef, undef, .bool false, .bool false, undef, undef, undef, .bool false, .bool false, undef, undef, undef, .bool false, .bool false, undef, undef, undef, .bool false], []⟩ := act_ext hd hs (fun j hj => match j, hj with | 0, _ => (hlow 0 (by decide) (by decide)).trans rfl | 1, _ => (hlow 1 (by decide) (by decide)).trans rfl | 2, _ => (hlow 2 (by decide) (by decide)).trans rfl | 3, _ => (hlow 3 (by decide) (by decide)).trans rfl | 4, _ => hok 25 4 (by decide) rfl | 5, _ => hok 0 5 (by decide) rfl | 6, _ => hok 1 6 (by decide) rfl | 7, _ => hok 2 7 (by decide) rfl | 8, _ => hok 3 8 (by decide) rfl | 9, _ => hok 4 9 (by decide) rfl | 10, _ => hok 5 10 (by decide) rfl | 11, _ => hok 6 11 (by decide) rfl | 12, _ => hok 7 12 (by decide) rfl | 13, _ => hok 8 13 (by decide) rfl | 14, _ => hok 9 14 (by decide) rfl | 15, _ => hok 10 15 (by decide) rfl | 16, _ => hok 11 16 (by decide) rfl | 17, _ => hok 12 17 (by decide) rfl | 18, _ => hok 13 18 (by decide) rfl | 19, _ => hok 14 19 (by decide) rfl | 20, _ => hok 15 20 (by decide) rfl | 21, _ => hok 16 21 (by decide) rfl | 22, _ => hok 17 22 (by decide) rfl | 23, _ => hok 18 23 (by decide) rfl | 24, _ => hok 19 24 (by decide) rfl | 25, _ => hok 20 25 (by decide) rfl | 26, _ => hok 21 26 (by decide) rfl | 27, _ => hok 22 27 (by decide) rfl | 28, _ => hok 23 28 (by decide) rfl | 29, _ => hok 24 29 (by decide) rfl | n + 30, h => absurd h (by show ¬ n + 30 < 30; omega))
  clear hs hd hlow hok
  go_wp2_with fail
  go_ret
  exact ⟨rfl, HB.out.trans (hS.mono HB.out.size)⟩
set_option maxHeartbeats 4000000 in
set_option maxRecDepth 100000 in
theorem fits_1 (x : ByteArray) (b1 b2 : Bool) (k n a c h t i p k0 n0 a0 c0 h0 t0 i0 p0 : Int) (w : World) (hx : ¬ x.toList = []) (HW : Hid (∀ V, Calls Tryz.prog 53 #[.agg #[.string x, .bool b1, .bool b2], .agg #[.int .i64 k, .int .i64 n, .int .i64 a, .int .i64 c, .int .i64 h, .int .i64 t, .int .i64 i, .int .i64 p]] V fun e w' => e = .returned (.agg #[.int .i64 k0, .int .i64 n0, .int .i64 a0, .int .i64 c0, .int .i64 h0, .int .i64 t0, .int .i64 i0, .int .i64 p0]) ∧ Below V.heap.size V w')) (hq : ∀ V, (binOp .eql 28 (.agg #[.int .i64 k, .int .i64 n, .int .i64 a, .int .i64 c, .int .i64 h, .int .i64 t, .int .i64 i, .int .i64 p]) (.agg #[.int .i64 k0, .int .i64 n0, .int .i64 a0, .int .i64 c0, .int .i64 h0, .int .i64 t0, .int .i64 i0, .int .i64 p0])).run Tryz.prog V = .ok (.bool false) V) :
    Calls Tryz.prog 30 #[.agg #[.string x, .bool b1, .bool b2], .agg #[.int .i64 k, .int .i64 n, .int .i64 a, .int .i64 c, .int .i64 h, .int .i64 t, .int .i64 i, .int .i64 p]] w fun e w' => e = .returned (.bool false) ∧ Below w.heap.size w w' := by
  obtain ⟨U, hU, hb, k1, k2, hlt⟩ := two_boxes w (.cells #[.string x, .bool b1, .bool b2] 65) (.cells #[.int .i64 k, .int .i64 n, .int .i64 a, .int .i64 c, .int .i64 h, .int .i64 t, .int .i64 i, .int .i64 p] 28)
  have hl0 : w.heap.size < U.heap.size := by omega
  have HK := Lib.hid (show ∀ V, Below U.heap.size U V → V.cell? ⟨w.heap.size, 0, none⟩ = some (.string x) ∧ V.cell? ⟨w.heap.size, 1, none⟩ = some (.bool b1) ∧ V.cell? ⟨w.heap.size, 2, none⟩ = some (.bool b2) ∧ V.cell? ⟨w.heap.size + 1, 0, none⟩ = some (.int .i64 k) ∧ V.cell? ⟨w.heap.size + 1, 1, none⟩ = some (.int .i64 n) ∧ V.cell? ⟨w.heap.size + 1, 2, none⟩ = some (.int .i64 a) ∧ V.cell? ⟨w.heap.size + 1, 3, none⟩ = some (.int .i64 c) ∧ V.cell? ⟨w.heap.size + 1, 4, none⟩ = some (.int .i64 h) ∧ V.cell? ⟨w.heap.size + 1, 5, none⟩ = some (.int .i64 t) ∧ V.cell? ⟨w.heap.size + 1, 6, none⟩ = some (.int .i64 i) ∧ V.cell? ⟨w.heap.size + 1, 7, none⟩ = some (.int .i64 p) from by
    intro V B
    obtain ⟨b0, b1, b2, b3, b4, b5, b6, b7⟩ := row8 k2
    have a0 := cell_of_row _ _ 0 _ _ (0, 0) k1
    have a1 := cell_of_row _ _ 1 _ _ (0, 0) k1
    have a2 := cell_of_row _ _ 2 _ _ (0, 0) k1
    exact ⟨(B.cell (p := ⟨w.heap.size, 0, none⟩) hl0).trans a0, (B.cell (p := ⟨w.heap.size, 1, none⟩) hl0).trans a1, (B.cell (p := ⟨w.heap.size, 2, none⟩) hl0).trans a2, (B.cell (p := ⟨w.heap.size + 1, 0, none⟩) hlt).trans b0, (B.cell (p := ⟨w.heap.size + 1, 1, none⟩) hlt).trans b1, (B.cell (p := ⟨w.heap.size + 1, 2, none⟩) hlt).trans b2, (B.cell (p := ⟨w.heap.size + 1, 3, none⟩) hlt).trans b3, (B.cell (p := ⟨w.heap.size + 1, 4, none⟩) hlt).trans b4, (B.cell (p := ⟨w.heap.size + 1, 5, none⟩) hlt).trans b5, (B.cell (p := ⟨w.heap.size + 1, 6, none⟩) hlt).trans b6, (B.cell (p := ⟨w.heap.size + 1, 7, none⟩) hlt).trans b7⟩)
  have HU := Lib.hid hU
  have HB := Lib.hid hb
  clear hU hb k1 k2
  go_enter Tryz.func30, Tryz.ntmps30
  go_wp2_with fail
  rw [HU.out]
  clear HU
  refine region_vals 26 5 4 (fun i => if i = 25 then 4 else 5 + i) (fun ix_ => match ix_ with | 0 => .pointer (some ⟨w.heap.size, 0, none⟩) | 1 => .string x | 2 => .bool true | 3 => .bool true | 4 => .agg #[.int .i64 k, .int .i64 n, .int .i64 a, .int .i64 c, .int .i64 h, .int .i64 t, .int .i64 i, .int .i64 p] | 5 => .agg #[.string x, .bool b1, .bool b2] | 6 => .agg #[.int .i64 k, .int .i64 n, .int .i64 a, .int .i64 c, .int .i64 h, .int .i64 t, .int .i64 i, .int .i64 p] | 7 => .agg #[.int .i64 k0, .int .i64 n0, .int .i64 a0, .int .i64 c0, .int .i64 h0, .int .i64 t0, .int .i64 i0, .int .i64 p0] | 8 => .bool false | 9 => .bool false | 10 => .bool false | 11 => undef | 12 => undef | 13 => undef | 14 => .bool false | 15 => .bool false | 16 => undef | 17 => undef | 18 => undef | 19 => .bool false | 20 => .bool false | 21 => undef | 22 => undef | 23 => undef | 24 => .bool false | 25 => .bool false | _ => undef) (fun V => Below U.heap.size U V) ((Below.refl _ U).drew) (by kernel_rfl) rfl (by kernel_rfl) (fun i hi => by show (if i = 25 then 4 else 5 + i) < 30 ∧ (5 ≤ (if i = 25 then 4 else 5 + i) ∨ (if i = 25 then 4 else 5 + i) = 4); (repeat' split) <;> omega) (fun i j hi hj => by show (if i = 25 then 4 else 5 + i) = (if j = 25 then 4 else 5 + j) → i = j; (repeat' split) <;> omega) ?step ?fin
  case step =>
    intro listed A_ w3 ix op_ hI ho hdep
    have hi : ix < 26 := (Array.getElem?_eq_some_iff.1 ho).1
    have hcase : ix = 0 ∨ ix = 1 ∨ ix = 2 ∨ ix = 3 ∨ ix = 4 ∨ ix = 5 ∨ ix = 6 ∨ ix = 7 ∨ ix = 8 ∨ ix = 9 ∨ ix = 10 ∨ ix = 11 ∨ ix = 12 ∨ ix = 13 ∨ ix = 14 ∨ ix = 15 ∨ ix = 16 ∨ ix = 17 ∨ ix = 18 ∨ ix = 19 ∨ ix = 20 ∨ ix = 21 ∨ ix = 22 ∨ ix = 23 ∨ ix = 24 ∨ ix = 25 := by omega
    have hh := hI.held
    clear hi
    rcases hcase with rfl | rfl | rfl | rfl | rfl | rfl | rfl | rfl | rfl | rfl | rfl | rfl | rfl | rfl | rfl | rfl | rfl | rfl | rfl | rfl | rfl | rfl | rfl | rfl | rfl | rfl
    · simp only [List.getElem?_toArray, List.getElem?_cons_zero, Option.some.injEq] at ho
      subst ho
      refine ⟨rfl, ?_⟩
      have e2 : A_.tmps[2]?.getD undef = .pointer (some ⟨w.heap.size, 0, none⟩) := by rw [hI.low 2 (by decide) (by decide)]; rfl
      clear hI hdep
      exact .run rfl (by simp [execOp, go_sem, Act.eval, e2])
    · simp only [List.getElem?_toArray, List.getElem?_cons_succ, List.getElem?_cons_zero, Option.some.injEq] at ho
      subst ho
      refine ⟨rfl, ?_⟩
      have e5 : A_.tmps[5]?.getD undef = .pointer (some ⟨w.heap.size, 0, none⟩) := getD_of (hI.at_ (i := 0) rfl (by decide) (hdep ⟨0, .data⟩ (by simp) rfl))
      clear hI hdep
      obtain ⟨c0, c1, c2, d0, d1, d2, d3, d4, d5, d6, d7⟩ := HK.out w3 hh
      exact .run rfl (by simp [execOp, go_sem, Act.eval, *])
    · simp only [List.getElem?_toArray, List.getElem?_cons_succ, List.getElem?_cons_zero, Option.some.injEq] at ho
      subst ho
      refine ⟨rfl, ?_⟩
      have e6 : A_.tmps[6]?.getD undef = .string x := getD_of (hI.at_ (i := 1) rfl (by decide) (hdep ⟨1, .data⟩ (by simp) rfl))
      clear hI hdep
      exact .run rfl (by simp [execOp, go_sem, Act.eval, *])
    · simp only [List.getElem?_toArray, List.getElem?_cons_succ, List.getElem?_cons_zero, Option.some.injEq] at ho
      subst ho
      refine ⟨rfl, ?_⟩
      have e7 : A_.tmps[7]?.getD undef = .bool true := getD_of (hI.at_ (i := 2) rfl (by decide) (hdep ⟨2, .data⟩ (by simp) rfl))
      clear hI hdep
      exact .run rfl (by simp [execOp, go_sem, Act.eval, e7])
    · simp only [List.getElem?_toArray, List.getElem?_cons_succ, List.getElem?_cons_zero, Option.some.injEq] at ho
      subst ho
      refine ⟨rfl, ?_⟩
      have g8 : A_.tmps[8]? = some (.bool true) := hI.at_ (i := 3) rfl (by decide) (hdep ⟨3, .guard⟩ (by simp) rfl)
      have e3 : A_.tmps[3]?.getD undef = .pointer (some ⟨w.heap.size + 1, 0, none⟩) := by rw [hI.low 3 (by decide) (by decide)]; rfl
      clear hI hdep
      obtain ⟨c0, c1, c2, d0, d1, d2, d3, d4, d5, d6, d7⟩ := HK.out w3 hh
      exact .run ((wanted_some rfl rfl g8).trans rfl) (by simp [execOp, go_sem, Act.eval, *])
    · simp only [List.getElem?_toArray, List.getElem?_cons_succ, List.getElem?_cons_zero, Option.some.injEq] at ho
      subst ho
      refine ⟨rfl, ?_⟩
      have g8 : A_.tmps[8]? = some (.bool true) := hI.at_ (i := 3) rfl (by decide) (hdep ⟨3, .guard⟩ (by simp) rfl)
      have e2 : A_.tmps[2]?.getD undef = .pointer (some ⟨w.heap.size, 0, none⟩) := by rw [hI.low 2 (by decide) (by decide)]; rfl
      clear hI hdep
      obtain ⟨c0, c1, c2, d0, d1, d2, d3, d4, d5, d6, d7⟩ := HK.out w3 hh
      exact .run ((wanted_some rfl rfl g8).trans rfl) (by simp [execOp, go_sem, Act.eval, *])
    · simp only [List.getElem?_toArray, List.getElem?_cons_succ, List.getElem?_cons_zero, Option.some.injEq] at ho
      subst ho
      refine ⟨rfl, ?_⟩
      have g8 : A_.tmps[8]? = some (.bool true) := hI.at_ (i := 3) rfl (by decide) (hdep ⟨3, .guard⟩ (by simp) rfl)
      have e3 : A_.tmps[3]?.getD undef = .pointer (some ⟨w.heap.size + 1, 0, none⟩) := by rw [hI.low 3 (by decide) (by decide)]; rfl
      clear hI hdep
      obtain ⟨c0, c1, c2, d0, d1, d2, d3, d4, d5, d6, d7⟩ := HK.out w3 hh
      exact .run ((wanted_some rfl rfl g8).trans rfl) (by simp [execOp, go_sem, Act.eval, *])
    · simp only [List.getElem?_toArray, List.getElem?_cons_succ, List.getElem?_cons_zero, Option.some.injEq] at ho
      subst ho
      refine ⟨rfl, ?_⟩
      have g8 : A_.tmps[8]? = some (.bool true) := hI.at_ (i := 3) rfl (by decide) (hdep ⟨3, .guard⟩ (by simp) rfl)
      have e10 : A_.tmps[10]?.getD undef = .agg #[.string x, .bool b1, .bool b2] := getD_of (hI.at_ (i := 5) rfl (by decide) (hdep ⟨5, .data⟩ (by simp) rfl))
      have e11 : A_.tmps[11]?.getD undef = .agg #[.int .i64 k, .int .i64 n, .int .i64 a, .int .i64 c, .int .i64 h, .int .i64 t, .int .i64 i, .int .i64 p] := getD_of (hI.at_ (i := 6) rfl (by decide) (hdep ⟨6, .data⟩ (by simp) rfl))
      clear hI hdep
      exact .call ((wanted_some rfl rfl g8).trans rfl) 53 #[.agg #[.string x, .bool b1, .bool b2], .agg #[.int .i64 k, .int .i64 n, .int .i64 a, .int .i64 c, .int .i64 h, .int .i64 t, .int .i64 i, .int .i64 p]] (by simp [go_sem, Act.eval, e10, e11]) ((HW.out _).mono (fun e w' h => ⟨h.1, Below.trans hh (h.2.mono (Below.size hh))⟩))
    · simp only [List.getElem?_toArray, List.getElem?_cons_succ, List.getElem?_cons_zero, Option.some.injEq] at ho
      subst ho
      refine ⟨rfl, ?_⟩
      have g8 : A_.tmps[8]? = some (.bool true) := hI.at_ (i := 3) rfl (by decide) (hdep ⟨3, .guard⟩ (by simp) rfl)
      have e9 : A_.tmps[9]?.getD undef = .agg #[.int .i64 k, .int .i64 n, .int .i64 a, .int .i64 c, .int .i64 h, .int .i64 t, .int .i64 i, .int .i64 p] := getD_of (hI.at_ (i := 4) rfl (by decide) (hdep ⟨4, .data⟩ (by simp) rfl))
      have e12 : A_.tmps[12]?.getD undef = .agg #[.int .i64 k0, .int .i64 n0, .int .i64 a0, .int .i64 c0, .int .i64 h0, .int .i64 t0, .int .i64 i0, .int .i64 p0] := getD_of (hI.at_ (i := 7) rfl (by decide) (hdep ⟨7, .data⟩ (by simp) rfl))
      clear hI hdep
      exact .run ((wanted_some rfl rfl g8).trans rfl) (by simp [execOp, go_sem, Act.eval, *])
    · simp only [List.getElem?_toArray, List.getElem?_cons_succ, List.getElem?_cons_zero, Option.some.injEq] at ho
      subst ho
      refine ⟨rfl, ?_⟩
      have e8 : A_.tmps[8]?.getD undef = .bool true := getD_of (hI.at_ (i := 3) rfl (by decide) (hdep ⟨3, .data⟩ (by simp) rfl))
      have e13 : A_.tmps[13]?.getD undef = .bool false := getD_of (hI.at_ (i := 8) rfl (by decide) (hdep ⟨8, .data⟩ (by simp) rfl))
      clear hI hdep
      exact .run rfl (by simp [execOp, go_sem, Act.eval, e8, e13])
    · simp only [List.getElem?_toArray, List.getElem?_cons_succ, List.getElem?_cons_zero, Option.some.injEq] at ho
      subst ho
      refine ⟨rfl, ?_⟩
      have e14 : A_.tmps[14]?.getD undef = .bool false := getD_of (hI.at_ (i := 9) rfl (by decide) (hdep ⟨9, .data⟩ (by simp) rfl))
      clear hI hdep
      exact .run rfl (by simp [execOp, go_sem, Act.eval, e14])
    · simp only [List.getElem?_toArray, List.getElem?_cons_succ, List.getElem?_cons_zero, Option.some.injEq] at ho
      subst ho
      refine ⟨rfl, ?_⟩
      have g15 : A_.tmps[15]? = some (.bool false) := hI.at_ (i := 10) rfl (by decide) (hdep ⟨10, .guard⟩ (by simp) rfl)
      exact .skip ((wanted_some rfl rfl g15).trans rfl) rfl
    · simp only [List.getElem?_toArray, List.getElem?_cons_succ, List.getElem?_cons_zero, Option.some.injEq] at ho
      subst ho
      refine ⟨rfl, ?_⟩
      have g15 : A_.tmps[15]? = some (.bool false) := hI.at_ (i := 10) rfl (by decide) (hdep ⟨10, .guard⟩ (by simp) rfl)
      exact .skip ((wanted_some rfl rfl g15).trans rfl) rfl
    · simp only [List.getElem?_toArray, List.getElem?_cons_succ, List.getElem?_cons_zero, Option.some.injEq] at ho
      subst ho
      refine ⟨rfl, ?_⟩
      have g15 : A_.tmps[15]? = some (.bool false) := hI.at_ (i := 10) rfl (by decide) (hdep ⟨10, .guard⟩ (by simp) rfl)
      exact .skip ((wanted_some rfl rfl g15).trans rfl) rfl
    · simp only [List.getElem?_toArray, List.getElem?_cons_succ, List.getElem?_cons_zero, Option.some.injEq] at ho
      subst ho
      refine ⟨rfl, ?_⟩
      have e15 : A_.tmps[15]?.getD undef = .bool false := getD_of (hI.at_ (i := 10) rfl (by decide) (hdep ⟨10, .data⟩ (by simp) rfl))
      have e18 : A_.tmps[18]?.getD undef = undef := getD_of (hI.at_ (i := 13) rfl (by decide) (hdep ⟨13, .data⟩ (by simp) rfl))
      clear hI hdep
      exact .run rfl (by simp [execOp, go_sem, Act.eval, e15, e18])
    · simp only [List.getElem?_toArray, List.getElem?_cons_succ, List.getElem?_cons_zero, Option.some.injEq] at ho
      subst ho
      refine ⟨rfl, ?_⟩
      have e19 : A_.tmps[19]?.getD undef = .bool false := getD_of (hI.at_ (i := 14) rfl (by decide) (hdep ⟨14, .data⟩ (by simp) rfl))
      clear hI hdep
      exact .run rfl (by simp [execOp, go_sem, Act.eval, e19])
    · simp only [List.getElem?_toArray, List.getElem?_cons_succ, List.getElem?_cons_zero, Option.some.injEq] at ho
      subst ho
      refine ⟨rfl, ?_⟩
      have g20 : A_.tmps[20]? = some (.bool false) := hI.at_ (i := 15) rfl (by decide) (hdep ⟨15, .guard⟩ (by simp) rfl)
      exact .skip ((wanted_some rfl rfl g20).trans rfl) rfl
    · simp only [List.getElem?_toArray, List.getElem?_cons_succ, List.getElem?_cons_zero, Option.some.injEq] at ho
      subst ho
      refine ⟨rfl, ?_⟩
      have g20 : A_.tmps[20]? = some (.bool false) := hI.at_ (i := 15) rfl (by decide) (hdep ⟨15, .guard⟩ (by simp) rfl)
      exact .skip ((wanted_some rfl rfl g20).trans rfl) rfl
    · simp only [List.getElem?_toArray, List.getElem?_cons_succ, List.getElem?_cons_zero, Option.some.injEq] at ho
      subst ho
      refine ⟨rfl, ?_⟩
      have g20 : A_.tmps[20]? = some (.bool false) := hI.at_ (i := 15) rfl (by decide) (hdep ⟨15, .guard⟩ (by simp) rfl)
      exact .skip ((wanted_some rfl rfl g20).trans rfl) rfl
    · simp only [List.getElem?_toArray, List.getElem?_cons_succ, List.getElem?_cons_zero, Option.some.injEq] at ho
      subst ho
      refine ⟨rfl, ?_⟩
      have e20 : A_.tmps[20]?.getD undef = .bool false := getD_of (hI.at_ (i := 15) rfl (by decide) (hdep ⟨15, .data⟩ (by simp) rfl))
      have e23 : A_.tmps[23]?.getD undef = undef := getD_of (hI.at_ (i := 18) rfl (by decide) (hdep ⟨18, .data⟩ (by simp) rfl))
      clear hI hdep
      exact .run rfl (by simp [execOp, go_sem, Act.eval, e20, e23])
    · simp only [List.getElem?_toArray, List.getElem?_cons_succ, List.getElem?_cons_zero, Option.some.injEq] at ho
      subst ho
      refine ⟨rfl, ?_⟩
      have e24 : A_.tmps[24]?.getD undef = .bool false := getD_of (hI.at_ (i := 19) rfl (by decide) (hdep ⟨19, .data⟩ (by simp) rfl))
      clear hI hdep
      exact .run rfl (by simp [execOp, go_sem, Act.eval, e24])
    · simp only [List.getElem?_toArray, List.getElem?_cons_succ, List.getElem?_cons_zero, Option.some.injEq] at ho
      subst ho
      refine ⟨rfl, ?_⟩
      have g25 : A_.tmps[25]? = some (.bool false) := hI.at_ (i := 20) rfl (by decide) (hdep ⟨20, .guard⟩ (by simp) rfl)
      exact .skip ((wanted_some rfl rfl g25).trans rfl) rfl
    · simp only [List.getElem?_toArray, List.getElem?_cons_succ, List.getElem?_cons_zero, Option.some.injEq] at ho
      subst ho
      refine ⟨rfl, ?_⟩
      have g25 : A_.tmps[25]? = some (.bool false) := hI.at_ (i := 20) rfl (by decide) (hdep ⟨20, .guard⟩ (by simp) rfl)
      exact .skip ((wanted_some rfl rfl g25).trans rfl) rfl
    · simp only [List.getElem?_toArray, List.getElem?_cons_succ, List.getElem?_cons_zero, Option.some.injEq] at ho
      subst ho
      refine ⟨rfl, ?_⟩
      have g25 : A_.tmps[25]? = some (.bool false) := hI.at_ (i := 20) rfl (by decide) (hdep ⟨20, .guard⟩ (by simp) rfl)
      exact .skip ((wanted_some rfl rfl g25).trans rfl) rfl
    · simp only [List.getElem?_toArray, List.getElem?_cons_succ, List.getElem?_cons_zero, Option.some.injEq] at ho
      subst ho
      refine ⟨rfl, ?_⟩
      have e25 : A_.tmps[25]?.getD undef = .bool false := getD_of (hI.at_ (i := 20) rfl (by decide) (hdep ⟨20, .data⟩ (by simp) rfl))
      have e28 : A_.tmps[28]?.getD undef = undef := getD_of (hI.at_ (i := 23) rfl (by decide) (hdep ⟨23, .data⟩ (by simp) rfl))
      clear hI hdep
      exact .run rfl (by simp [execOp, go_sem, Act.eval, e25, e28])
    · simp only [List.getElem?_toArray, List.getElem?_cons_succ, List.getElem?_cons_zero, Option.some.injEq] at ho
      subst ho
      refine ⟨rfl, ?_⟩
      have e29 : A_.tmps[29]?.getD undef = .bool false := getD_of (hI.at_ (i := 24) rfl (by decide) (hdep ⟨24, .data⟩ (by simp) rfl))
      clear hI hdep
      exact .run rfl (by simp [execOp, go_sem, Act.eval, e29])
  case fin =>
  intro A_ w3 hs hd hlow hS hok
  obtain rfl : A_ = ⟨#[.agg #[.string x, .bool b1, .bool b2], .agg #[.int .i64 k, .int .i64 n, .int .i64 a, .int .i64 c, .int .i64 h, .int .i64 t, .int .i64 i, .int .i64 p], .pointer (some ⟨w.heap.size, 0, none⟩), .pointer (some ⟨w.heap.size + 1, 0, none⟩), .bool false, .pointer (some ⟨w.heap.size, 0, none⟩), .string x, .bool true, .bool true, .agg #[.int .i64 k, .int .i64 n, .int .i64 a, .int .i64 c, .int .i64 h, .int .i64 t, .int .i64 i, .int .i64 p], .agg #[.string x, .bool b1, .bool b2], .agg #[.int .i64 k, .int .i64 n, .int .i64 a, .int .i64 c, .int .i64 h, .int .i64 t, .int .i64 i, .int .i64 p], .agg #[.int .i64 k0, .int .i64 n0, .int .i64 a0, .int .i64 c0, .int .i64 h0, .int .i64 t0, .int .i64 i0, .int .i64 p0], .bool false, .bool false, .bool false, undef, undef, undef, .bool false, .bool false, undef, undef, undef, .bool false, .bool false, undef, undef, undef, .bool false], []⟩ := act_ext hd hs (fun j hj => match j, hj with | 0, _ => (hlow 0 (by decide) (by decide)).trans rfl | 1, _ => (hlow 1 (by decide) (by decide)).trans rfl | 2, _ => (hlow 2 (by decide) (by decide)).trans rfl | 3, _ => (hlow 3 (by decide) (by decide)).trans rfl | 4, _ => hok 25 4 (by decide) rfl | 5, _ => hok 0 5 (by decide) rfl | 6, _ => hok 1 6 (by decide) rfl | 7, _ => hok 2 7 (by decide) rfl | 8, _ => hok 3 8 (by decide) rfl | 9, _ => hok 4 9 (by decide) rfl | 10, _ => hok 5 10 (by decide) rfl | 11, _ => hok 6 11 (by decide) rfl | 12, _ => hok 7 12 (by decide) rfl | 13, _ => hok 8 13 (by decide) rfl | 14, _ => hok 9 14 (by decide) rfl | 15, _ => hok 10 15 (by decide) rfl | 16, _ => hok 11 16 (by decide) rfl | 17, _ => hok 12 17 (by decide) rfl | 18, _ => hok 13 18 (by decide) rfl | 19, _ => hok 14 19 (by decide) rfl | 20, _ => hok 15 20 (by decide) rfl | 21, _ => hok 16 21 (by decide) rfl | 22, _ => hok 17 22 (by decide) rfl | 23, _ => hok 18 23 (by decide) rfl | 24, _ => hok 19 24 (by decide) rfl | 25, _ => hok 20 25 (by decide) rfl | 26, _ => hok 21 26 (by decide) rfl | 27, _ => hok 22 27 (by decide) rfl | 28, _ => hok 23 28 (by decide) rfl | 29, _ => hok 24 29 (by decide) rfl | n + 30, h => absurd h (by show ¬ n + 30 < 30; omega))
  clear hs hd hlow hok
  go_wp2_with fail
  go_ret
  exact ⟨rfl, HB.out.trans (hS.mono HB.out.size)⟩
set_option maxHeartbeats 4000000 in
set_option maxRecDepth 100000 in
theorem fits_2 (x : ByteArray) (b1 b2 : Bool) (k n a c h t i p k0 n0 a0 c0 h0 t0 i0 p0 : Int) (w : World) (hx : ¬ x.toList = []) (HW : Hid (∀ V, Calls Tryz.prog 53 #[.agg #[.string x, .bool b1, .bool b2], .agg #[.int .i64 k, .int .i64 n, .int .i64 a, .int .i64 c, .int .i64 h, .int .i64 t, .int .i64 i, .int .i64 p]] V fun e w' => e = .returned (.agg #[.int .i64 k0, .int .i64 n0, .int .i64 a0, .int .i64 c0, .int .i64 h0, .int .i64 t0, .int .i64 i0, .int .i64 p0]) ∧ Below V.heap.size V w')) (hq : ∀ V, (binOp .eql 28 (.agg #[.int .i64 k, .int .i64 n, .int .i64 a, .int .i64 c, .int .i64 h, .int .i64 t, .int .i64 i, .int .i64 p]) (.agg #[.int .i64 k0, .int .i64 n0, .int .i64 a0, .int .i64 c0, .int .i64 h0, .int .i64 t0, .int .i64 i0, .int .i64 p0])).run Tryz.prog V = .ok (.bool true) V) (HN : Hid (∀ V, Calls Tryz.prog 54 #[.int .i64 n] V fun e w' => e = .returned (.bool false) ∧ V = w')) :
    Calls Tryz.prog 30 #[.agg #[.string x, .bool b1, .bool b2], .agg #[.int .i64 k, .int .i64 n, .int .i64 a, .int .i64 c, .int .i64 h, .int .i64 t, .int .i64 i, .int .i64 p]] w fun e w' => e = .returned (.bool false) ∧ Below w.heap.size w w' := by
  obtain ⟨U, hU, hb, k1, k2, hlt⟩ := two_boxes w (.cells #[.string x, .bool b1, .bool b2] 65) (.cells #[.int .i64 k, .int .i64 n, .int .i64 a, .int .i64 c, .int .i64 h, .int .i64 t, .int .i64 i, .int .i64 p] 28)
  have hl0 : w.heap.size < U.heap.size := by omega
  have HK := Lib.hid (show ∀ V, Below U.heap.size U V → V.cell? ⟨w.heap.size, 0, none⟩ = some (.string x) ∧ V.cell? ⟨w.heap.size, 1, none⟩ = some (.bool b1) ∧ V.cell? ⟨w.heap.size, 2, none⟩ = some (.bool b2) ∧ V.cell? ⟨w.heap.size + 1, 0, none⟩ = some (.int .i64 k) ∧ V.cell? ⟨w.heap.size + 1, 1, none⟩ = some (.int .i64 n) ∧ V.cell? ⟨w.heap.size + 1, 2, none⟩ = some (.int .i64 a) ∧ V.cell? ⟨w.heap.size + 1, 3, none⟩ = some (.int .i64 c) ∧ V.cell? ⟨w.heap.size + 1, 4, none⟩ = some (.int .i64 h) ∧ V.cell? ⟨w.heap.size + 1, 5, none⟩ = some (.int .i64 t) ∧ V.cell? ⟨w.heap.size + 1, 6, none⟩ = some (.int .i64 i) ∧ V.cell? ⟨w.heap.size + 1, 7, none⟩ = some (.int .i64 p) from by
    intro V B
    obtain ⟨b0, b1, b2, b3, b4, b5, b6, b7⟩ := row8 k2
    have a0 := cell_of_row _ _ 0 _ _ (0, 0) k1
    have a1 := cell_of_row _ _ 1 _ _ (0, 0) k1
    have a2 := cell_of_row _ _ 2 _ _ (0, 0) k1
    exact ⟨(B.cell (p := ⟨w.heap.size, 0, none⟩) hl0).trans a0, (B.cell (p := ⟨w.heap.size, 1, none⟩) hl0).trans a1, (B.cell (p := ⟨w.heap.size, 2, none⟩) hl0).trans a2, (B.cell (p := ⟨w.heap.size + 1, 0, none⟩) hlt).trans b0, (B.cell (p := ⟨w.heap.size + 1, 1, none⟩) hlt).trans b1, (B.cell (p := ⟨w.heap.size + 1, 2, none⟩) hlt).trans b2, (B.cell (p := ⟨w.heap.size + 1, 3, none⟩) hlt).trans b3, (B.cell (p := ⟨w.heap.size + 1, 4, none⟩) hlt).trans b4, (B.cell (p := ⟨w.heap.size + 1, 5, none⟩) hlt).trans b5, (B.cell (p := ⟨w.heap.size + 1, 6, none⟩) hlt).trans b6, (B.cell (p := ⟨w.heap.size + 1, 7, none⟩) hlt).trans b7⟩)
  have HU := Lib.hid hU
  have HB := Lib.hid hb
  clear hU hb k1 k2
  go_enter Tryz.func30, Tryz.ntmps30
  go_wp2_with fail
  rw [HU.out]
  clear HU
  refine region_vals 26 5 4 (fun i => if i = 25 then 4 else 5 + i) (fun ix_ => match ix_ with | 0 => .pointer (some ⟨w.heap.size, 0, none⟩) | 1 => .string x | 2 => .bool true | 3 => .bool true | 4 => .agg #[.int .i64 k, .int .i64 n, .int .i64 a, .int .i64 c, .int .i64 h, .int .i64 t, .int .i64 i, .int .i64 p] | 5 => .agg #[.string x, .bool b1, .bool b2] | 6 => .agg #[.int .i64 k, .int .i64 n, .int .i64 a, .int .i64 c, .int .i64 h, .int .i64 t, .int .i64 i, .int .i64 p] | 7 => .agg #[.int .i64 k0, .int .i64 n0, .int .i64 a0, .int .i64 c0, .int .i64 h0, .int .i64 t0, .int .i64 i0, .int .i64 p0] | 8 => .bool true | 9 => .bool true | 10 => .bool true | 11 => .pointer (some ⟨w.heap.size + 1, 1, none⟩) | 12 => .int .i64 n | 13 => .bool false | 14 => .bool false | 15 => .bool false | 16 => undef | 17 => undef | 18 => undef | 19 => .bool false | 20 => .bool false | 21 => undef | 22 => undef | 23 => undef | 24 => .bool false | 25 => .bool false | _ => undef) (fun V => Below U.heap.size U V) ((Below.refl _ U).drew) (by kernel_rfl) rfl (by kernel_rfl) (fun i hi => by show (if i = 25 then 4 else 5 + i) < 30 ∧ (5 ≤ (if i = 25 then 4 else 5 + i) ∨ (if i = 25 then 4 else 5 + i) = 4); (repeat' split) <;> omega) (fun i j hi hj => by show (if i = 25 then 4 else 5 + i) = (if j = 25 then 4 else 5 + j) → i = j; (repeat' split) <;> omega) ?step ?fin
  case step =>
    intro listed A_ w3 ix op_ hI ho hdep
    have hi : ix < 26 := (Array.getElem?_eq_some_iff.1 ho).1
    have hcase : ix = 0 ∨ ix = 1 ∨ ix = 2 ∨ ix = 3 ∨ ix = 4 ∨ ix = 5 ∨ ix = 6 ∨ ix = 7 ∨ ix = 8 ∨ ix = 9 ∨ ix = 10 ∨ ix = 11 ∨ ix = 12 ∨ ix = 13 ∨ ix = 14 ∨ ix = 15 ∨ ix = 16 ∨ ix = 17 ∨ ix = 18 ∨ ix = 19 ∨ ix = 20 ∨ ix = 21 ∨ ix = 22 ∨ ix = 23 ∨ ix = 24 ∨ ix = 25 := by omega
    have hh := hI.held
    clear hi
    rcases hcase with rfl | rfl | rfl | rfl | rfl | rfl | rfl | rfl | rfl | rfl | rfl | rfl | rfl | rfl | rfl | rfl | rfl | rfl | rfl | rfl | rfl | rfl | rfl | rfl | rfl | rfl
    · simp only [List.getElem?_toArray, List.getElem?_cons_zero, Option.some.injEq] at ho
      subst ho
      refine ⟨rfl, ?_⟩
      have e2 : A_.tmps[2]?.getD undef = .pointer (some ⟨w.heap.size, 0, none⟩) := by rw [hI.low 2 (by decide) (by decide)]; rfl
      clear hI hdep
      exact .run rfl (by simp [execOp, go_sem, Act.eval, e2])
    · simp only [List.getElem?_toArray, List.getElem?_cons_succ, List.getElem?_cons_zero, Option.some.injEq] at ho
      subst ho
      refine ⟨rfl, ?_⟩
      have e5 : A_.tmps[5]?.getD undef = .pointer (some ⟨w.heap.size, 0, none⟩) := getD_of (hI.at_ (i := 0) rfl (by decide) (hdep ⟨0, .data⟩ (by simp) rfl))
      clear hI hdep
      obtain ⟨c0, c1, c2, d0, d1, d2, d3, d4, d5, d6, d7⟩ := HK.out w3 hh
      exact .run rfl (by simp [execOp, go_sem, Act.eval, *])
    · simp only [List.getElem?_toArray, List.getElem?_cons_succ, List.getElem?_cons_zero, Option.some.injEq] at ho
      subst ho
      refine ⟨rfl, ?_⟩
      have e6 : A_.tmps[6]?.getD undef = .string x := getD_of (hI.at_ (i := 1) rfl (by decide) (hdep ⟨1, .data⟩ (by simp) rfl))
      clear hI hdep
      exact .run rfl (by simp [execOp, go_sem, Act.eval, *])
    · simp only [List.getElem?_toArray, List.getElem?_cons_succ, List.getElem?_cons_zero, Option.some.injEq] at ho
      subst ho
      refine ⟨rfl, ?_⟩
      have e7 : A_.tmps[7]?.getD undef = .bool true := getD_of (hI.at_ (i := 2) rfl (by decide) (hdep ⟨2, .data⟩ (by simp) rfl))
      clear hI hdep
      exact .run rfl (by simp [execOp, go_sem, Act.eval, e7])
    · simp only [List.getElem?_toArray, List.getElem?_cons_succ, List.getElem?_cons_zero, Option.some.injEq] at ho
      subst ho
      refine ⟨rfl, ?_⟩
      have g8 : A_.tmps[8]? = some (.bool true) := hI.at_ (i := 3) rfl (by decide) (hdep ⟨3, .guard⟩ (by simp) rfl)
      have e3 : A_.tmps[3]?.getD undef = .pointer (some ⟨w.heap.size + 1, 0, none⟩) := by rw [hI.low 3 (by decide) (by decide)]; rfl
      clear hI hdep
      obtain ⟨c0, c1, c2, d0, d1, d2, d3, d4, d5, d6, d7⟩ := HK.out w3 hh
      exact .run ((wanted_some rfl rfl g8).trans rfl) (by simp [execOp, go_sem, Act.eval, *])
    · simp only [List.getElem?_toArray, List.getElem?_cons_succ, List.getElem?_cons_zero, Option.some.injEq] at ho
      subst ho
      refine ⟨rfl, ?_⟩
      have g8 : A_.tmps[8]? = some (.bool true) := hI.at_ (i := 3) rfl (by decide) (hdep ⟨3, .guard⟩ (by simp) rfl)
      have e2 : A_.tmps[2]?.getD undef = .pointer (some ⟨w.heap.size, 0, none⟩) := by rw [hI.low 2 (by decide) (by decide)]; rfl
      clear hI hdep
      obtain ⟨c0, c1, c2, d0, d1, d2, d3, d4, d5, d6, d7⟩ := HK.out w3 hh
      exact .run ((wanted_some rfl rfl g8).trans rfl) (by simp [execOp, go_sem, Act.eval, *])
    · simp only [List.getElem?_toArray, List.getElem?_cons_succ, List.getElem?_cons_zero, Option.some.injEq] at ho
      subst ho
      refine ⟨rfl, ?_⟩
      have g8 : A_.tmps[8]? = some (.bool true) := hI.at_ (i := 3) rfl (by decide) (hdep ⟨3, .guard⟩ (by simp) rfl)
      have e3 : A_.tmps[3]?.getD undef = .pointer (some ⟨w.heap.size + 1, 0, none⟩) := by rw [hI.low 3 (by decide) (by decide)]; rfl
      clear hI hdep
      obtain ⟨c0, c1, c2, d0, d1, d2, d3, d4, d5, d6, d7⟩ := HK.out w3 hh
      exact .run ((wanted_some rfl rfl g8).trans rfl) (by simp [execOp, go_sem, Act.eval, *])
    · simp only [List.getElem?_toArray, List.getElem?_cons_succ, List.getElem?_cons_zero, Option.some.injEq] at ho
      subst ho
      refine ⟨rfl, ?_⟩
      have g8 : A_.tmps[8]? = some (.bool true) := hI.at_ (i := 3) rfl (by decide) (hdep ⟨3, .guard⟩ (by simp) rfl)
      have e10 : A_.tmps[10]?.getD undef = .agg #[.string x, .bool b1, .bool b2] := getD_of (hI.at_ (i := 5) rfl (by decide) (hdep ⟨5, .data⟩ (by simp) rfl))
      have e11 : A_.tmps[11]?.getD undef = .agg #[.int .i64 k, .int .i64 n, .int .i64 a, .int .i64 c, .int .i64 h, .int .i64 t, .int .i64 i, .int .i64 p] := getD_of (hI.at_ (i := 6) rfl (by decide) (hdep ⟨6, .data⟩ (by simp) rfl))
      clear hI hdep
      exact .call ((wanted_some rfl rfl g8).trans rfl) 53 #[.agg #[.string x, .bool b1, .bool b2], .agg #[.int .i64 k, .int .i64 n, .int .i64 a, .int .i64 c, .int .i64 h, .int .i64 t, .int .i64 i, .int .i64 p]] (by simp [go_sem, Act.eval, e10, e11]) ((HW.out _).mono (fun e w' h => ⟨h.1, Below.trans hh (h.2.mono (Below.size hh))⟩))
    · simp only [List.getElem?_toArray, List.getElem?_cons_succ, List.getElem?_cons_zero, Option.some.injEq] at ho
      subst ho
      refine ⟨rfl, ?_⟩
      have g8 : A_.tmps[8]? = some (.bool true) := hI.at_ (i := 3) rfl (by decide) (hdep ⟨3, .guard⟩ (by simp) rfl)
      have e9 : A_.tmps[9]?.getD undef = .agg #[.int .i64 k, .int .i64 n, .int .i64 a, .int .i64 c, .int .i64 h, .int .i64 t, .int .i64 i, .int .i64 p] := getD_of (hI.at_ (i := 4) rfl (by decide) (hdep ⟨4, .data⟩ (by simp) rfl))
      have e12 : A_.tmps[12]?.getD undef = .agg #[.int .i64 k0, .int .i64 n0, .int .i64 a0, .int .i64 c0, .int .i64 h0, .int .i64 t0, .int .i64 i0, .int .i64 p0] := getD_of (hI.at_ (i := 7) rfl (by decide) (hdep ⟨7, .data⟩ (by simp) rfl))
      clear hI hdep
      exact .run ((wanted_some rfl rfl g8).trans rfl) (by simp [execOp, go_sem, Act.eval, *])
    · simp only [List.getElem?_toArray, List.getElem?_cons_succ, List.getElem?_cons_zero, Option.some.injEq] at ho
      subst ho
      refine ⟨rfl, ?_⟩
      have e8 : A_.tmps[8]?.getD undef = .bool true := getD_of (hI.at_ (i := 3) rfl (by decide) (hdep ⟨3, .data⟩ (by simp) rfl))
      have e13 : A_.tmps[13]?.getD undef = .bool true := getD_of (hI.at_ (i := 8) rfl (by decide) (hdep ⟨8, .data⟩ (by simp) rfl))
      clear hI hdep
      exact .run rfl (by simp [execOp, go_sem, Act.eval, e8, e13])
    · simp only [List.getElem?_toArray, List.getElem?_cons_succ, List.getElem?_cons_zero, Option.some.injEq] at ho
      subst ho
      refine ⟨rfl, ?_⟩
      have e14 : A_.tmps[14]?.getD undef = .bool true := getD_of (hI.at_ (i := 9) rfl (by decide) (hdep ⟨9, .data⟩ (by simp) rfl))
      clear hI hdep
      exact .run rfl (by simp [execOp, go_sem, Act.eval, e14])
    · simp only [List.getElem?_toArray, List.getElem?_cons_succ, List.getElem?_cons_zero, Option.some.injEq] at ho
      subst ho
      refine ⟨rfl, ?_⟩
      have g15 : A_.tmps[15]? = some (.bool true) := hI.at_ (i := 10) rfl (by decide) (hdep ⟨10, .guard⟩ (by simp) rfl)
      have e3 : A_.tmps[3]?.getD undef = .pointer (some ⟨w.heap.size + 1, 0, none⟩) := by rw [hI.low 3 (by decide) (by decide)]; rfl
      clear hI hdep
      exact .run ((wanted_some rfl rfl g15).trans rfl) (by simp [execOp, go_sem, Act.eval, e3])
    · simp only [List.getElem?_toArray, List.getElem?_cons_succ, List.getElem?_cons_zero, Option.some.injEq] at ho
      subst ho
      refine ⟨rfl, ?_⟩
      have g15 : A_.tmps[15]? = some (.bool true) := hI.at_ (i := 10) rfl (by decide) (hdep ⟨10, .guard⟩ (by simp) rfl)
      have e16 : A_.tmps[16]?.getD undef = .pointer (some ⟨w.heap.size + 1, 1, none⟩) := getD_of (hI.at_ (i := 11) rfl (by decide) (hdep ⟨11, .data⟩ (by simp) rfl))
      clear hI hdep
      obtain ⟨c0, c1, c2, d0, d1, d2, d3, d4, d5, d6, d7⟩ := HK.out w3 hh
      exact .run ((wanted_some rfl rfl g15).trans rfl) (by simp [execOp, go_sem, Act.eval, *])
    · simp only [List.getElem?_toArray, List.getElem?_cons_succ, List.getElem?_cons_zero, Option.some.injEq] at ho
      subst ho
      refine ⟨rfl, ?_⟩
      have g15 : A_.tmps[15]? = some (.bool true) := hI.at_ (i := 10) rfl (by decide) (hdep ⟨10, .guard⟩ (by simp) rfl)
      have e17 : A_.tmps[17]?.getD undef = .int .i64 n := getD_of (hI.at_ (i := 12) rfl (by decide) (hdep ⟨12, .data⟩ (by simp) rfl))
      clear hI hdep
      exact .call ((wanted_some rfl rfl g15).trans rfl) 54 #[.int .i64 n] (by simp [go_sem, Act.eval, e17]) ((HN.out _).mono (fun e w' h => ⟨h.1, h.2 ▸ hh⟩))
    · simp only [List.getElem?_toArray, List.getElem?_cons_succ, List.getElem?_cons_zero, Option.some.injEq] at ho
      subst ho
      refine ⟨rfl, ?_⟩
      have e15 : A_.tmps[15]?.getD undef = .bool true := getD_of (hI.at_ (i := 10) rfl (by decide) (hdep ⟨10, .data⟩ (by simp) rfl))
      have e18 : A_.tmps[18]?.getD undef = .bool false := getD_of (hI.at_ (i := 13) rfl (by decide) (hdep ⟨13, .data⟩ (by simp) rfl))
      clear hI hdep
      exact .run rfl (by simp [execOp, go_sem, Act.eval, e15, e18])
    · simp only [List.getElem?_toArray, List.getElem?_cons_succ, List.getElem?_cons_zero, Option.some.injEq] at ho
      subst ho
      refine ⟨rfl, ?_⟩
      have e19 : A_.tmps[19]?.getD undef = .bool false := getD_of (hI.at_ (i := 14) rfl (by decide) (hdep ⟨14, .data⟩ (by simp) rfl))
      clear hI hdep
      exact .run rfl (by simp [execOp, go_sem, Act.eval, e19])
    · simp only [List.getElem?_toArray, List.getElem?_cons_succ, List.getElem?_cons_zero, Option.some.injEq] at ho
      subst ho
      refine ⟨rfl, ?_⟩
      have g20 : A_.tmps[20]? = some (.bool false) := hI.at_ (i := 15) rfl (by decide) (hdep ⟨15, .guard⟩ (by simp) rfl)
      exact .skip ((wanted_some rfl rfl g20).trans rfl) rfl
    · simp only [List.getElem?_toArray, List.getElem?_cons_succ, List.getElem?_cons_zero, Option.some.injEq] at ho
      subst ho
      refine ⟨rfl, ?_⟩
      have g20 : A_.tmps[20]? = some (.bool false) := hI.at_ (i := 15) rfl (by decide) (hdep ⟨15, .guard⟩ (by simp) rfl)
      exact .skip ((wanted_some rfl rfl g20).trans rfl) rfl
    · simp only [List.getElem?_toArray, List.getElem?_cons_succ, List.getElem?_cons_zero, Option.some.injEq] at ho
      subst ho
      refine ⟨rfl, ?_⟩
      have g20 : A_.tmps[20]? = some (.bool false) := hI.at_ (i := 15) rfl (by decide) (hdep ⟨15, .guard⟩ (by simp) rfl)
      exact .skip ((wanted_some rfl rfl g20).trans rfl) rfl
    · simp only [List.getElem?_toArray, List.getElem?_cons_succ, List.getElem?_cons_zero, Option.some.injEq] at ho
      subst ho
      refine ⟨rfl, ?_⟩
      have e20 : A_.tmps[20]?.getD undef = .bool false := getD_of (hI.at_ (i := 15) rfl (by decide) (hdep ⟨15, .data⟩ (by simp) rfl))
      have e23 : A_.tmps[23]?.getD undef = undef := getD_of (hI.at_ (i := 18) rfl (by decide) (hdep ⟨18, .data⟩ (by simp) rfl))
      clear hI hdep
      exact .run rfl (by simp [execOp, go_sem, Act.eval, e20, e23])
    · simp only [List.getElem?_toArray, List.getElem?_cons_succ, List.getElem?_cons_zero, Option.some.injEq] at ho
      subst ho
      refine ⟨rfl, ?_⟩
      have e24 : A_.tmps[24]?.getD undef = .bool false := getD_of (hI.at_ (i := 19) rfl (by decide) (hdep ⟨19, .data⟩ (by simp) rfl))
      clear hI hdep
      exact .run rfl (by simp [execOp, go_sem, Act.eval, e24])
    · simp only [List.getElem?_toArray, List.getElem?_cons_succ, List.getElem?_cons_zero, Option.some.injEq] at ho
      subst ho
      refine ⟨rfl, ?_⟩
      have g25 : A_.tmps[25]? = some (.bool false) := hI.at_ (i := 20) rfl (by decide) (hdep ⟨20, .guard⟩ (by simp) rfl)
      exact .skip ((wanted_some rfl rfl g25).trans rfl) rfl
    · simp only [List.getElem?_toArray, List.getElem?_cons_succ, List.getElem?_cons_zero, Option.some.injEq] at ho
      subst ho
      refine ⟨rfl, ?_⟩
      have g25 : A_.tmps[25]? = some (.bool false) := hI.at_ (i := 20) rfl (by decide) (hdep ⟨20, .guard⟩ (by simp) rfl)
      exact .skip ((wanted_some rfl rfl g25).trans rfl) rfl
    · simp only [List.getElem?_toArray, List.getElem?_cons_succ, List.getElem?_cons_zero, Option.some.injEq] at ho
      subst ho
      refine ⟨rfl, ?_⟩
      have g25 : A_.tmps[25]? = some (.bool false) := hI.at_ (i := 20) rfl (by decide) (hdep ⟨20, .guard⟩ (by simp) rfl)
      exact .skip ((wanted_some rfl rfl g25).trans rfl) rfl
    · simp only [List.getElem?_toArray, List.getElem?_cons_succ, List.getElem?_cons_zero, Option.some.injEq] at ho
      subst ho
      refine ⟨rfl, ?_⟩
      have e25 : A_.tmps[25]?.getD undef = .bool false := getD_of (hI.at_ (i := 20) rfl (by decide) (hdep ⟨20, .data⟩ (by simp) rfl))
      have e28 : A_.tmps[28]?.getD undef = undef := getD_of (hI.at_ (i := 23) rfl (by decide) (hdep ⟨23, .data⟩ (by simp) rfl))
      clear hI hdep
      exact .run rfl (by simp [execOp, go_sem, Act.eval, e25, e28])
    · simp only [List.getElem?_toArray, List.getElem?_cons_succ, List.getElem?_cons_zero, Option.some.injEq] at ho
      subst ho
      refine ⟨rfl, ?_⟩
      have e29 : A_.tmps[29]?.getD undef = .bool false := getD_of (hI.at_ (i := 24) rfl (by decide) (hdep ⟨24, .data⟩ (by simp) rfl))
      clear hI hdep
      exact .run rfl (by simp [execOp, go_sem, Act.eval, e29])
  case fin =>
  intro A_ w3 hs hd hlow hS hok
  obtain rfl : A_ = ⟨#[.agg #[.string x, .bool b1, .bool b2], .agg #[.int .i64 k, .int .i64 n, .int .i64 a, .int .i64 c, .int .i64 h, .int .i64 t, .int .i64 i, .int .i64 p], .pointer (some ⟨w.heap.size, 0, none⟩), .pointer (some ⟨w.heap.size + 1, 0, none⟩), .bool false, .pointer (some ⟨w.heap.size, 0, none⟩), .string x, .bool true, .bool true, .agg #[.int .i64 k, .int .i64 n, .int .i64 a, .int .i64 c, .int .i64 h, .int .i64 t, .int .i64 i, .int .i64 p], .agg #[.string x, .bool b1, .bool b2], .agg #[.int .i64 k, .int .i64 n, .int .i64 a, .int .i64 c, .int .i64 h, .int .i64 t, .int .i64 i, .int .i64 p], .agg #[.int .i64 k0, .int .i64 n0, .int .i64 a0, .int .i64 c0, .int .i64 h0, .int .i64 t0, .int .i64 i0, .int .i64 p0], .bool true, .bool true, .bool true, .pointer (some ⟨w.heap.size + 1, 1, none⟩), .int .i64 n, .bool false, .bool false, .bool false, undef, undef, undef, .bool false, .bool false, undef, undef, undef, .bool false], []⟩ := act_ext hd hs (fun j hj => match j, hj with | 0, _ => (hlow 0 (by decide) (by decide)).trans rfl | 1, _ => (hlow 1 (by decide) (by decide)).trans rfl | 2, _ => (hlow 2 (by decide) (by decide)).trans rfl | 3, _ => (hlow 3 (by decide) (by decide)).trans rfl | 4, _ => hok 25 4 (by decide) rfl | 5, _ => hok 0 5 (by decide) rfl | 6, _ => hok 1 6 (by decide) rfl | 7, _ => hok 2 7 (by decide) rfl | 8, _ => hok 3 8 (by decide) rfl | 9, _ => hok 4 9 (by decide) rfl | 10, _ => hok 5 10 (by decide) rfl | 11, _ => hok 6 11 (by decide) rfl | 12, _ => hok 7 12 (by decide) rfl | 13, _ => hok 8 13 (by decide) rfl | 14, _ => hok 9 14 (by decide) rfl | 15, _ => hok 10 15 (by decide) rfl | 16, _ => hok 11 16 (by decide) rfl | 17, _ => hok 12 17 (by decide) rfl | 18, _ => hok 13 18 (by decide) rfl | 19, _ => hok 14 19 (by decide) rfl | 20, _ => hok 15 20 (by decide) rfl | 21, _ => hok 16 21 (by decide) rfl | 22, _ => hok 17 22 (by decide) rfl | 23, _ => hok 18 23 (by decide) rfl | 24, _ => hok 19 24 (by decide) rfl | 25, _ => hok 20 25 (by decide) rfl | 26, _ => hok 21 26 (by decide) rfl | 27, _ => hok 22 27 (by decide) rfl | 28, _ => hok 23 28 (by decide) rfl | 29, _ => hok 24 29 (by decide) rfl | n + 30, h => absurd h (by show ¬ n + 30 < 30; omega))
  clear hs hd hlow hok
  go_wp2_with fail
  go_ret
  exact ⟨rfl, HB.out.trans (hS.mono HB.out.size)⟩
set_option maxHeartbeats 4000000 in
set_option maxRecDepth 100000 in
theorem fits_3 (x : ByteArray) (b1 b2 : Bool) (k n a c h t i p k0 n0 a0 c0 h0 t0 i0 p0 : Int) (w : World) (hx : ¬ x.toList = []) (HW : Hid (∀ V, Calls Tryz.prog 53 #[.agg #[.string x, .bool b1, .bool b2], .agg #[.int .i64 k, .int .i64 n, .int .i64 a, .int .i64 c, .int .i64 h, .int .i64 t, .int .i64 i, .int .i64 p]] V fun e w' => e = .returned (.agg #[.int .i64 k0, .int .i64 n0, .int .i64 a0, .int .i64 c0, .int .i64 h0, .int .i64 t0, .int .i64 i0, .int .i64 p0]) ∧ Below V.heap.size V w')) (hq : ∀ V, (binOp .eql 28 (.agg #[.int .i64 k, .int .i64 n, .int .i64 a, .int .i64 c, .int .i64 h, .int .i64 t, .int .i64 i, .int .i64 p]) (.agg #[.int .i64 k0, .int .i64 n0, .int .i64 a0, .int .i64 c0, .int .i64 h0, .int .i64 t0, .int .i64 i0, .int .i64 p0])).run Tryz.prog V = .ok (.bool true) V) (HN : Hid (∀ V, Calls Tryz.prog 54 #[.int .i64 n] V fun e w' => e = .returned (.bool true) ∧ V = w')) (HA : Hid (∀ V, Calls Tryz.prog 40 #[.int .i64 a, .int .i64 2147483647] V fun e w' => e = .returned (.bool false) ∧ V = w')) :
    Calls Tryz.prog 30 #[.agg #[.string x, .bool b1, .bool b2], .agg #[.int .i64 k, .int .i64 n, .int .i64 a, .int .i64 c, .int .i64 h, .int .i64 t, .int .i64 i, .int .i64 p]] w fun e w' => e = .returned (.bool false) ∧ Below w.heap.size w w' := by
  obtain ⟨U, hU, hb, k1, k2, hlt⟩ := two_boxes w (.cells #[.string x, .bool b1, .bool b2] 65) (.cells #[.int .i64 k, .int .i64 n, .int .i64 a, .int .i64 c, .int .i64 h, .int .i64 t, .int .i64 i, .int .i64 p] 28)
  have hl0 : w.heap.size < U.heap.size := by omega
  have HK := Lib.hid (show ∀ V, Below U.heap.size U V → V.cell? ⟨w.heap.size, 0, none⟩ = some (.string x) ∧ V.cell? ⟨w.heap.size, 1, none⟩ = some (.bool b1) ∧ V.cell? ⟨w.heap.size, 2, none⟩ = some (.bool b2) ∧ V.cell? ⟨w.heap.size + 1, 0, none⟩ = some (.int .i64 k) ∧ V.cell? ⟨w.heap.size + 1, 1, none⟩ = some (.int .i64 n) ∧ V.cell? ⟨w.heap.size + 1, 2, none⟩ = some (.int .i64 a) ∧ V.cell? ⟨w.heap.size + 1, 3, none⟩ = some (.int .i64 c) ∧ V.cell? ⟨w.heap.size + 1, 4, none⟩ = some (.int .i64 h) ∧ V.cell? ⟨w.heap.size + 1, 5, none⟩ = some (.int .i64 t) ∧ V.cell? ⟨w.heap.size + 1, 6, none⟩ = some (.int .i64 i) ∧ V.cell? ⟨w.heap.size + 1, 7, none⟩ = some (.int .i64 p) from by
    intro V B
    obtain ⟨b0, b1, b2, b3, b4, b5, b6, b7⟩ := row8 k2
    have a0 := cell_of_row _ _ 0 _ _ (0, 0) k1
    have a1 := cell_of_row _ _ 1 _ _ (0, 0) k1
    have a2 := cell_of_row _ _ 2 _ _ (0, 0) k1
    exact ⟨(B.cell (p := ⟨w.heap.size, 0, none⟩) hl0).trans a0, (B.cell (p := ⟨w.heap.size, 1, none⟩) hl0).trans a1, (B.cell (p := ⟨w.heap.size, 2, none⟩) hl0).trans a2, (B.cell (p := ⟨w.heap.size + 1, 0, none⟩) hlt).trans b0, (B.cell (p := ⟨w.heap.size + 1, 1, none⟩) hlt).trans b1, (B.cell (p := ⟨w.heap.size + 1, 2, none⟩) hlt).trans b2, (B.cell (p := ⟨w.heap.size + 1, 3, none⟩) hlt).trans b3, (B.cell (p := ⟨w.heap.size + 1, 4, none⟩) hlt).trans b4, (B.cell (p := ⟨w.heap.size + 1, 5, none⟩) hlt).trans b5, (B.cell (p := ⟨w.heap.size + 1, 6, none⟩) hlt).trans b6, (B.cell (p := ⟨w.heap.size + 1, 7, none⟩) hlt).trans b7⟩)
  have HU := Lib.hid hU
  have HB := Lib.hid hb
  clear hU hb k1 k2
  go_enter Tryz.func30, Tryz.ntmps30
  go_wp2_with fail
  rw [HU.out]
  clear HU
  refine region_vals 26 5 4 (fun i => if i = 25 then 4 else 5 + i) (fun ix_ => match ix_ with | 0 => .pointer (some ⟨w.heap.size, 0, none⟩) | 1 => .string x | 2 => .bool true | 3 => .bool true | 4 => .agg #[.int .i64 k, .int .i64 n, .int .i64 a, .int .i64 c, .int .i64 h, .int .i64 t, .int .i64 i, .int .i64 p] | 5 => .agg #[.string x, .bool b1, .bool b2] | 6 => .agg #[.int .i64 k, .int .i64 n, .int .i64 a, .int .i64 c, .int .i64 h, .int .i64 t, .int .i64 i, .int .i64 p] | 7 => .agg #[.int .i64 k0, .int .i64 n0, .int .i64 a0, .int .i64 c0, .int .i64 h0, .int .i64 t0, .int .i64 i0, .int .i64 p0] | 8 => .bool true | 9 => .bool true | 10 => .bool true | 11 => .pointer (some ⟨w.heap.size + 1, 1, none⟩) | 12 => .int .i64 n | 13 => .bool true | 14 => .bool true | 15 => .bool true | 16 => .pointer (some ⟨w.heap.size + 1, 2, none⟩) | 17 => .int .i64 a | 18 => .bool false | 19 => .bool false | 20 => .bool false | 21 => undef | 22 => undef | 23 => undef | 24 => .bool false | 25 => .bool false | _ => undef) (fun V => Below U.heap.size U V) ((Below.refl _ U).drew) (by kernel_rfl) rfl (by kernel_rfl) (fun i hi => by show (if i = 25 then 4 else 5 + i) < 30 ∧ (5 ≤ (if i = 25 then 4 else 5 + i) ∨ (if i = 25 then 4 else 5 + i) = 4); (repeat' split) <;> omega) (fun i j hi hj => by show (if i = 25 then 4 else 5 + i) = (if j = 25 then 4 else 5 + j) → i = j; (repeat' split) <;> omega) ?step ?fin
  case step =>
    intro listed A_ w3 ix op_ hI ho hdep
    have hi : ix < 26 := (Array.getElem?_eq_some_iff.1 ho).1
    have hcase : ix = 0 ∨ ix = 1 ∨ ix = 2 ∨ ix = 3 ∨ ix = 4 ∨ ix = 5 ∨ ix = 6 ∨ ix = 7 ∨ ix = 8 ∨ ix = 9 ∨ ix = 10 ∨ ix = 11 ∨ ix = 12 ∨ ix = 13 ∨ ix = 14 ∨ ix = 15 ∨ ix = 16 ∨ ix = 17 ∨ ix = 18 ∨ ix = 19 ∨ ix = 20 ∨ ix = 21 ∨ ix = 22 ∨ ix = 23 ∨ ix = 24 ∨ ix = 25 := by omega
    have hh := hI.held
    clear hi
    rcases hcase with rfl | rfl | rfl | rfl | rfl | rfl | rfl | rfl | rfl | rfl | rfl | rfl | rfl | rfl | rfl | rfl | rfl | rfl | rfl | rfl | rfl | rfl | rfl | rfl | rfl | rfl
    · simp only [List.getElem?_toArray, List.getElem?_cons_zero, Option.some.injEq] at ho
      subst ho
      refine ⟨rfl, ?_⟩
      have e2 : A_.tmps[2]?.getD undef = .pointer (some ⟨w.heap.size, 0, none⟩) := by rw [hI.low 2 (by decide) (by decide)]; rfl
      clear hI hdep
      exact .run rfl (by simp [execOp, go_sem, Act.eval, e2])
    · simp only [List.getElem?_toArray, List.getElem?_cons_succ, List.getElem?_cons_zero, Option.some.injEq] at ho
      subst ho
      refine ⟨rfl, ?_⟩
      have e5 : A_.tmps[5]?.getD undef = .pointer (some ⟨w.heap.size, 0, none⟩) := getD_of (hI.at_ (i := 0) rfl (by decide) (hdep ⟨0, .data⟩ (by simp) rfl))
      clear hI hdep
      obtain ⟨c0, c1, c2, d0, d1, d2, d3, d4, d5, d6, d7⟩ := HK.out w3 hh
      exact .run rfl (by simp [execOp, go_sem, Act.eval, *])
    · simp only [List.getElem?_toArray, List.getElem?_cons_succ, List.getElem?_cons_zero, Option.some.injEq] at ho
      subst ho
      refine ⟨rfl, ?_⟩
      have e6 : A_.tmps[6]?.getD undef = .string x := getD_of (hI.at_ (i := 1) rfl (by decide) (hdep ⟨1, .data⟩ (by simp) rfl))
      clear hI hdep
      exact .run rfl (by simp [execOp, go_sem, Act.eval, *])
    · simp only [List.getElem?_toArray, List.getElem?_cons_succ, List.getElem?_cons_zero, Option.some.injEq] at ho
      subst ho
      refine ⟨rfl, ?_⟩
      have e7 : A_.tmps[7]?.getD undef = .bool true := getD_of (hI.at_ (i := 2) rfl (by decide) (hdep ⟨2, .data⟩ (by simp) rfl))
      clear hI hdep
      exact .run rfl (by simp [execOp, go_sem, Act.eval, e7])
    · simp only [List.getElem?_toArray, List.getElem?_cons_succ, List.getElem?_cons_zero, Option.some.injEq] at ho
      subst ho
      refine ⟨rfl, ?_⟩
      have g8 : A_.tmps[8]? = some (.bool true) := hI.at_ (i := 3) rfl (by decide) (hdep ⟨3, .guard⟩ (by simp) rfl)
      have e3 : A_.tmps[3]?.getD undef = .pointer (some ⟨w.heap.size + 1, 0, none⟩) := by rw [hI.low 3 (by decide) (by decide)]; rfl
      clear hI hdep
      obtain ⟨c0, c1, c2, d0, d1, d2, d3, d4, d5, d6, d7⟩ := HK.out w3 hh
      exact .run ((wanted_some rfl rfl g8).trans rfl) (by simp [execOp, go_sem, Act.eval, *])
    · simp only [List.getElem?_toArray, List.getElem?_cons_succ, List.getElem?_cons_zero, Option.some.injEq] at ho
      subst ho
      refine ⟨rfl, ?_⟩
      have g8 : A_.tmps[8]? = some (.bool true) := hI.at_ (i := 3) rfl (by decide) (hdep ⟨3, .guard⟩ (by simp) rfl)
      have e2 : A_.tmps[2]?.getD undef = .pointer (some ⟨w.heap.size, 0, none⟩) := by rw [hI.low 2 (by decide) (by decide)]; rfl
      clear hI hdep
      obtain ⟨c0, c1, c2, d0, d1, d2, d3, d4, d5, d6, d7⟩ := HK.out w3 hh
      exact .run ((wanted_some rfl rfl g8).trans rfl) (by simp [execOp, go_sem, Act.eval, *])
    · simp only [List.getElem?_toArray, List.getElem?_cons_succ, List.getElem?_cons_zero, Option.some.injEq] at ho
      subst ho
      refine ⟨rfl, ?_⟩
      have g8 : A_.tmps[8]? = some (.bool true) := hI.at_ (i := 3) rfl (by decide) (hdep ⟨3, .guard⟩ (by simp) rfl)
      have e3 : A_.tmps[3]?.getD undef = .pointer (some ⟨w.heap.size + 1, 0, none⟩) := by rw [hI.low 3 (by decide) (by decide)]; rfl
      clear hI hdep
      obtain ⟨c0, c1, c2, d0, d1, d2, d3, d4, d5, d6, d7⟩ := HK.out w3 hh
      exact .run ((wanted_some rfl rfl g8).trans rfl) (by simp [execOp, go_sem, Act.eval, *])
    · simp only [List.getElem?_toArray, List.getElem?_cons_succ, List.getElem?_cons_zero, Option.some.injEq] at ho
      subst ho
      refine ⟨rfl, ?_⟩
      have g8 : A_.tmps[8]? = some (.bool true) := hI.at_ (i := 3) rfl (by decide) (hdep ⟨3, .guard⟩ (by simp) rfl)
      have e10 : A_.tmps[10]?.getD undef = .agg #[.string x, .bool b1, .bool b2] := getD_of (hI.at_ (i := 5) rfl (by decide) (hdep ⟨5, .data⟩ (by simp) rfl))
      have e11 : A_.tmps[11]?.getD undef = .agg #[.int .i64 k, .int .i64 n, .int .i64 a, .int .i64 c, .int .i64 h, .int .i64 t, .int .i64 i, .int .i64 p] := getD_of (hI.at_ (i := 6) rfl (by decide) (hdep ⟨6, .data⟩ (by simp) rfl))
      clear hI hdep
      exact .call ((wanted_some rfl rfl g8).trans rfl) 53 #[.agg #[.string x, .bool b1, .bool b2], .agg #[.int .i64 k, .int .i64 n, .int .i64 a, .int .i64 c, .int .i64 h, .int .i64 t, .int .i64 i, .int .i64 p]] (by simp [go_sem, Act.eval, e10, e11]) ((HW.out _).mono (fun e w' h => ⟨h.1, Below.trans hh (h.2.mono (Below.size hh))⟩))
    · simp only [List.getElem?_toArray, List.getElem?_cons_succ, List.getElem?_cons_zero, Option.some.injEq] at ho
      subst ho
      refine ⟨rfl, ?_⟩
      have g8 : A_.tmps[8]? = some (.bool true) := hI.at_ (i := 3) rfl (by decide) (hdep ⟨3, .guard⟩ (by simp) rfl)
      have e9 : A_.tmps[9]?.getD undef = .agg #[.int .i64 k, .int .i64 n, .int .i64 a, .int .i64 c, .int .i64 h, .int .i64 t, .int .i64 i, .int .i64 p] := getD_of (hI.at_ (i := 4) rfl (by decide) (hdep ⟨4, .data⟩ (by simp) rfl))
      have e12 : A_.tmps[12]?.getD undef = .agg #[.int .i64 k0, .int .i64 n0, .int .i64 a0, .int .i64 c0, .int .i64 h0, .int .i64 t0, .int .i64 i0, .int .i64 p0] := getD_of (hI.at_ (i := 7) rfl (by decide) (hdep ⟨7, .data⟩ (by simp) rfl))
      clear hI hdep
      exact .run ((wanted_some rfl rfl g8).trans rfl) (by simp [execOp, go_sem, Act.eval, *])
    · simp only [List.getElem?_toArray, List.getElem?_cons_succ, List.getElem?_cons_zero, Option.some.injEq] at ho
      subst ho
      refine ⟨rfl, ?_⟩
      have e8 : A_.tmps[8]?.getD undef = .bool true := getD_of (hI.at_ (i := 3) rfl (by decide) (hdep ⟨3, .data⟩ (by simp) rfl))
      have e13 : A_.tmps[13]?.getD undef = .bool true := getD_of (hI.at_ (i := 8) rfl (by decide) (hdep ⟨8, .data⟩ (by simp) rfl))
      clear hI hdep
      exact .run rfl (by simp [execOp, go_sem, Act.eval, e8, e13])
    · simp only [List.getElem?_toArray, List.getElem?_cons_succ, List.getElem?_cons_zero, Option.some.injEq] at ho
      subst ho
      refine ⟨rfl, ?_⟩
      have e14 : A_.tmps[14]?.getD undef = .bool true := getD_of (hI.at_ (i := 9) rfl (by decide) (hdep ⟨9, .data⟩ (by simp) rfl))
      clear hI hdep
      exact .run rfl (by simp [execOp, go_sem, Act.eval, e14])
    · simp only [List.getElem?_toArray, List.getElem?_cons_succ, List.getElem?_cons_zero, Option.some.injEq] at ho
      subst ho
      refine ⟨rfl, ?_⟩
      have g15 : A_.tmps[15]? = some (.bool true) := hI.at_ (i := 10) rfl (by decide) (hdep ⟨10, .guard⟩ (by simp) rfl)
      have e3 : A_.tmps[3]?.getD undef = .pointer (some ⟨w.heap.size + 1, 0, none⟩) := by rw [hI.low 3 (by decide) (by decide)]; rfl
      clear hI hdep
      exact .run ((wanted_some rfl rfl g15).trans rfl) (by simp [execOp, go_sem, Act.eval, e3])
    · simp only [List.getElem?_toArray, List.getElem?_cons_succ, List.getElem?_cons_zero, Option.some.injEq] at ho
      subst ho
      refine ⟨rfl, ?_⟩
      have g15 : A_.tmps[15]? = some (.bool true) := hI.at_ (i := 10) rfl (by decide) (hdep ⟨10, .guard⟩ (by simp) rfl)
      have e16 : A_.tmps[16]?.getD undef = .pointer (some ⟨w.heap.size + 1, 1, none⟩) := getD_of (hI.at_ (i := 11) rfl (by decide) (hdep ⟨11, .data⟩ (by simp) rfl))
      clear hI hdep
      obtain ⟨c0, c1, c2, d0, d1, d2, d3, d4, d5, d6, d7⟩ := HK.out w3 hh
      exact .run ((wanted_some rfl rfl g15).trans rfl) (by simp [execOp, go_sem, Act.eval, *])
    · simp only [List.getElem?_toArray, List.getElem?_cons_succ, List.getElem?_cons_zero, Option.some.injEq] at ho
      subst ho
      refine ⟨rfl, ?_⟩
      have g15 : A_.tmps[15]? = some (.bool true) := hI.at_ (i := 10) rfl (by decide) (hdep ⟨10, .guard⟩ (by simp) rfl)
      have e17 : A_.tmps[17]?.getD undef = .int .i64 n := getD_of (hI.at_ (i := 12) rfl (by decide) (hdep ⟨12, .data⟩ (by simp) rfl))
      clear hI hdep
      exact .call ((wanted_some rfl rfl g15).trans rfl) 54 #[.int .i64 n] (by simp [go_sem, Act.eval, e17]) ((HN.out _).mono (fun e w' h => ⟨h.1, h.2 ▸ hh⟩))
    · simp only [List.getElem?_toArray, List.getElem?_cons_succ, List.getElem?_cons_zero, Option.some.injEq] at ho
      subst ho
      refine ⟨rfl, ?_⟩
      have e15 : A_.tmps[15]?.getD undef = .bool true := getD_of (hI.at_ (i := 10) rfl (by decide) (hdep ⟨10, .data⟩ (by simp) rfl))
      have e18 : A_.tmps[18]?.getD undef = .bool true := getD_of (hI.at_ (i := 13) rfl (by decide) (hdep ⟨13, .data⟩ (by simp) rfl))
      clear hI hdep
      exact .run rfl (by simp [execOp, go_sem, Act.eval, e15, e18])
    · simp only [List.getElem?_toArray, List.getElem?_cons_succ, List.getElem?_cons_zero, Option.some.injEq] at ho
      subst ho
      refine ⟨rfl, ?_⟩
      have e19 : A_.tmps[19]?.getD undef = .bool true := getD_of (hI.at_ (i := 14) rfl (by decide) (hdep ⟨14, .data⟩ (by simp) rfl))
      clear hI hdep
      exact .run rfl (by simp [execOp, go_sem, Act.eval, e19])
    · simp only [List.getElem?_toArray, List.getElem?_cons_succ, List.getElem?_cons_zero, Option.some.injEq] at ho
      subst ho
      refine ⟨rfl, ?_⟩
      have g20 : A_.tmps[20]? = some (.bool true) := hI.at_ (i := 15) rfl (by decide) (hdep ⟨15, .guard⟩ (by simp) rfl)
      have e3 : A_.tmps[3]?.getD undef = .pointer (some ⟨w.heap.size + 1, 0, none⟩) := by rw [hI.low 3 (by decide) (by decide)]; rfl
      clear hI hdep
      exact .run ((wanted_some rfl rfl g20).trans rfl) (by simp [execOp, go_sem, Act.eval, e3])
    · simp only [List.getElem?_toArray, List.getElem?_cons_succ, List.getElem?_cons_zero, Option.some.injEq] at ho
      subst ho
      refine ⟨rfl, ?_⟩
      have g20 : A_.tmps[20]? = some (.bool true) := hI.at_ (i := 15) rfl (by decide) (hdep ⟨15, .guard⟩ (by simp) rfl)
      have e21 : A_.tmps[21]?.getD undef = .pointer (some ⟨w.heap.size + 1, 2, none⟩) := getD_of (hI.at_ (i := 16) rfl (by decide) (hdep ⟨16, .data⟩ (by simp) rfl))
      clear hI hdep
      obtain ⟨c0, c1, c2, d0, d1, d2, d3, d4, d5, d6, d7⟩ := HK.out w3 hh
      exact .run ((wanted_some rfl rfl g20).trans rfl) (by simp [execOp, go_sem, Act.eval, *])
    · simp only [List.getElem?_toArray, List.getElem?_cons_succ, List.getElem?_cons_zero, Option.some.injEq] at ho
      subst ho
      refine ⟨rfl, ?_⟩
      have g20 : A_.tmps[20]? = some (.bool true) := hI.at_ (i := 15) rfl (by decide) (hdep ⟨15, .guard⟩ (by simp) rfl)
      have e22 : A_.tmps[22]?.getD undef = .int .i64 a := getD_of (hI.at_ (i := 17) rfl (by decide) (hdep ⟨17, .data⟩ (by simp) rfl))
      clear hI hdep
      exact .call ((wanted_some rfl rfl g20).trans rfl) 40 #[.int .i64 a, .int .i64 2147483647] (by simp [go_sem, Act.eval, e22]) ((HA.out _).mono (fun e w' h => ⟨h.1, h.2 ▸ hh⟩))
    · simp only [List.getElem?_toArray, List.getElem?_cons_succ, List.getElem?_cons_zero, Option.some.injEq] at ho
      subst ho
      refine ⟨rfl, ?_⟩
      have e20 : A_.tmps[20]?.getD undef = .bool true := getD_of (hI.at_ (i := 15) rfl (by decide) (hdep ⟨15, .data⟩ (by simp) rfl))
      have e23 : A_.tmps[23]?.getD undef = .bool false := getD_of (hI.at_ (i := 18) rfl (by decide) (hdep ⟨18, .data⟩ (by simp) rfl))
      clear hI hdep
      exact .run rfl (by simp [execOp, go_sem, Act.eval, e20, e23])
    · simp only [List.getElem?_toArray, List.getElem?_cons_succ, List.getElem?_cons_zero, Option.some.injEq] at ho
      subst ho
      refine ⟨rfl, ?_⟩
      have e24 : A_.tmps[24]?.getD undef = .bool false := getD_of (hI.at_ (i := 19) rfl (by decide) (hdep ⟨19, .data⟩ (by simp) rfl))
      clear hI hdep
      exact .run rfl (by simp [execOp, go_sem, Act.eval, e24])
    · simp only [List.getElem?_toArray, List.getElem?_cons_succ, List.getElem?_cons_zero, Option.some.injEq] at ho
      subst ho
      refine ⟨rfl, ?_⟩
      have g25 : A_.tmps[25]? = some (.bool false) := hI.at_ (i := 20) rfl (by decide) (hdep ⟨20, .guard⟩ (by simp) rfl)
      exact .skip ((wanted_some rfl rfl g25).trans rfl) rfl
    · simp only [List.getElem?_toArray, List.getElem?_cons_succ, List.getElem?_cons_zero, Option.some.injEq] at ho
      subst ho
      refine ⟨rfl, ?_⟩
      have g25 : A_.tmps[25]? = some (.bool false) := hI.at_ (i := 20) rfl (by decide) (hdep ⟨20, .guard⟩ (by simp) rfl)
      exact .skip ((wanted_some rfl rfl g25).trans rfl) rfl
    · simp only [List.getElem?_toArray, List.getElem?_cons_succ, List.getElem?_cons_zero, Option.some.injEq] at ho
      subst ho
      refine ⟨rfl, ?_⟩
      have g25 : A_.tmps[25]? = some (.bool false) := hI.at_ (i := 20) rfl (by decide) (hdep ⟨20, .guard⟩ (by simp) rfl)
      exact .skip ((wanted_some rfl rfl g25).trans rfl) rfl
    · simp only [List.getElem?_toArray, List.getElem?_cons_succ, List.getElem?_cons_zero, Option.some.injEq] at ho
      subst ho
      refine ⟨rfl, ?_⟩
      have e25 : A_.tmps[25]?.getD undef = .bool false := getD_of (hI.at_ (i := 20) rfl (by decide) (hdep ⟨20, .data⟩ (by simp) rfl))
      have e28 : A_.tmps[28]?.getD undef = undef := getD_of (hI.at_ (i := 23) rfl (by decide) (hdep ⟨23, .data⟩ (by simp) rfl))
      clear hI hdep
      exact .run rfl (by simp [execOp, go_sem, Act.eval, e25, e28])
    · simp only [List.getElem?_toArray, List.getElem?_cons_succ, List.getElem?_cons_zero, Option.some.injEq] at ho
      subst ho
      refine ⟨rfl, ?_⟩
      have e29 : A_.tmps[29]?.getD undef = .bool false := getD_of (hI.at_ (i := 24) rfl (by decide) (hdep ⟨24, .data⟩ (by simp) rfl))
      clear hI hdep
      exact .run rfl (by simp [execOp, go_sem, Act.eval, e29])
  case fin =>
  intro A_ w3 hs hd hlow hS hok
  obtain rfl : A_ = ⟨#[.agg #[.string x, .bool b1, .bool b2], .agg #[.int .i64 k, .int .i64 n, .int .i64 a, .int .i64 c, .int .i64 h, .int .i64 t, .int .i64 i, .int .i64 p], .pointer (some ⟨w.heap.size, 0, none⟩), .pointer (some ⟨w.heap.size + 1, 0, none⟩), .bool false, .pointer (some ⟨w.heap.size, 0, none⟩), .string x, .bool true, .bool true, .agg #[.int .i64 k, .int .i64 n, .int .i64 a, .int .i64 c, .int .i64 h, .int .i64 t, .int .i64 i, .int .i64 p], .agg #[.string x, .bool b1, .bool b2], .agg #[.int .i64 k, .int .i64 n, .int .i64 a, .int .i64 c, .int .i64 h, .int .i64 t, .int .i64 i, .int .i64 p], .agg #[.int .i64 k0, .int .i64 n0, .int .i64 a0, .int .i64 c0, .int .i64 h0, .int .i64 t0, .int .i64 i0, .int .i64 p0], .bool true, .bool true, .bool true, .pointer (some ⟨w.heap.size + 1, 1, none⟩), .int .i64 n, .bool true, .bool true, .bool true, .pointer (some ⟨w.heap.size + 1, 2, none⟩), .int .i64 a, .bool false, .bool false, .bool false, undef, undef, undef, .bool false], []⟩ := act_ext hd hs (fun j hj => match j, hj with | 0, _ => (hlow 0 (by decide) (by decide)).trans rfl | 1, _ => (hlow 1 (by decide) (by decide)).trans rfl | 2, _ => (hlow 2 (by decide) (by decide)).trans rfl | 3, _ => (hlow 3 (by decide) (by decide)).trans rfl | 4, _ => hok 25 4 (by decide) rfl | 5, _ => hok 0 5 (by decide) rfl | 6, _ => hok 1 6 (by decide) rfl | 7, _ => hok 2 7 (by decide) rfl | 8, _ => hok 3 8 (by decide) rfl | 9, _ => hok 4 9 (by decide) rfl | 10, _ => hok 5 10 (by decide) rfl | 11, _ => hok 6 11 (by decide) rfl | 12, _ => hok 7 12 (by decide) rfl | 13, _ => hok 8 13 (by decide) rfl | 14, _ => hok 9 14 (by decide) rfl | 15, _ => hok 10 15 (by decide) rfl | 16, _ => hok 11 16 (by decide) rfl | 17, _ => hok 12 17 (by decide) rfl | 18, _ => hok 13 18 (by decide) rfl | 19, _ => hok 14 19 (by decide) rfl | 20, _ => hok 15 20 (by decide) rfl | 21, _ => hok 16 21 (by decide) rfl | 22, _ => hok 17 22 (by decide) rfl | 23, _ => hok 18 23 (by decide) rfl | 24, _ => hok 19 24 (by decide) rfl | 25, _ => hok 20 25 (by decide) rfl | 26, _ => hok 21 26 (by decide) rfl | 27, _ => hok 22 27 (by decide) rfl | 28, _ => hok 23 28 (by decide) rfl | 29, _ => hok 24 29 (by decide) rfl | n + 30, h => absurd h (by show ¬ n + 30 < 30; omega))
  clear hs hd hlow hok
  go_wp2_with fail
  go_ret
  exact ⟨rfl, HB.out.trans (hS.mono HB.out.size)⟩
set_option maxHeartbeats 4000000 in
set_option maxRecDepth 100000 in
theorem fits_4 (x : ByteArray) (b1 b2 : Bool) (k n a c h t i p k0 n0 a0 c0 h0 t0 i0 p0 : Int) (r : Bool) (w : World) (hx : ¬ x.toList = []) (HW : Hid (∀ V, Calls Tryz.prog 53 #[.agg #[.string x, .bool b1, .bool b2], .agg #[.int .i64 k, .int .i64 n, .int .i64 a, .int .i64 c, .int .i64 h, .int .i64 t, .int .i64 i, .int .i64 p]] V fun e w' => e = .returned (.agg #[.int .i64 k0, .int .i64 n0, .int .i64 a0, .int .i64 c0, .int .i64 h0, .int .i64 t0, .int .i64 i0, .int .i64 p0]) ∧ Below V.heap.size V w')) (hq : ∀ V, (binOp .eql 28 (.agg #[.int .i64 k, .int .i64 n, .int .i64 a, .int .i64 c, .int .i64 h, .int .i64 t, .int .i64 i, .int .i64 p]) (.agg #[.int .i64 k0, .int .i64 n0, .int .i64 a0, .int .i64 c0, .int .i64 h0, .int .i64 t0, .int .i64 i0, .int .i64 p0])).run Tryz.prog V = .ok (.bool true) V) (HN : Hid (∀ V, Calls Tryz.prog 54 #[.int .i64 n] V fun e w' => e = .returned (.bool true) ∧ V = w')) (HA : Hid (∀ V, Calls Tryz.prog 40 #[.int .i64 a, .int .i64 2147483647] V fun e w' => e = .returned (.bool true) ∧ V = w')) (HM : Hid (∀ V, Calls Tryz.prog 55 #[.agg #[.int .i64 c, .int .i64 h, .int .i64 t, .int .i64 i, .int .i64 p]] V fun e w' => e = .returned (.bool r) ∧ Below V.heap.size V w')) :
    Calls Tryz.prog 30 #[.agg #[.string x, .bool b1, .bool b2], .agg #[.int .i64 k, .int .i64 n, .int .i64 a, .int .i64 c, .int .i64 h, .int .i64 t, .int .i64 i, .int .i64 p]] w fun e w' => e = .returned (.bool r) ∧ Below w.heap.size w w' := by
  obtain ⟨U, hU, hb, k1, k2, hlt⟩ := two_boxes w (.cells #[.string x, .bool b1, .bool b2] 65) (.cells #[.int .i64 k, .int .i64 n, .int .i64 a, .int .i64 c, .int .i64 h, .int .i64 t, .int .i64 i, .int .i64 p] 28)
  have hl0 : w.heap.size < U.heap.size := by omega
  have HK := Lib.hid (show ∀ V, Below U.heap.size U V → V.cell? ⟨w.heap.size, 0, none⟩ = some (.string x) ∧ V.cell? ⟨w.heap.size, 1, none⟩ = some (.bool b1) ∧ V.cell? ⟨w.heap.size, 2, none⟩ = some (.bool b2) ∧ V.cell? ⟨w.heap.size + 1, 0, none⟩ = some (.int .i64 k) ∧ V.cell? ⟨w.heap.size + 1, 1, none⟩ = some (.int .i64 n) ∧ V.cell? ⟨w.heap.size + 1, 2, none⟩ = some (.int .i64 a) ∧ V.cell? ⟨w.heap.size + 1, 3, none⟩ = some (.int .i64 c) ∧ V.cell? ⟨w.heap.size + 1, 4, none⟩ = some (.int .i64 h) ∧ V.cell? ⟨w.heap.size + 1, 5, none⟩ = some (.int .i64 t) ∧ V.cell? ⟨w.heap.size + 1, 6, none⟩ = some (.int .i64 i) ∧ V.cell? ⟨w.heap.size + 1, 7, none⟩ = some (.int .i64 p) from by
    intro V B
    obtain ⟨b0, b1, b2, b3, b4, b5, b6, b7⟩ := row8 k2
    have a0 := cell_of_row _ _ 0 _ _ (0, 0) k1
    have a1 := cell_of_row _ _ 1 _ _ (0, 0) k1
    have a2 := cell_of_row _ _ 2 _ _ (0, 0) k1
    exact ⟨(B.cell (p := ⟨w.heap.size, 0, none⟩) hl0).trans a0, (B.cell (p := ⟨w.heap.size, 1, none⟩) hl0).trans a1, (B.cell (p := ⟨w.heap.size, 2, none⟩) hl0).trans a2, (B.cell (p := ⟨w.heap.size + 1, 0, none⟩) hlt).trans b0, (B.cell (p := ⟨w.heap.size + 1, 1, none⟩) hlt).trans b1, (B.cell (p := ⟨w.heap.size + 1, 2, none⟩) hlt).trans b2, (B.cell (p := ⟨w.heap.size + 1, 3, none⟩) hlt).trans b3, (B.cell (p := ⟨w.heap.size + 1, 4, none⟩) hlt).trans b4, (B.cell (p := ⟨w.heap.size + 1, 5, none⟩) hlt).trans b5, (B.cell (p := ⟨w.heap.size + 1, 6, none⟩) hlt).trans b6, (B.cell (p := ⟨w.heap.size + 1, 7, none⟩) hlt).trans b7⟩)
  have HU := Lib.hid hU
  have HB := Lib.hid hb
  clear hU hb k1 k2
  go_enter Tryz.func30, Tryz.ntmps30
  go_wp2_with fail
  rw [HU.out]
  clear HU
  refine region_vals 26 5 4 (fun i => if i = 25 then 4 else 5 + i) (fun ix_ => match ix_ with | 0 => .pointer (some ⟨w.heap.size, 0, none⟩) | 1 => .string x | 2 => .bool true | 3 => .bool true | 4 => .agg #[.int .i64 k, .int .i64 n, .int .i64 a, .int .i64 c, .int .i64 h, .int .i64 t, .int .i64 i, .int .i64 p] | 5 => .agg #[.string x, .bool b1, .bool b2] | 6 => .agg #[.int .i64 k, .int .i64 n, .int .i64 a, .int .i64 c, .int .i64 h, .int .i64 t, .int .i64 i, .int .i64 p] | 7 => .agg #[.int .i64 k0, .int .i64 n0, .int .i64 a0, .int .i64 c0, .int .i64 h0, .int .i64 t0, .int .i64 i0, .int .i64 p0] | 8 => .bool true | 9 => .bool true | 10 => .bool true | 11 => .pointer (some ⟨w.heap.size + 1, 1, none⟩) | 12 => .int .i64 n | 13 => .bool true | 14 => .bool true | 15 => .bool true | 16 => .pointer (some ⟨w.heap.size + 1, 2, none⟩) | 17 => .int .i64 a | 18 => .bool true | 19 => .bool true | 20 => .bool true | 21 => .pointer (some ⟨w.heap.size + 1, 3, none⟩) | 22 => .agg #[.int .i64 c, .int .i64 h, .int .i64 t, .int .i64 i, .int .i64 p] | 23 => .bool r | 24 => .bool r | 25 => .bool r | _ => undef) (fun V => Below U.heap.size U V) ((Below.refl _ U).drew) (by kernel_rfl) rfl (by kernel_rfl) (fun i hi => by show (if i = 25 then 4 else 5 + i) < 30 ∧ (5 ≤ (if i = 25 then 4 else 5 + i) ∨ (if i = 25 then 4 else 5 + i) = 4); (repeat' split) <;> omega) (fun i j hi hj => by show (if i = 25 then 4 else 5 + i) = (if j = 25 then 4 else 5 + j) → i = j; (repeat' split) <;> omega) ?step ?fin
  case step =>
    intro listed A_ w3 ix op_ hI ho hdep
    have hi : ix < 26 := (Array.getElem?_eq_some_iff.1 ho).1
    have hcase : ix = 0 ∨ ix = 1 ∨ ix = 2 ∨ ix = 3 ∨ ix = 4 ∨ ix = 5 ∨ ix = 6 ∨ ix = 7 ∨ ix = 8 ∨ ix = 9 ∨ ix = 10 ∨ ix = 11 ∨ ix = 12 ∨ ix = 13 ∨ ix = 14 ∨ ix = 15 ∨ ix = 16 ∨ ix = 17 ∨ ix = 18 ∨ ix = 19 ∨ ix = 20 ∨ ix = 21 ∨ ix = 22 ∨ ix = 23 ∨ ix = 24 ∨ ix = 25 := by omega
    have hh := hI.held
    clear hi
    rcases hcase with rfl | rfl | rfl | rfl | rfl | rfl | rfl | rfl | rfl | rfl | rfl | rfl | rfl | rfl | rfl | rfl | rfl | rfl | rfl | rfl | rfl | rfl | rfl | rfl | rfl | rfl
    · simp only [List.getElem?_toArray, List.getElem?_cons_zero, Option.some.injEq] at ho
      subst ho
      refine ⟨rfl, ?_⟩
      have e2 : A_.tmps[2]?.getD undef = .pointer (some ⟨w.heap.size, 0, none⟩) := by rw [hI.low 2 (by decide) (by decide)]; rfl
      clear hI hdep
      exact .run rfl (by simp [execOp, go_sem, Act.eval, e2])
    · simp only [List.getElem?_toArray, List.getElem?_cons_succ, List.getElem?_cons_zero, Option.some.injEq] at ho
      subst ho
      refine ⟨rfl, ?_⟩
      have e5 : A_.tmps[5]?.getD undef = .pointer (some ⟨w.heap.size, 0, none⟩) := getD_of (hI.at_ (i := 0) rfl (by decide) (hdep ⟨0, .data⟩ (by simp) rfl))
      clear hI hdep
      obtain ⟨c0, c1, c2, d0, d1, d2, d3, d4, d5, d6, d7⟩ := HK.out w3 hh
      exact .run rfl (by simp [execOp, go_sem, Act.eval, *])
    · simp only [List.getElem?_toArray, List.getElem?_cons_succ, List.getElem?_cons_zero, Option.some.injEq] at ho
      subst ho
      refine ⟨rfl, ?_⟩
      have e6 : A_.tmps[6]?.getD undef = .string x := getD_of (hI.at_ (i := 1) rfl (by decide) (hdep ⟨1, .data⟩ (by simp) rfl))
      clear hI hdep
      exact .run rfl (by simp [execOp, go_sem, Act.eval, *])
    · simp only [List.getElem?_toArray, List.getElem?_cons_succ, List.getElem?_cons_zero, Option.some.injEq] at ho
      subst ho
      refine ⟨rfl, ?_⟩
      have e7 : A_.tmps[7]?.getD undef = .bool true := getD_of (hI.at_ (i := 2) rfl (by decide) (hdep ⟨2, .data⟩ (by simp) rfl))
      clear hI hdep
      exact .run rfl (by simp [execOp, go_sem, Act.eval, e7])
    · simp only [List.getElem?_toArray, List.getElem?_cons_succ, List.getElem?_cons_zero, Option.some.injEq] at ho
      subst ho
      refine ⟨rfl, ?_⟩
      have g8 : A_.tmps[8]? = some (.bool true) := hI.at_ (i := 3) rfl (by decide) (hdep ⟨3, .guard⟩ (by simp) rfl)
      have e3 : A_.tmps[3]?.getD undef = .pointer (some ⟨w.heap.size + 1, 0, none⟩) := by rw [hI.low 3 (by decide) (by decide)]; rfl
      clear hI hdep
      obtain ⟨c0, c1, c2, d0, d1, d2, d3, d4, d5, d6, d7⟩ := HK.out w3 hh
      exact .run ((wanted_some rfl rfl g8).trans rfl) (by simp [execOp, go_sem, Act.eval, *])
    · simp only [List.getElem?_toArray, List.getElem?_cons_succ, List.getElem?_cons_zero, Option.some.injEq] at ho
      subst ho
      refine ⟨rfl, ?_⟩
      have g8 : A_.tmps[8]? = some (.bool true) := hI.at_ (i := 3) rfl (by decide) (hdep ⟨3, .guard⟩ (by simp) rfl)
      have e2 : A_.tmps[2]?.getD undef = .pointer (some ⟨w.heap.size, 0, none⟩) := by rw [hI.low 2 (by decide) (by decide)]; rfl
      clear hI hdep
      obtain ⟨c0, c1, c2, d0, d1, d2, d3, d4, d5, d6, d7⟩ := HK.out w3 hh
      exact .run ((wanted_some rfl rfl g8).trans rfl) (by simp [execOp, go_sem, Act.eval, *])
    · simp only [List.getElem?_toArray, List.getElem?_cons_succ, List.getElem?_cons_zero, Option.some.injEq] at ho
      subst ho
      refine ⟨rfl, ?_⟩
      have g8 : A_.tmps[8]? = some (.bool true) := hI.at_ (i := 3) rfl (by decide) (hdep ⟨3, .guard⟩ (by simp) rfl)
      have e3 : A_.tmps[3]?.getD undef = .pointer (some ⟨w.heap.size + 1, 0, none⟩) := by rw [hI.low 3 (by decide) (by decide)]; rfl
      clear hI hdep
      obtain ⟨c0, c1, c2, d0, d1, d2, d3, d4, d5, d6, d7⟩ := HK.out w3 hh
      exact .run ((wanted_some rfl rfl g8).trans rfl) (by simp [execOp, go_sem, Act.eval, *])
    · simp only [List.getElem?_toArray, List.getElem?_cons_succ, List.getElem?_cons_zero, Option.some.injEq] at ho
      subst ho
      refine ⟨rfl, ?_⟩
      have g8 : A_.tmps[8]? = some (.bool true) := hI.at_ (i := 3) rfl (by decide) (hdep ⟨3, .guard⟩ (by simp) rfl)
      have e10 : A_.tmps[10]?.getD undef = .agg #[.string x, .bool b1, .bool b2] := getD_of (hI.at_ (i := 5) rfl (by decide) (hdep ⟨5, .data⟩ (by simp) rfl))
      have e11 : A_.tmps[11]?.getD undef = .agg #[.int .i64 k, .int .i64 n, .int .i64 a, .int .i64 c, .int .i64 h, .int .i64 t, .int .i64 i, .int .i64 p] := getD_of (hI.at_ (i := 6) rfl (by decide) (hdep ⟨6, .data⟩ (by simp) rfl))
      clear hI hdep
      exact .call ((wanted_some rfl rfl g8).trans rfl) 53 #[.agg #[.string x, .bool b1, .bool b2], .agg #[.int .i64 k, .int .i64 n, .int .i64 a, .int .i64 c, .int .i64 h, .int .i64 t, .int .i64 i, .int .i64 p]] (by simp [go_sem, Act.eval, e10, e11]) ((HW.out _).mono (fun e w' h => ⟨h.1, Below.trans hh (h.2.mono (Below.size hh))⟩))
    · simp only [List.getElem?_toArray, List.getElem?_cons_succ, List.getElem?_cons_zero, Option.some.injEq] at ho
      subst ho
      refine ⟨rfl, ?_⟩
      have g8 : A_.tmps[8]? = some (.bool true) := hI.at_ (i := 3) rfl (by decide) (hdep ⟨3, .guard⟩ (by simp) rfl)
      have e9 : A_.tmps[9]?.getD undef = .agg #[.int .i64 k, .int .i64 n, .int .i64 a, .int .i64 c, .int .i64 h, .int .i64 t, .int .i64 i, .int .i64 p] := getD_of (hI.at_ (i := 4) rfl (by decide) (hdep ⟨4, .data⟩ (by simp) rfl))
      have e12 : A_.tmps[12]?.getD undef = .agg #[.int .i64 k0, .int .i64 n0, .int .i64 a0, .int .i64 c0, .int .i64 h0, .int .i64 t0, .int .i64 i0, .int .i64 p0] := getD_of (hI.at_ (i := 7) rfl (by decide) (hdep ⟨7, .data⟩ (by simp) rfl))
      clear hI hdep
      exact .run ((wanted_some rfl rfl g8).trans rfl) (by simp [execOp, go_sem, Act.eval, *])
    · simp only [List.getElem?_toArray, List.getElem?_cons_succ, List.getElem?_cons_zero, Option.some.injEq] at ho
      subst ho
      refine ⟨rfl, ?_⟩
      have e8 : A_.tmps[8]?.getD undef = .bool true := getD_of (hI.at_ (i := 3) rfl (by decide) (hdep ⟨3, .data⟩ (by simp) rfl))
      have e13 : A_.tmps[13]?.getD undef = .bool true := getD_of (hI.at_ (i := 8) rfl (by decide) (hdep ⟨8, .data⟩ (by simp) rfl))
      clear hI hdep
      exact .run rfl (by simp [execOp, go_sem, Act.eval, e8, e13])
    · simp only [List.getElem?_toArray, List.getElem?_cons_succ, List.getElem?_cons_zero, Option.some.injEq] at ho
      subst ho
      refine ⟨rfl, ?_⟩
      have e14 : A_.tmps[14]?.getD undef = .bool true := getD_of (hI.at_ (i := 9) rfl (by decide) (hdep ⟨9, .data⟩ (by simp) rfl))
      clear hI hdep
      exact .run rfl (by simp [execOp, go_sem, Act.eval, e14])
    · simp only [List.getElem?_toArray, List.getElem?_cons_succ, List.getElem?_cons_zero, Option.some.injEq] at ho
      subst ho
      refine ⟨rfl, ?_⟩
      have g15 : A_.tmps[15]? = some (.bool true) := hI.at_ (i := 10) rfl (by decide) (hdep ⟨10, .guard⟩ (by simp) rfl)
      have e3 : A_.tmps[3]?.getD undef = .pointer (some ⟨w.heap.size + 1, 0, none⟩) := by rw [hI.low 3 (by decide) (by decide)]; rfl
      clear hI hdep
      exact .run ((wanted_some rfl rfl g15).trans rfl) (by simp [execOp, go_sem, Act.eval, e3])
    · simp only [List.getElem?_toArray, List.getElem?_cons_succ, List.getElem?_cons_zero, Option.some.injEq] at ho
      subst ho
      refine ⟨rfl, ?_⟩
      have g15 : A_.tmps[15]? = some (.bool true) := hI.at_ (i := 10) rfl (by decide) (hdep ⟨10, .guard⟩ (by simp) rfl)
      have e16 : A_.tmps[16]?.getD undef = .pointer (some ⟨w.heap.size + 1, 1, none⟩) := getD_of (hI.at_ (i := 11) rfl (by decide) (hdep ⟨11, .data⟩ (by simp) rfl))
      clear hI hdep
      obtain ⟨c0, c1, c2, d0, d1, d2, d3, d4, d5, d6, d7⟩ := HK.out w3 hh
      exact .run ((wanted_some rfl rfl g15).trans rfl) (by simp [execOp, go_sem, Act.eval, *])
    · simp only [List.getElem?_toArray, List.getElem?_cons_succ, List.getElem?_cons_zero, Option.some.injEq] at ho
      subst ho
      refine ⟨rfl, ?_⟩
      have g15 : A_.tmps[15]? = some (.bool true) := hI.at_ (i := 10) rfl (by decide) (hdep ⟨10, .guard⟩ (by simp) rfl)
      have e17 : A_.tmps[17]?.getD undef = .int .i64 n := getD_of (hI.at_ (i := 12) rfl (by decide) (hdep ⟨12, .data⟩ (by simp) rfl))
      clear hI hdep
      exact .call ((wanted_some rfl rfl g15).trans rfl) 54 #[.int .i64 n] (by simp [go_sem, Act.eval, e17]) ((HN.out _).mono (fun e w' h => ⟨h.1, h.2 ▸ hh⟩))
    · simp only [List.getElem?_toArray, List.getElem?_cons_succ, List.getElem?_cons_zero, Option.some.injEq] at ho
      subst ho
      refine ⟨rfl, ?_⟩
      have e15 : A_.tmps[15]?.getD undef = .bool true := getD_of (hI.at_ (i := 10) rfl (by decide) (hdep ⟨10, .data⟩ (by simp) rfl))
      have e18 : A_.tmps[18]?.getD undef = .bool true := getD_of (hI.at_ (i := 13) rfl (by decide) (hdep ⟨13, .data⟩ (by simp) rfl))
      clear hI hdep
      exact .run rfl (by simp [execOp, go_sem, Act.eval, e15, e18])
    · simp only [List.getElem?_toArray, List.getElem?_cons_succ, List.getElem?_cons_zero, Option.some.injEq] at ho
      subst ho
      refine ⟨rfl, ?_⟩
      have e19 : A_.tmps[19]?.getD undef = .bool true := getD_of (hI.at_ (i := 14) rfl (by decide) (hdep ⟨14, .data⟩ (by simp) rfl))
      clear hI hdep
      exact .run rfl (by simp [execOp, go_sem, Act.eval, e19])
    · simp only [List.getElem?_toArray, List.getElem?_cons_succ, List.getElem?_cons_zero, Option.some.injEq] at ho
      subst ho
      refine ⟨rfl, ?_⟩
      have g20 : A_.tmps[20]? = some (.bool true) := hI.at_ (i := 15) rfl (by decide) (hdep ⟨15, .guard⟩ (by simp) rfl)
      have e3 : A_.tmps[3]?.getD undef = .pointer (some ⟨w.heap.size + 1, 0, none⟩) := by rw [hI.low 3 (by decide) (by decide)]; rfl
      clear hI hdep
      exact .run ((wanted_some rfl rfl g20).trans rfl) (by simp [execOp, go_sem, Act.eval, e3])
    · simp only [List.getElem?_toArray, List.getElem?_cons_succ, List.getElem?_cons_zero, Option.some.injEq] at ho
      subst ho
      refine ⟨rfl, ?_⟩
      have g20 : A_.tmps[20]? = some (.bool true) := hI.at_ (i := 15) rfl (by decide) (hdep ⟨15, .guard⟩ (by simp) rfl)
      have e21 : A_.tmps[21]?.getD undef = .pointer (some ⟨w.heap.size + 1, 2, none⟩) := getD_of (hI.at_ (i := 16) rfl (by decide) (hdep ⟨16, .data⟩ (by simp) rfl))
      clear hI hdep
      obtain ⟨c0, c1, c2, d0, d1, d2, d3, d4, d5, d6, d7⟩ := HK.out w3 hh
      exact .run ((wanted_some rfl rfl g20).trans rfl) (by simp [execOp, go_sem, Act.eval, *])
    · simp only [List.getElem?_toArray, List.getElem?_cons_succ, List.getElem?_cons_zero, Option.some.injEq] at ho
      subst ho
      refine ⟨rfl, ?_⟩
      have g20 : A_.tmps[20]? = some (.bool true) := hI.at_ (i := 15) rfl (by decide) (hdep ⟨15, .guard⟩ (by simp) rfl)
      have e22 : A_.tmps[22]?.getD undef = .int .i64 a := getD_of (hI.at_ (i := 17) rfl (by decide) (hdep ⟨17, .data⟩ (by simp) rfl))
      clear hI hdep
      exact .call ((wanted_some rfl rfl g20).trans rfl) 40 #[.int .i64 a, .int .i64 2147483647] (by simp [go_sem, Act.eval, e22]) ((HA.out _).mono (fun e w' h => ⟨h.1, h.2 ▸ hh⟩))
    · simp only [List.getElem?_toArray, List.getElem?_cons_succ, List.getElem?_cons_zero, Option.some.injEq] at ho
      subst ho
      refine ⟨rfl, ?_⟩
      have e20 : A_.tmps[20]?.getD undef = .bool true := getD_of (hI.at_ (i := 15) rfl (by decide) (hdep ⟨15, .data⟩ (by simp) rfl))
      have e23 : A_.tmps[23]?.getD undef = .bool true := getD_of (hI.at_ (i := 18) rfl (by decide) (hdep ⟨18, .data⟩ (by simp) rfl))
      clear hI hdep
      exact .run rfl (by simp [execOp, go_sem, Act.eval, e20, e23])
    · simp only [List.getElem?_toArray, List.getElem?_cons_succ, List.getElem?_cons_zero, Option.some.injEq] at ho
      subst ho
      refine ⟨rfl, ?_⟩
      have e24 : A_.tmps[24]?.getD undef = .bool true := getD_of (hI.at_ (i := 19) rfl (by decide) (hdep ⟨19, .data⟩ (by simp) rfl))
      clear hI hdep
      exact .run rfl (by simp [execOp, go_sem, Act.eval, e24])
    · simp only [List.getElem?_toArray, List.getElem?_cons_succ, List.getElem?_cons_zero, Option.some.injEq] at ho
      subst ho
      refine ⟨rfl, ?_⟩
      have g25 : A_.tmps[25]? = some (.bool true) := hI.at_ (i := 20) rfl (by decide) (hdep ⟨20, .guard⟩ (by simp) rfl)
      have e3 : A_.tmps[3]?.getD undef = .pointer (some ⟨w.heap.size + 1, 0, none⟩) := by rw [hI.low 3 (by decide) (by decide)]; rfl
      clear hI hdep
      exact .run ((wanted_some rfl rfl g25).trans rfl) (by simp [execOp, go_sem, Act.eval, e3])
    · simp only [List.getElem?_toArray, List.getElem?_cons_succ, List.getElem?_cons_zero, Option.some.injEq] at ho
      subst ho
      refine ⟨rfl, ?_⟩
      have g25 : A_.tmps[25]? = some (.bool true) := hI.at_ (i := 20) rfl (by decide) (hdep ⟨20, .guard⟩ (by simp) rfl)
      have e26 : A_.tmps[26]?.getD undef = .pointer (some ⟨w.heap.size + 1, 3, none⟩) := getD_of (hI.at_ (i := 21) rfl (by decide) (hdep ⟨21, .data⟩ (by simp) rfl))
      clear hI hdep
      obtain ⟨c0, c1, c2, d0, d1, d2, d3, d4, d5, d6, d7⟩ := HK.out w3 hh
      exact .run ((wanted_some rfl rfl g25).trans rfl) (by simp [execOp, go_sem, Act.eval, *])
    · simp only [List.getElem?_toArray, List.getElem?_cons_succ, List.getElem?_cons_zero, Option.some.injEq] at ho
      subst ho
      refine ⟨rfl, ?_⟩
      have g25 : A_.tmps[25]? = some (.bool true) := hI.at_ (i := 20) rfl (by decide) (hdep ⟨20, .guard⟩ (by simp) rfl)
      have e27 : A_.tmps[27]?.getD undef = .agg #[.int .i64 c, .int .i64 h, .int .i64 t, .int .i64 i, .int .i64 p] := getD_of (hI.at_ (i := 22) rfl (by decide) (hdep ⟨22, .data⟩ (by simp) rfl))
      clear hI hdep
      exact .call ((wanted_some rfl rfl g25).trans rfl) 55 #[.agg #[.int .i64 c, .int .i64 h, .int .i64 t, .int .i64 i, .int .i64 p]] (by simp [go_sem, Act.eval, e27]) ((HM.out _).mono (fun e w' h => ⟨h.1, Below.trans hh (h.2.mono (Below.size hh))⟩))
    · simp only [List.getElem?_toArray, List.getElem?_cons_succ, List.getElem?_cons_zero, Option.some.injEq] at ho
      subst ho
      refine ⟨rfl, ?_⟩
      have e25 : A_.tmps[25]?.getD undef = .bool true := getD_of (hI.at_ (i := 20) rfl (by decide) (hdep ⟨20, .data⟩ (by simp) rfl))
      have e28 : A_.tmps[28]?.getD undef = .bool r := getD_of (hI.at_ (i := 23) rfl (by decide) (hdep ⟨23, .data⟩ (by simp) rfl))
      clear hI hdep
      exact .run rfl (by simp [execOp, go_sem, Act.eval, e25, e28])
    · simp only [List.getElem?_toArray, List.getElem?_cons_succ, List.getElem?_cons_zero, Option.some.injEq] at ho
      subst ho
      refine ⟨rfl, ?_⟩
      have e29 : A_.tmps[29]?.getD undef = .bool r := getD_of (hI.at_ (i := 24) rfl (by decide) (hdep ⟨24, .data⟩ (by simp) rfl))
      clear hI hdep
      exact .run rfl (by simp [execOp, go_sem, Act.eval, e29])
  case fin =>
  intro A_ w3 hs hd hlow hS hok
  obtain rfl : A_ = ⟨#[.agg #[.string x, .bool b1, .bool b2], .agg #[.int .i64 k, .int .i64 n, .int .i64 a, .int .i64 c, .int .i64 h, .int .i64 t, .int .i64 i, .int .i64 p], .pointer (some ⟨w.heap.size, 0, none⟩), .pointer (some ⟨w.heap.size + 1, 0, none⟩), .bool r, .pointer (some ⟨w.heap.size, 0, none⟩), .string x, .bool true, .bool true, .agg #[.int .i64 k, .int .i64 n, .int .i64 a, .int .i64 c, .int .i64 h, .int .i64 t, .int .i64 i, .int .i64 p], .agg #[.string x, .bool b1, .bool b2], .agg #[.int .i64 k, .int .i64 n, .int .i64 a, .int .i64 c, .int .i64 h, .int .i64 t, .int .i64 i, .int .i64 p], .agg #[.int .i64 k0, .int .i64 n0, .int .i64 a0, .int .i64 c0, .int .i64 h0, .int .i64 t0, .int .i64 i0, .int .i64 p0], .bool true, .bool true, .bool true, .pointer (some ⟨w.heap.size + 1, 1, none⟩), .int .i64 n, .bool true, .bool true, .bool true, .pointer (some ⟨w.heap.size + 1, 2, none⟩), .int .i64 a, .bool true, .bool true, .bool true, .pointer (some ⟨w.heap.size + 1, 3, none⟩), .agg #[.int .i64 c, .int .i64 h, .int .i64 t, .int .i64 i, .int .i64 p], .bool r, .bool r], []⟩ := act_ext hd hs (fun j hj => match j, hj with | 0, _ => (hlow 0 (by decide) (by decide)).trans rfl | 1, _ => (hlow 1 (by decide) (by decide)).trans rfl | 2, _ => (hlow 2 (by decide) (by decide)).trans rfl | 3, _ => (hlow 3 (by decide) (by decide)).trans rfl | 4, _ => hok 25 4 (by decide) rfl | 5, _ => hok 0 5 (by decide) rfl | 6, _ => hok 1 6 (by decide) rfl | 7, _ => hok 2 7 (by decide) rfl | 8, _ => hok 3 8 (by decide) rfl | 9, _ => hok 4 9 (by decide) rfl | 10, _ => hok 5 10 (by decide) rfl | 11, _ => hok 6 11 (by decide) rfl | 12, _ => hok 7 12 (by decide) rfl | 13, _ => hok 8 13 (by decide) rfl | 14, _ => hok 9 14 (by decide) rfl | 15, _ => hok 10 15 (by decide) rfl | 16, _ => hok 11 16 (by decide) rfl | 17, _ => hok 12 17 (by decide) rfl | 18, _ => hok 13 18 (by decide) rfl | 19, _ => hok 14 19 (by decide) rfl | 20, _ => hok 15 20 (by decide) rfl | 21, _ => hok 16 21 (by decide) rfl | 22, _ => hok 17 22 (by decide) rfl | 23, _ => hok 18 23 (by decide) rfl | 24, _ => hok 19 24 (by decide) rfl | 25, _ => hok 20 25 (by decide) rfl | 26, _ => hok 21 26 (by decide) rfl | 27, _ => hok 22 27 (by decide) rfl | 28, _ => hok 23 28 (by decide) rfl | 29, _ => hok 24 29 (by decide) rfl | n + 30, h => absurd h (by show ¬ n + 30 < 30; omega))
  clear hs hd hlow hok
  go_wp2_with fail
  go_ret
  exact ⟨rfl, HB.out.trans (hS.mono HB.out.size)⟩
theorem bs_toList (t : NM.Bs) : (NM.bs t).toList = t := by
  rw [ByteArray.toList_eq]
  simp [NM.bs]
theorem fits_any (e : NM.Ev) (w : World) : Calls Tryz.prog 30 #[laV e.k, evV e] w fun x w' => x = .returned (.bool (NM.fits e)) ∧ Below w.heap.size w w' := by
  obtain ⟨k, n, a, c, h, t, i, p⟩ := e
  have hW := Lib.hid (fun V => written_any k ⟨k, n, a, c, h, t, i, p⟩ V)
  have hE := fun V => eqE_any ⟨k, n, a, c, h, t, i, p⟩ (NM.written k ⟨k, n, a, c, h, t, i, p⟩) V
  have hN := Lib.hid (fun V => node_any n V)
  have hA := Lib.hid (fun V => upTo_any a 2147483647 V)
  have hM := Lib.hid (fun V => isMsg_any ⟨c, h, t, i, p⟩ V)
  show Calls Tryz.prog _ #[laV k, .agg #[.int .i64 k, .int .i64 n, .int .i64 a, .int .i64 c, .int .i64 h, .int .i64 t, .int .i64 i, .int .i64 p]] w fun x w' => x = .returned (.bool (decide (NM.word k ≠ []) && (decide (NM.Ev.mk k n a ⟨c, h, t, i, p⟩ = NM.written k ⟨k, n, a, c, h, t, i, p⟩) && (NM.upTo n 11 && (NM.upTo a 2147483647 && NM.okM ⟨c, h, t, i, p⟩))))) ∧ Below w.heap.size w w'
  obtain ⟨⟨k0, n0, a0, c0, h0, t0, i0, p0⟩, hfe⟩ : ∃ f, NM.written k ⟨k, n, a, c, h, t, i, p⟩ = f := ⟨_, rfl⟩
  rw [hfe] at hW hE ⊢
  clear hfe
  have hx := bs_toList (NM.word k)
  generalize decide (NM.Ev.mk k n a ⟨c, h, t, i, p⟩ = NM.Ev.mk k0 n0 a0 ⟨c0, h0, t0, i0, p0⟩) = g1 at *
  generalize NM.upTo n 11 = g2 at *
  generalize NM.upTo a 2147483647 = g3 at *
  by_cases g0 : NM.word k = []
  · rw [decide_eq_false (show ¬ NM.word k ≠ [] from fun h => h g0)]
    exact fits_0 _ _ _ k n a c h t i p w (hx.trans g0)
  have hx : ¬ (NM.bs (NM.word k)).toList = [] := by rw [hx]; exact g0
  rw [decide_eq_true (show NM.word k ≠ [] from g0)]
  cases g1
  · exact fits_1 _ _ _ k n a c h t i p k0 n0 a0 c0 h0 t0 i0 p0 w hx hW hE
  cases g2
  · exact fits_2 _ _ _ k n a c h t i p k0 n0 a0 c0 h0 t0 i0 p0 w hx hW hE hN
  cases g3
  · exact fits_3 _ _ _ k n a c h t i p k0 n0 a0 c0 h0 t0 i0 p0 w hx hW hE hN hA
  exact fits_4 _ _ _ k n a c h t i p k0 n0 a0 c0 h0 t0 i0 p0 _ w hx hW hE hN hA hM
end Go.Proofs.YtggallpnbbidfaaGreatDoor
