/-
  The program's order of two questions with their answers. No condition.
-/
import Derived.Test.YtggallpnbbidfaaGreatDoorNmDe
import Derived.Test.YtggallpnbbidfaaGreatDoorRgX
namespace Go.Proofs.YtggallpnbbidfaaGreatDoor
open Go Go.RowKit Go.Proofs
attribute [local go_sem] Oper.semAt_some

theorem cmp_below (a b : Int) (w : World) : Calls Tryz.prog 49 #[.int .i64 a, .int .i64 b] w fun e w' => e = .returned (.int .i64 (NM.cmpI a b)) ∧ Below w.heap.size w w' :=
  (cmp_any a b w).mono fun _ _ ⟨h1, h2⟩ => ⟨h1, h2 ▸ Below.refl _ _⟩
theorem row7 {V : World} {g : Nat} {t : TypeId} {x0 x1 x2 x3 x4 x5 x6 : Value} (h : V.heap[g]? = some (.cells #[x0, x1, x2, x3, x4, x5, x6] t (0, 0))) : V.cell? ⟨g, 0, none⟩ = some x0 ∧ V.cell? ⟨g, 1, none⟩ = some x1 ∧ V.cell? ⟨g, 2, none⟩ = some x2 ∧ V.cell? ⟨g, 3, none⟩ = some x3 ∧ V.cell? ⟨g, 4, none⟩ = some x4 ∧ V.cell? ⟨g, 5, none⟩ = some x5 ∧ V.cell? ⟨g, 6, none⟩ = some x6 :=
  ⟨cell_of_row _ _ 0 _ _ (0, 0) h, cell_of_row _ _ 1 _ _ (0, 0) h, cell_of_row _ _ 2 _ _ (0, 0) h, cell_of_row _ _ 3 _ _ (0, 0) h, cell_of_row _ _ 4 _ _ (0, 0) h, cell_of_row _ _ 5 _ _ (0, 0) h, cell_of_row _ _ 6 _ _ (0, 0) h⟩
set_option maxHeartbeats 4000000 in
set_option maxRecDepth 100000 in
theorem cmpAsk_any (c h t k i r n c2 h2 t2 k2 i2 r2 n2 : Int) (w : World) : Calls Tryz.prog 24 #[.agg #[.int .i64 c, .int .i64 h, .int .i64 t, .int .i64 k, .int .i64 i, .int .i64 r, .int .i64 n], .agg #[.int .i64 c2, .int .i64 h2, .int .i64 t2, .int .i64 k2, .int .i64 i2, .int .i64 r2, .int .i64 n2]] w fun e w' => e = .returned (.int .i64 (NM.orI (NM.lexL [c, h, t, k, i] [c2, h2, t2, k2, i2]) (NM.cmpI n n2))) ∧ Below w.heap.size w w' := by
  obtain ⟨U, hU, hb, k1, k2, hlt⟩ := two_boxes w (.cells #[.int .i64 c, .int .i64 h, .int .i64 t, .int .i64 k, .int .i64 i, .int .i64 r, .int .i64 n] 38) (.cells #[.int .i64 c2, .int .i64 h2, .int .i64 t2, .int .i64 k2, .int .i64 i2, .int .i64 r2, .int .i64 n2] 38)
  have HK := Lib.hid (fun (V : World) (hV : Below U.heap.size U V) => And.intro (row7 ((hV.block _ (by omega)).trans k1)) (row7 ((hV.block _ hlt).trans k2)))
  have HB := Lib.hid hb
  clear k1 k2 hb
  go_enter Tryz.func24, Tryz.ntmps24
  go_wp2_with fail
  clear hU
  refine RgX.region 13 (fun i => (if i = 12 then 4 else 5 + i)) (fun ix_ => match ix_ with | 0 => .v (.pointer (some ⟨w.heap.size, 0, none⟩)) | 1 => .v (.agg #[.int .i64 c, .int .i64 h, .int .i64 t, .int .i64 k, .int .i64 i]) | 2 => .v (.pointer (some ⟨w.heap.size + 1, 0, none⟩)) | 3 => .v (.agg #[.int .i64 c2, .int .i64 h2, .int .i64 t2, .int .i64 k2, .int .i64 i2]) | 4 => .v (.int .i64 (NM.lexL [c, h, t, k, i] [c2, h2, t2, k2, i2])) | 5 => .v (.pointer (some ⟨w.heap.size, 6, none⟩)) | 6 => .v (.int .i64 n) | 7 => .v (.pointer (some ⟨w.heap.size + 1, 6, none⟩)) | 8 => .v (.int .i64 n2) | 9 => .v (.int .i64 (NM.cmpI n n2)) | 10 => .row #[.int .i64 (NM.lexL [c, h, t, k, i] [c2, h2, t2, k2, i2]), .int .i64 (NM.cmpI n n2)] 3 2 | 11 => .v (.int .i64 (NM.orI (NM.lexL [c, h, t, k, i] [c2, h2, t2, k2, i2]) (NM.cmpI n n2))) | 12 => .v (.int .i64 (NM.orI (NM.lexL [c, h, t, k, i] [c2, h2, t2, k2, i2]) (NM.cmpI n n2))) | _ => .any) (by kernel_rfl) rfl (by kernel_rfl)  (fun i hi => by show (if i = 12 then 4 else 5 + i) < 17; (repeat' split) <;> omega) (fun i j hi hj => by show (if i = 12 then 4 else 5 + i) = (if j = 12 then 4 else 5 + j) → i = j; (repeat' split) <;> omega) ?step ?fin
  case step =>
    intro L_ A_ w3 ix op_ hI ho hdep
    have hi : ix < 13 := (Array.getElem?_eq_some_iff.1 ho).1
    have hcase : ix = 0 ∨ ix = 1 ∨ ix = 2 ∨ ix = 3 ∨ ix = 4 ∨ ix = 5 ∨ ix = 6 ∨ ix = 7 ∨ ix = 8 ∨ ix = 9 ∨ ix = 10 ∨ ix = 11 ∨ ix = 12 := by omega
    have hh := hI.held
    clear hi
    rcases hcase with rfl | rfl | rfl | rfl | rfl | rfl | rfl | rfl | rfl | rfl | rfl | rfl | rfl
    · simp only [List.getElem?_toArray, List.getElem?_cons_zero, Option.some.injEq] at ho
      subst ho
      refine ⟨rfl, ?_⟩
      have e2 : A_.tmps[2]?.getD undef = .pointer (some ⟨w.heap.size, 0, none⟩) := by rw [hI.low 2 (by decide)]; rfl
      clear hI hdep
      exact .run rfl (.pointer (some ⟨w.heap.size, 0, none⟩)) w3 (by simp [execOp, go_sem, Act.eval, e2]) (Below.refl _ _) rfl
    · simp only [List.getElem?_toArray, List.getElem?_cons_succ, List.getElem?_cons_zero, Option.some.injEq] at ho
      subst ho
      refine ⟨rfl, ?_⟩
      have e5 : A_.tmps[5]?.getD undef = .pointer (some ⟨w.heap.size, 0, none⟩) := getD_of (hI.val_ (i := 0) rfl rfl (by decide) (hdep ⟨0, .data⟩ (by simp) rfl))
      clear hI hdep
      obtain ⟨⟨d0, d1, d2, d3, d4, d5, d6⟩, f0, f1, f2, f3, f4, f5, f6⟩ := HK.out w3 hh
      exact .run rfl (.agg #[.int .i64 c, .int .i64 h, .int .i64 t, .int .i64 k, .int .i64 i]) w3 (by simp [execOp, go_sem, Act.eval, *]) (Below.refl _ _) rfl
    · simp only [List.getElem?_toArray, List.getElem?_cons_succ, List.getElem?_cons_zero, Option.some.injEq] at ho
      subst ho
      refine ⟨rfl, ?_⟩
      have e3 : A_.tmps[3]?.getD undef = .pointer (some ⟨w.heap.size + 1, 0, none⟩) := by rw [hI.low 3 (by decide)]; rfl
      clear hI hdep
      exact .run rfl (.pointer (some ⟨w.heap.size + 1, 0, none⟩)) w3 (by simp [execOp, go_sem, Act.eval, e3]) (Below.refl _ _) rfl
    · simp only [List.getElem?_toArray, List.getElem?_cons_succ, List.getElem?_cons_zero, Option.some.injEq] at ho
      subst ho
      refine ⟨rfl, ?_⟩
      have e7 : A_.tmps[7]?.getD undef = .pointer (some ⟨w.heap.size + 1, 0, none⟩) := getD_of (hI.val_ (i := 2) rfl rfl (by decide) (hdep ⟨2, .data⟩ (by simp) rfl))
      clear hI hdep
      obtain ⟨⟨d0, d1, d2, d3, d4, d5, d6⟩, f0, f1, f2, f3, f4, f5, f6⟩ := HK.out w3 hh
      exact .run rfl (.agg #[.int .i64 c2, .int .i64 h2, .int .i64 t2, .int .i64 k2, .int .i64 i2]) w3 (by simp [execOp, go_sem, Act.eval, *]) (Below.refl _ _) rfl
    · simp only [List.getElem?_toArray, List.getElem?_cons_succ, List.getElem?_cons_zero, Option.some.injEq] at ho
      subst ho
      refine ⟨rfl, ?_⟩
      have e6 : A_.tmps[6]?.getD undef = .agg #[.int .i64 c, .int .i64 h, .int .i64 t, .int .i64 k, .int .i64 i] := getD_of (hI.val_ (i := 1) rfl rfl (by decide) (hdep ⟨1, .data⟩ (by simp) rfl))
      have e8 : A_.tmps[8]?.getD undef = .agg #[.int .i64 c2, .int .i64 h2, .int .i64 t2, .int .i64 k2, .int .i64 i2] := getD_of (hI.val_ (i := 3) rfl rfl (by decide) (hdep ⟨3, .data⟩ (by simp) rfl))
      clear hI hdep
      exact .call rfl 50 #[.agg #[.int .i64 c, .int .i64 h, .int .i64 t, .int .i64 k, .int .i64 i], .agg #[.int .i64 c2, .int .i64 h2, .int .i64 t2, .int .i64 k2, .int .i64 i2]] (by simp [go_sem, Act.eval, e6, e8]) ((cmpQue_any ⟨c, h, t, k, i⟩ ⟨c2, h2, t2, k2, i2⟩ w3).mono fun _ _ ⟨h1_, h2_⟩ => ⟨⟨_, h1_, rfl⟩, h2_⟩)
    · simp only [List.getElem?_toArray, List.getElem?_cons_succ, List.getElem?_cons_zero, Option.some.injEq] at ho
      subst ho
      refine ⟨rfl, ?_⟩
      have e2 : A_.tmps[2]?.getD undef = .pointer (some ⟨w.heap.size, 0, none⟩) := by rw [hI.low 2 (by decide)]; rfl
      clear hI hdep
      exact .run rfl (.pointer (some ⟨w.heap.size, 6, none⟩)) w3 (by simp [execOp, go_sem, Act.eval, e2]) (Below.refl _ _) rfl
    · simp only [List.getElem?_toArray, List.getElem?_cons_succ, List.getElem?_cons_zero, Option.some.injEq] at ho
      subst ho
      refine ⟨rfl, ?_⟩
      have e10 : A_.tmps[10]?.getD undef = .pointer (some ⟨w.heap.size, 6, none⟩) := getD_of (hI.val_ (i := 5) rfl rfl (by decide) (hdep ⟨5, .data⟩ (by simp) rfl))
      clear hI hdep
      obtain ⟨⟨d0, d1, d2, d3, d4, d5, d6⟩, f0, f1, f2, f3, f4, f5, f6⟩ := HK.out w3 hh
      exact .run rfl (.int .i64 n) w3 (by simp [execOp, go_sem, Act.eval, *]) (Below.refl _ _) rfl
    · simp only [List.getElem?_toArray, List.getElem?_cons_succ, List.getElem?_cons_zero, Option.some.injEq] at ho
      subst ho
      refine ⟨rfl, ?_⟩
      have e3 : A_.tmps[3]?.getD undef = .pointer (some ⟨w.heap.size + 1, 0, none⟩) := by rw [hI.low 3 (by decide)]; rfl
      clear hI hdep
      exact .run rfl (.pointer (some ⟨w.heap.size + 1, 6, none⟩)) w3 (by simp [execOp, go_sem, Act.eval, e3]) (Below.refl _ _) rfl
    · simp only [List.getElem?_toArray, List.getElem?_cons_succ, List.getElem?_cons_zero, Option.some.injEq] at ho
      subst ho
      refine ⟨rfl, ?_⟩
      have e12 : A_.tmps[12]?.getD undef = .pointer (some ⟨w.heap.size + 1, 6, none⟩) := getD_of (hI.val_ (i := 7) rfl rfl (by decide) (hdep ⟨7, .data⟩ (by simp) rfl))
      clear hI hdep
      obtain ⟨⟨d0, d1, d2, d3, d4, d5, d6⟩, f0, f1, f2, f3, f4, f5, f6⟩ := HK.out w3 hh
      exact .run rfl (.int .i64 n2) w3 (by simp [execOp, go_sem, Act.eval, *]) (Below.refl _ _) rfl
    · simp only [List.getElem?_toArray, List.getElem?_cons_succ, List.getElem?_cons_zero, Option.some.injEq] at ho
      subst ho
      refine ⟨rfl, ?_⟩
      have e11 : A_.tmps[11]?.getD undef = .int .i64 n := getD_of (hI.val_ (i := 6) rfl rfl (by decide) (hdep ⟨6, .data⟩ (by simp) rfl))
      have e13 : A_.tmps[13]?.getD undef = .int .i64 n2 := getD_of (hI.val_ (i := 8) rfl rfl (by decide) (hdep ⟨8, .data⟩ (by simp) rfl))
      clear hI hdep
      exact .call rfl 49 #[.int .i64 n, .int .i64 n2] (by simp [go_sem, Act.eval, e11, e13]) ((cmp_below n n2 w3).mono fun _ _ ⟨h1_, h2_⟩ => ⟨⟨_, h1_, rfl⟩, h2_⟩)
    · simp only [List.getElem?_toArray, List.getElem?_cons_succ, List.getElem?_cons_zero, Option.some.injEq] at ho
      subst ho
      refine ⟨rfl, ?_⟩
      have e9 : A_.tmps[9]?.getD undef = .int .i64 (NM.lexL [c, h, t, k, i] [c2, h2, t2, k2, i2]) := getD_of (hI.val_ (i := 4) rfl rfl (by decide) (hdep ⟨4, .data⟩ (by simp) rfl))
      have e14 : A_.tmps[14]?.getD undef = .int .i64 (NM.cmpI n n2) := getD_of (hI.val_ (i := 9) rfl rfl (by decide) (hdep ⟨9, .data⟩ (by simp) rfl))
      clear hI hdep
      exact .run rfl (.slice (some ⟨w3.heap.size, 0, none⟩) 2 2) (w3.alloc (.cells #[.int .i64 (NM.lexL [c, h, t, k, i] [c2, h2, t2, k2, i2]), .int .i64 (NM.cmpI n n2)] 3)) (by simp [execOp, go_sem, Act.eval, e9, e14]) ((Below.refl _ _).alloc (Nat.le_refl _) _) (RgX.row_new _ _ _ _)
    · simp only [List.getElem?_toArray, List.getElem?_cons_succ, List.getElem?_cons_zero, Option.some.injEq] at ho
      subst ho
      refine ⟨rfl, ?_⟩
      obtain ⟨_, e15, g15, rfl, r15⟩ := hI.get_ (i := 10) (j := 15) rfl rfl (by decide) (hdep ⟨10, .data⟩ (by simp) rfl)
      clear hI hdep
      exact .call rfl 21 #[.slice (some ⟨g15, 0, none⟩) 2 2] (by simp [go_sem, Act.eval, e15]) ((or_below r15).mono fun _ _ ⟨h1_, h2_⟩ => ⟨⟨_, h1_, rfl⟩, h2_⟩)
    · simp only [List.getElem?_toArray, List.getElem?_cons_succ, List.getElem?_cons_zero, Option.some.injEq] at ho
      subst ho
      refine ⟨rfl, ?_⟩
      have e16 : A_.tmps[16]?.getD undef = .int .i64 (NM.orI (NM.lexL [c, h, t, k, i] [c2, h2, t2, k2, i2]) (NM.cmpI n n2)) := getD_of (hI.val_ (i := 11) rfl rfl (by decide) (hdep ⟨11, .data⟩ (by simp) rfl))
      clear hI hdep
      exact .run rfl (.int .i64 (NM.orI (NM.lexL [c, h, t, k, i] [c2, h2, t2, k2, i2]) (NM.cmpI n n2))) w3 (by simp [execOp, go_sem, Act.eval, e16]) (Below.refl _ _) rfl
  case fin =>
  intro A_ w3 hs hd hlow hS hok
  obtain ⟨_, hy15, g15, rfl, r15⟩ := hok 10 15 _ (by decide) rfl rfl
  obtain rfl : A_ = ⟨#[.agg #[.int .i64 c, .int .i64 h, .int .i64 t, .int .i64 k, .int .i64 i, .int .i64 r, .int .i64 n], .agg #[.int .i64 c2, .int .i64 h2, .int .i64 t2, .int .i64 k2, .int .i64 i2, .int .i64 r2, .int .i64 n2], .pointer (some ⟨w.heap.size, 0, none⟩), .pointer (some ⟨w.heap.size + 1, 0, none⟩), .int .i64 (NM.orI (NM.lexL [c, h, t, k, i] [c2, h2, t2, k2, i2]) (NM.cmpI n n2)), .pointer (some ⟨w.heap.size, 0, none⟩), .agg #[.int .i64 c, .int .i64 h, .int .i64 t, .int .i64 k, .int .i64 i], .pointer (some ⟨w.heap.size + 1, 0, none⟩), .agg #[.int .i64 c2, .int .i64 h2, .int .i64 t2, .int .i64 k2, .int .i64 i2], .int .i64 (NM.lexL [c, h, t, k, i] [c2, h2, t2, k2, i2]), .pointer (some ⟨w.heap.size, 6, none⟩), .int .i64 n, .pointer (some ⟨w.heap.size + 1, 6, none⟩), .int .i64 n2, .int .i64 (NM.cmpI n n2), .slice (some ⟨g15, 0, none⟩) 2 2, .int .i64 (NM.orI (NM.lexL [c, h, t, k, i] [c2, h2, t2, k2, i2]) (NM.cmpI n n2))], []⟩ := act_ext hd hs (fun j hj => match j, hj with | 0, _ => (hlow 0 (by decide)).trans rfl | 1, _ => (hlow 1 (by decide)).trans rfl | 2, _ => (hlow 2 (by decide)).trans rfl | 3, _ => (hlow 3 (by decide)).trans rfl | 4, _ => RgX.val_at (hok 12 4 _ (by decide) rfl rfl) | 5, _ => RgX.val_at (hok 0 5 _ (by decide) rfl rfl) | 6, _ => RgX.val_at (hok 1 6 _ (by decide) rfl rfl) | 7, _ => RgX.val_at (hok 2 7 _ (by decide) rfl rfl) | 8, _ => RgX.val_at (hok 3 8 _ (by decide) rfl rfl) | 9, _ => RgX.val_at (hok 4 9 _ (by decide) rfl rfl) | 10, _ => RgX.val_at (hok 5 10 _ (by decide) rfl rfl) | 11, _ => RgX.val_at (hok 6 11 _ (by decide) rfl rfl) | 12, _ => RgX.val_at (hok 7 12 _ (by decide) rfl rfl) | 13, _ => RgX.val_at (hok 8 13 _ (by decide) rfl rfl) | 14, _ => RgX.val_at (hok 9 14 _ (by decide) rfl rfl) | 15, _ => hy15 | 16, _ => RgX.val_at (hok 11 16 _ (by decide) rfl rfl) | n + 17, h => absurd h (by show ¬ n + 17 < 17; omega))
  clear hs hd hlow hok hy15
  go_wp2_with fail
  go_ret
  exact ⟨rfl, HB.out.trans (hS.mono HB.out.size)⟩
end Go.Proofs.YtggallpnbbidfaaGreatDoor
