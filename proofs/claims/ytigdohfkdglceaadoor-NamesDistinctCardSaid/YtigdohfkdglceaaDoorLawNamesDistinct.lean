/-
  The walk of NamesDistinct: generated events and questions have the same text exactly if they are the same. Condition: the listed tables and variables stand (TN).
-/
import Derived.Test.YtigdohfkdglceaaDoorNmKc
import Derived.Test.YtigdohfkdglceaaDoorNmL
import Derived.Test.YtigdohfkdglceaaDoorLaidN
namespace Go.Proofs.YtigdohfkdglceaaDoor.LawNamesDistinct
open Go Go.RowKit Go.Proofs Go.Proofs.YtigdohfkdglceaaDoor
attribute [local go_sem] Oper.semAt_some

theorem step_box {V w1 : World} {o : Obj} (hb : Below V.heap.size V w1) : ∃ U, w1.alloc o = U ∧ Below V.heap.size V U ∧ U.heap[w1.heap.size]? = some o ∧ V.heap.size ≤ w1.heap.size ∧ w1.heap.size < U.heap.size :=
  ⟨_, rfl, hb.trans ((one_box w1 o).mono hb.size), new_at rfl, hb.size, by simp⟩
set_option maxHeartbeats 2000000 in
set_option maxRecDepth 100000 in
theorem walk_gen (a0 a1 b0 b1 : Int) (xk xn xa xc xh xt xi xp yk yn ya yc yh yt yi yp pc ph pt pk pi qc qh qt qk qi : Int) (X Y Z T : ByteArray) (B1 B2 : Bool) (w : World)
    (H1 : Hid (∀ V, Calls Tryd.prog 20 #[.int .i64 a0, .int .i64 a1] V fun e w' => e = .returned (.agg #[.int .i64 xk, .int .i64 xn, .int .i64 xa, .int .i64 xc, .int .i64 xh, .int .i64 xt, .int .i64 xi, .int .i64 xp]) ∧ Below V.heap.size V w'))
    (H2 : Hid (∀ V, Calls Tryd.prog 20 #[.int .i64 b0, .int .i64 b1] V fun e w' => e = .returned (.agg #[.int .i64 yk, .int .i64 yn, .int .i64 ya, .int .i64 yc, .int .i64 yh, .int .i64 yt, .int .i64 yi, .int .i64 yp]) ∧ Below V.heap.size V w'))
    (H3 : Hid (∀ V, Calls Tryd.prog 24 #[.int .i64 a0, .int .i64 a1] V fun e w' => e = .returned (.agg #[.int .i64 pc, .int .i64 ph, .int .i64 pt, .int .i64 pk, .int .i64 pi]) ∧ Below V.heap.size V w'))
    (H4 : Hid (∀ V, Calls Tryd.prog 24 #[.int .i64 b0, .int .i64 b1] V fun e w' => e = .returned (.agg #[.int .i64 qc, .int .i64 qh, .int .i64 qt, .int .i64 qk, .int .i64 qi]) ∧ Below V.heap.size V w'))
    (T1 : Hid (∀ V, Below w.heap.size w V → Calls Tryd.prog 21 #[.agg #[.int .i64 xk, .int .i64 xn, .int .i64 xa, .int .i64 xc, .int .i64 xh, .int .i64 xt, .int .i64 xi, .int .i64 xp]] V fun e w' => e = .returned (.string X) ∧ Below V.heap.size V w'))
    (T2 : Hid (∀ V, Below w.heap.size w V → Calls Tryd.prog 21 #[.agg #[.int .i64 yk, .int .i64 yn, .int .i64 ya, .int .i64 yc, .int .i64 yh, .int .i64 yt, .int .i64 yi, .int .i64 yp]] V fun e w' => e = .returned (.string Y) ∧ Below V.heap.size V w'))
    (T3 : Hid (∀ V, Below w.heap.size w V → Calls Tryd.prog 25 #[.agg #[.int .i64 pc, .int .i64 ph, .int .i64 pt, .int .i64 pk, .int .i64 pi]] V fun e w' => e = .returned (.string Z) ∧ Below V.heap.size V w'))
    (T4 : Hid (∀ V, Below w.heap.size w V → Calls Tryd.prog 25 #[.agg #[.int .i64 qc, .int .i64 qh, .int .i64 qt, .int .i64 qk, .int .i64 qi]] V fun e w' => e = .returned (.string T) ∧ Below V.heap.size V w'))
    (HL : Hid (∀ V, Below w.heap.size w V → Calls Tryd.prog 13 #[] V fun e w' => e = .returned (.bool true) ∧ Below V.heap.size V w'))
    (hE : ∀ V, (binOp .eql 34 (.agg #[.int .i64 xk, .int .i64 xn, .int .i64 xa, .int .i64 xc, .int .i64 xh, .int .i64 xt, .int .i64 xi, .int .i64 xp]) (.agg #[.int .i64 yk, .int .i64 yn, .int .i64 ya, .int .i64 yc, .int .i64 yh, .int .i64 yt, .int .i64 yi, .int .i64 yp])).run Tryd.prog V = .ok (.bool B1) V)
    (hQ : ∀ V, (binOp .eql 36 (.agg #[.int .i64 pc, .int .i64 ph, .int .i64 pt, .int .i64 pk, .int .i64 pi]) (.agg #[.int .i64 qc, .int .i64 qh, .int .i64 qt, .int .i64 qk, .int .i64 qi])).run Tryd.prog V = .ok (.bool B2) V)
    (hx : (X.toList == Y.toList) = B1) (hz : (Z.toList == T.toList) = B2) :
    Calls Tryd.prog 8 #[.agg #[.int .i64 a0, .int .i64 a1], .agg #[.int .i64 b0, .int .i64 b1]] w fun e w' => e = .returned (.bool true) ∧ Below w.heap.size w w' := by
  obtain ⟨U0, hU0, hb0, ka, kb, hlt0⟩ := two_boxes w (.cells #[.int .i64 a0, .int .i64 a1] 58) (.cells #[.int .i64 b0, .int .i64 b1] 58)
  have p0 : U0.cell? ⟨w.heap.size, 0, none⟩ = some (.int .i64 a0) := cell_of_row _ _ 0 _ _ (0, 0) ka
  have p1 : U0.cell? ⟨w.heap.size, 1, none⟩ = some (.int .i64 a1) := cell_of_row _ _ 1 _ _ (0, 0) ka
  have HA := Lib.hid (fun (V : World) (hV : Below U0.heap.size U0 V) => (hV.block w.heap.size (by omega)).trans ka)
  have HB := Lib.hid (fun (V : World) (hV : Below U0.heap.size U0 V) => (hV.block (w.heap.size + 1) hlt0).trans kb)
  have HB0 := Lib.hid hb0
  clear hb0 ka kb
  go_enter Tryd.func8, Tryd.ntmps8
  go_wp2_with fail
  clear hU0 p0 p1
  refine (H1.out _).mono ?_
  rintro e w1 ⟨rfl, hb1⟩
  obtain ⟨U1, hU1, hB1, k1, hz1, hlt1⟩ := step_box (o := .cells #[.int .i64 xk, .int .i64 xn, .int .i64 xa, .int .i64 xc, .int .i64 xh, .int .i64 xt, .int .i64 xi, .int .i64 xp] 34) hb1
  have hBa1 : Below U0.heap.size U0 U1 := hB1
  clear H1 hb1 hB1
  have p0 : U1.cell? ⟨w.heap.size + 1, 0, none⟩ = some (.int .i64 b0) := cell_of_row _ _ 0 _ _ (0, 0) (HB.out _ hBa1)
  have p1 : U1.cell? ⟨w.heap.size + 1, 1, none⟩ = some (.int .i64 b1) := cell_of_row _ _ 1 _ _ (0, 0) (HB.out _ hBa1)
  have K1 := Lib.hid k1
  have HBA := Lib.hid hBa1
  clear k1 hBa1
  go_wp2_with fail
  clear hU1 p0 p1
  have k1 := K1.out
  have hBa1 := HBA.out
  clear HBA K1
  refine (H2.out _).mono ?_
  rintro e w2 ⟨rfl, hb2⟩
  obtain ⟨U2, hU2, hB2, k2, hz2, hlt2⟩ := step_box (o := .cells #[.int .i64 yk, .int .i64 yn, .int .i64 ya, .int .i64 yc, .int .i64 yh, .int .i64 yt, .int .i64 yi, .int .i64 yp] 34) hb2
  have k1 := (hB2.block _ (heap_lt k1)).trans k1
  have hBa2 : Below U0.heap.size U0 U2 := hBa1.trans (hB2.mono hBa1.size)
  clear hBa1
  clear H2 hb2 hB2
  have p0 : U2.cell? ⟨w.heap.size, 0, none⟩ = some (.int .i64 a0) := cell_of_row _ _ 0 _ _ (0, 0) (HA.out _ hBa2)
  have p1 : U2.cell? ⟨w.heap.size, 1, none⟩ = some (.int .i64 a1) := cell_of_row _ _ 1 _ _ (0, 0) (HA.out _ hBa2)
  have K1 := Lib.hid k1
  have K2 := Lib.hid k2
  have HBA := Lib.hid hBa2
  clear k1 k2 hBa2
  go_wp2_with fail
  clear hU2 p0 p1
  have k1 := K1.out
  have k2 := K2.out
  have hBa2 := HBA.out
  clear HBA K1 K2
  refine (H3.out _).mono ?_
  rintro e w3 ⟨rfl, hb3⟩
  obtain ⟨U3, hU3, hB3, k3, hz3, hlt3⟩ := step_box (o := .cells #[.int .i64 pc, .int .i64 ph, .int .i64 pt, .int .i64 pk, .int .i64 pi] 36) hb3
  have k1 := (hB3.block _ (heap_lt k1)).trans k1
  have k2 := (hB3.block _ (heap_lt k2)).trans k2
  have hBa3 : Below U0.heap.size U0 U3 := hBa2.trans (hB3.mono hBa2.size)
  clear hBa2
  clear H3 hb3 hB3
  have p0 : U3.cell? ⟨w.heap.size + 1, 0, none⟩ = some (.int .i64 b0) := cell_of_row _ _ 0 _ _ (0, 0) (HB.out _ hBa3)
  have p1 : U3.cell? ⟨w.heap.size + 1, 1, none⟩ = some (.int .i64 b1) := cell_of_row _ _ 1 _ _ (0, 0) (HB.out _ hBa3)
  have K1 := Lib.hid k1
  have K2 := Lib.hid k2
  have K3 := Lib.hid k3
  have HBA := Lib.hid hBa3
  clear k1 k2 k3 hBa3
  go_wp2_with fail
  clear hU3 p0 p1
  have k1 := K1.out
  have k2 := K2.out
  have k3 := K3.out
  have hBa3 := HBA.out
  clear HBA K1 K2 K3
  refine (H4.out _).mono ?_
  rintro e w4 ⟨rfl, hb4⟩
  obtain ⟨U4, hU4, hB4, k4, hz4, hlt4⟩ := step_box (o := .cells #[.int .i64 qc, .int .i64 qh, .int .i64 qt, .int .i64 qk, .int .i64 qi] 36) hb4
  have k1 := (hB4.block _ (heap_lt k1)).trans k1
  have k2 := (hB4.block _ (heap_lt k2)).trans k2
  have k3 := (hB4.block _ (heap_lt k3)).trans k3
  have hBa4 : Below U0.heap.size U0 U4 := hBa3.trans (hB4.mono hBa3.size)
  clear hBa3
  clear H4 hb4 hB4
  have HBU := Lib.hid (HB0.out.trans (hBa4.mono HB0.out.size))
  have HK := Lib.hid (fun (V : World) (hV : Below U4.heap.size U4 V) => And.intro (row8 ((hV.block _ (heap_lt k1)).trans k1)) (And.intro (row8 ((hV.block _ (heap_lt k2)).trans k2)) (And.intro (row5 ((hV.block _ (heap_lt k3)).trans k3)) (row5 ((hV.block _ (heap_lt k4)).trans k4)))))
  clear k1 k2 k3 k4 hBa4 HA HB HB0
  go_wp2_with fail
  clear hU4
  refine region_specs 24 (fun i => (if i = 23 then 4 else 29 + i)) (fun ix_ => match ix_ with | 0 => .val (.agg #[.int .i64 xk, .int .i64 xn, .int .i64 xa, .int .i64 xc, .int .i64 xh, .int .i64 xt, .int .i64 xi, .int .i64 xp]) | 1 => .val (.string X) | 2 => .val (.agg #[.int .i64 yk, .int .i64 yn, .int .i64 ya, .int .i64 yc, .int .i64 yh, .int .i64 yt, .int .i64 yi, .int .i64 yp]) | 3 => .val (.string Y) | 4 => .val (.bool B1) | 5 => .val (.agg #[.int .i64 xk, .int .i64 xn, .int .i64 xa, .int .i64 xc, .int .i64 xh, .int .i64 xt, .int .i64 xi, .int .i64 xp]) | 6 => .val (.agg #[.int .i64 yk, .int .i64 yn, .int .i64 ya, .int .i64 yc, .int .i64 yh, .int .i64 yt, .int .i64 yi, .int .i64 yp]) | 7 => .val (.bool B1) | 8 => .val (.bool true) | 9 => .val (.bool true) | 10 => .val (.agg #[.int .i64 pc, .int .i64 ph, .int .i64 pt, .int .i64 pk, .int .i64 pi]) | 11 => .val (.string Z) | 12 => .val (.agg #[.int .i64 qc, .int .i64 qh, .int .i64 qt, .int .i64 qk, .int .i64 qi]) | 13 => .val (.string T) | 14 => .val (.bool B2) | 15 => .val (.agg #[.int .i64 pc, .int .i64 ph, .int .i64 pt, .int .i64 pk, .int .i64 pi]) | 16 => .val (.agg #[.int .i64 qc, .int .i64 qh, .int .i64 qt, .int .i64 qk, .int .i64 qi]) | 17 => .val (.bool B2) | 18 => .val (.bool true) | 19 => .val (.bool true) | 20 => .val (.bool true) | 21 => .val (.bool true) | 22 => .val (.bool true) | 23 => .val (.bool true) | _ => .val undef) (by kernel_rfl) rfl (by kernel_rfl) (fun i hi => by show (if i = 23 then 4 else 29 + i) < 52; (repeat' split) <;> omega) (fun i j hi hj => by show (if i = 23 then 4 else 29 + i) = (if j = 23 then 4 else 29 + j) → i = j; (repeat' split) <;> omega) ?step ?fin
  case step =>
    intro listed A_ w9 ix op_ hI ho hdep
    have hi : ix < 24 := (Array.getElem?_eq_some_iff.1 ho).1
    have hcase : ix = 0 ∨ ix = 1 ∨ ix = 2 ∨ ix = 3 ∨ ix = 4 ∨ ix = 5 ∨ ix = 6 ∨ ix = 7 ∨ ix = 8 ∨ ix = 9 ∨ ix = 10 ∨ ix = 11 ∨ ix = 12 ∨ ix = 13 ∨ ix = 14 ∨ ix = 15 ∨ ix = 16 ∨ ix = 17 ∨ ix = 18 ∨ ix = 19 ∨ ix = 20 ∨ ix = 21 ∨ ix = 22 ∨ ix = 23 := by omega
    have hh := hI.held
    clear hi
    rcases hcase with rfl | rfl | rfl | rfl | rfl | rfl | rfl | rfl | rfl | rfl | rfl | rfl | rfl | rfl | rfl | rfl | rfl | rfl | rfl | rfl | rfl | rfl | rfl | rfl
    · simp only [List.getElem?_toArray, List.getElem?_cons_zero, Option.some.injEq] at ho
      subst ho
      refine ⟨rfl, ?_⟩
      have e5 : A_.tmps[5]?.getD undef = .pointer (some ⟨w1.heap.size, 0, none⟩) := by rw [hI.low 5 (by decide)]; rfl
      clear hI hdep
      obtain ⟨⟨x0, x1, x2, x3, x4, x5, x6, x7⟩, ⟨y0, y1, y2, y3, y4, y5, y6, y7⟩, ⟨z0, z1, z2, z3, z4⟩, t0, t1, t2, t3, t4⟩ := HK.out w9 hh
      exact .run rfl (.agg #[.int .i64 xk, .int .i64 xn, .int .i64 xa, .int .i64 xc, .int .i64 xh, .int .i64 xt, .int .i64 xi, .int .i64 xp]) w9 (by simp [execOp, go_sem, Act.eval, *]) (Below.refl _ _) rfl
    · simp only [List.getElem?_toArray, List.getElem?_cons_succ, List.getElem?_cons_zero, Option.some.injEq] at ho
      subst ho
      refine ⟨rfl, ?_⟩
      have e29 : A_.tmps[29]?.getD undef = .agg #[.int .i64 xk, .int .i64 xn, .int .i64 xa, .int .i64 xc, .int .i64 xh, .int .i64 xt, .int .i64 xi, .int .i64 xp] := getD_of (hI.val_ (i := 0) rfl rfl (by decide) (hdep ⟨0, .data⟩ (by simp) rfl))
      clear hI hdep
      exact .call rfl 21 #[.agg #[.int .i64 xk, .int .i64 xn, .int .i64 xa, .int .i64 xc, .int .i64 xh, .int .i64 xt, .int .i64 xi, .int .i64 xp]] (.string X) (by simp [go_sem, Act.eval, e29]) rfl (T1.out w9 (HBU.out.trans (hh.mono HBU.out.size)))
    · simp only [List.getElem?_toArray, List.getElem?_cons_succ, List.getElem?_cons_zero, Option.some.injEq] at ho
      subst ho
      refine ⟨rfl, ?_⟩
      have e6 : A_.tmps[6]?.getD undef = .pointer (some ⟨w2.heap.size, 0, none⟩) := by rw [hI.low 6 (by decide)]; rfl
      clear hI hdep
      obtain ⟨⟨x0, x1, x2, x3, x4, x5, x6, x7⟩, ⟨y0, y1, y2, y3, y4, y5, y6, y7⟩, ⟨z0, z1, z2, z3, z4⟩, t0, t1, t2, t3, t4⟩ := HK.out w9 hh
      exact .run rfl (.agg #[.int .i64 yk, .int .i64 yn, .int .i64 ya, .int .i64 yc, .int .i64 yh, .int .i64 yt, .int .i64 yi, .int .i64 yp]) w9 (by simp [execOp, go_sem, Act.eval, *]) (Below.refl _ _) rfl
    · simp only [List.getElem?_toArray, List.getElem?_cons_succ, List.getElem?_cons_zero, Option.some.injEq] at ho
      subst ho
      refine ⟨rfl, ?_⟩
      have e31 : A_.tmps[31]?.getD undef = .agg #[.int .i64 yk, .int .i64 yn, .int .i64 ya, .int .i64 yc, .int .i64 yh, .int .i64 yt, .int .i64 yi, .int .i64 yp] := getD_of (hI.val_ (i := 2) rfl rfl (by decide) (hdep ⟨2, .data⟩ (by simp) rfl))
      clear hI hdep
      exact .call rfl 21 #[.agg #[.int .i64 yk, .int .i64 yn, .int .i64 ya, .int .i64 yc, .int .i64 yh, .int .i64 yt, .int .i64 yi, .int .i64 yp]] (.string Y) (by simp [go_sem, Act.eval, e31]) rfl (T2.out w9 (HBU.out.trans (hh.mono HBU.out.size)))
    · simp only [List.getElem?_toArray, List.getElem?_cons_succ, List.getElem?_cons_zero, Option.some.injEq] at ho
      subst ho
      refine ⟨rfl, ?_⟩
      have e30 : A_.tmps[30]?.getD undef = .string X := getD_of (hI.val_ (i := 1) rfl rfl (by decide) (hdep ⟨1, .data⟩ (by simp) rfl))
      have e32 : A_.tmps[32]?.getD undef = .string Y := getD_of (hI.val_ (i := 3) rfl rfl (by decide) (hdep ⟨3, .data⟩ (by simp) rfl))
      clear hI hdep
      exact .run rfl (.bool B1) w9 (by simp [execOp, go_sem, Act.eval, *]) (Below.refl _ _) rfl
    · simp only [List.getElem?_toArray, List.getElem?_cons_succ, List.getElem?_cons_zero, Option.some.injEq] at ho
      subst ho
      refine ⟨rfl, ?_⟩
      have e5 : A_.tmps[5]?.getD undef = .pointer (some ⟨w1.heap.size, 0, none⟩) := by rw [hI.low 5 (by decide)]; rfl
      clear hI hdep
      obtain ⟨⟨x0, x1, x2, x3, x4, x5, x6, x7⟩, ⟨y0, y1, y2, y3, y4, y5, y6, y7⟩, ⟨z0, z1, z2, z3, z4⟩, t0, t1, t2, t3, t4⟩ := HK.out w9 hh
      exact .run rfl (.agg #[.int .i64 xk, .int .i64 xn, .int .i64 xa, .int .i64 xc, .int .i64 xh, .int .i64 xt, .int .i64 xi, .int .i64 xp]) w9 (by simp [execOp, go_sem, Act.eval, *]) (Below.refl _ _) rfl
    · simp only [List.getElem?_toArray, List.getElem?_cons_succ, List.getElem?_cons_zero, Option.some.injEq] at ho
      subst ho
      refine ⟨rfl, ?_⟩
      have e6 : A_.tmps[6]?.getD undef = .pointer (some ⟨w2.heap.size, 0, none⟩) := by rw [hI.low 6 (by decide)]; rfl
      clear hI hdep
      obtain ⟨⟨x0, x1, x2, x3, x4, x5, x6, x7⟩, ⟨y0, y1, y2, y3, y4, y5, y6, y7⟩, ⟨z0, z1, z2, z3, z4⟩, t0, t1, t2, t3, t4⟩ := HK.out w9 hh
      exact .run rfl (.agg #[.int .i64 yk, .int .i64 yn, .int .i64 ya, .int .i64 yc, .int .i64 yh, .int .i64 yt, .int .i64 yi, .int .i64 yp]) w9 (by simp [execOp, go_sem, Act.eval, *]) (Below.refl _ _) rfl
    · simp only [List.getElem?_toArray, List.getElem?_cons_succ, List.getElem?_cons_zero, Option.some.injEq] at ho
      subst ho
      refine ⟨rfl, ?_⟩
      have e34 : A_.tmps[34]?.getD undef = .agg #[.int .i64 xk, .int .i64 xn, .int .i64 xa, .int .i64 xc, .int .i64 xh, .int .i64 xt, .int .i64 xi, .int .i64 xp] := getD_of (hI.val_ (i := 5) rfl rfl (by decide) (hdep ⟨5, .data⟩ (by simp) rfl))
      have e35 : A_.tmps[35]?.getD undef = .agg #[.int .i64 yk, .int .i64 yn, .int .i64 ya, .int .i64 yc, .int .i64 yh, .int .i64 yt, .int .i64 yi, .int .i64 yp] := getD_of (hI.val_ (i := 6) rfl rfl (by decide) (hdep ⟨6, .data⟩ (by simp) rfl))
      clear hI hdep
      exact .run rfl (.bool B1) w9 (by simp [execOp, go_sem, Act.eval, *]) (Below.refl _ _) rfl
    · simp only [List.getElem?_toArray, List.getElem?_cons_succ, List.getElem?_cons_zero, Option.some.injEq] at ho
      subst ho
      refine ⟨rfl, ?_⟩
      have e33 : A_.tmps[33]?.getD undef = .bool B1 := getD_of (hI.val_ (i := 4) rfl rfl (by decide) (hdep ⟨4, .data⟩ (by simp) rfl))
      have e36 : A_.tmps[36]?.getD undef = .bool B1 := getD_of (hI.val_ (i := 7) rfl rfl (by decide) (hdep ⟨7, .data⟩ (by simp) rfl))
      clear hI hdep
      exact .run rfl (.bool true) w9 (by simp [execOp, go_sem, Act.eval, *]) (Below.refl _ _) rfl
    · simp only [List.getElem?_toArray, List.getElem?_cons_succ, List.getElem?_cons_zero, Option.some.injEq] at ho
      subst ho
      refine ⟨rfl, ?_⟩
      have e37 : A_.tmps[37]?.getD undef = .bool true := getD_of (hI.val_ (i := 8) rfl rfl (by decide) (hdep ⟨8, .data⟩ (by simp) rfl))
      clear hI hdep
      exact .run rfl (.bool true) w9 (by simp [execOp, go_sem, Act.eval, e37]) (Below.refl _ _) rfl
    · simp only [List.getElem?_toArray, List.getElem?_cons_succ, List.getElem?_cons_zero, Option.some.injEq] at ho
      subst ho
      refine ⟨rfl, ?_⟩
      have q38 : A_.tmps[38]? = some (.bool true) := hI.val_ (i := 9) rfl rfl (by decide) (hdep ⟨9, .guard⟩ (by simp) rfl)
      have e7 : A_.tmps[7]?.getD undef = .pointer (some ⟨w3.heap.size, 0, none⟩) := by rw [hI.low 7 (by decide)]; rfl
      clear hI hdep
      obtain ⟨⟨x0, x1, x2, x3, x4, x5, x6, x7⟩, ⟨y0, y1, y2, y3, y4, y5, y6, y7⟩, ⟨z0, z1, z2, z3, z4⟩, t0, t1, t2, t3, t4⟩ := HK.out w9 hh
      exact .run ((wanted_some rfl rfl q38).trans rfl) (.agg #[.int .i64 pc, .int .i64 ph, .int .i64 pt, .int .i64 pk, .int .i64 pi]) w9 (by simp [execOp, go_sem, Act.eval, *]) (Below.refl _ _) rfl
    · simp only [List.getElem?_toArray, List.getElem?_cons_succ, List.getElem?_cons_zero, Option.some.injEq] at ho
      subst ho
      refine ⟨rfl, ?_⟩
      have q38 : A_.tmps[38]? = some (.bool true) := hI.val_ (i := 9) rfl rfl (by decide) (hdep ⟨9, .guard⟩ (by simp) rfl)
      have e39 : A_.tmps[39]?.getD undef = .agg #[.int .i64 pc, .int .i64 ph, .int .i64 pt, .int .i64 pk, .int .i64 pi] := getD_of (hI.val_ (i := 10) rfl rfl (by decide) (hdep ⟨10, .data⟩ (by simp) rfl))
      clear hI hdep
      exact .call ((wanted_some rfl rfl q38).trans rfl) 25 #[.agg #[.int .i64 pc, .int .i64 ph, .int .i64 pt, .int .i64 pk, .int .i64 pi]] (.string Z) (by simp [go_sem, Act.eval, e39]) rfl (T3.out w9 (HBU.out.trans (hh.mono HBU.out.size)))
    · simp only [List.getElem?_toArray, List.getElem?_cons_succ, List.getElem?_cons_zero, Option.some.injEq] at ho
      subst ho
      refine ⟨rfl, ?_⟩
      have q38 : A_.tmps[38]? = some (.bool true) := hI.val_ (i := 9) rfl rfl (by decide) (hdep ⟨9, .guard⟩ (by simp) rfl)
      have e8 : A_.tmps[8]?.getD undef = .pointer (some ⟨w4.heap.size, 0, none⟩) := by rw [hI.low 8 (by decide)]; rfl
      clear hI hdep
      obtain ⟨⟨x0, x1, x2, x3, x4, x5, x6, x7⟩, ⟨y0, y1, y2, y3, y4, y5, y6, y7⟩, ⟨z0, z1, z2, z3, z4⟩, t0, t1, t2, t3, t4⟩ := HK.out w9 hh
      exact .run ((wanted_some rfl rfl q38).trans rfl) (.agg #[.int .i64 qc, .int .i64 qh, .int .i64 qt, .int .i64 qk, .int .i64 qi]) w9 (by simp [execOp, go_sem, Act.eval, *]) (Below.refl _ _) rfl
    · simp only [List.getElem?_toArray, List.getElem?_cons_succ, List.getElem?_cons_zero, Option.some.injEq] at ho
      subst ho
      refine ⟨rfl, ?_⟩
      have q38 : A_.tmps[38]? = some (.bool true) := hI.val_ (i := 9) rfl rfl (by decide) (hdep ⟨9, .guard⟩ (by simp) rfl)
      have e41 : A_.tmps[41]?.getD undef = .agg #[.int .i64 qc, .int .i64 qh, .int .i64 qt, .int .i64 qk, .int .i64 qi] := getD_of (hI.val_ (i := 12) rfl rfl (by decide) (hdep ⟨12, .data⟩ (by simp) rfl))
      clear hI hdep
      exact .call ((wanted_some rfl rfl q38).trans rfl) 25 #[.agg #[.int .i64 qc, .int .i64 qh, .int .i64 qt, .int .i64 qk, .int .i64 qi]] (.string T) (by simp [go_sem, Act.eval, e41]) rfl (T4.out w9 (HBU.out.trans (hh.mono HBU.out.size)))
    · simp only [List.getElem?_toArray, List.getElem?_cons_succ, List.getElem?_cons_zero, Option.some.injEq] at ho
      subst ho
      refine ⟨rfl, ?_⟩
      have q38 : A_.tmps[38]? = some (.bool true) := hI.val_ (i := 9) rfl rfl (by decide) (hdep ⟨9, .guard⟩ (by simp) rfl)
      have e40 : A_.tmps[40]?.getD undef = .string Z := getD_of (hI.val_ (i := 11) rfl rfl (by decide) (hdep ⟨11, .data⟩ (by simp) rfl))
      have e42 : A_.tmps[42]?.getD undef = .string T := getD_of (hI.val_ (i := 13) rfl rfl (by decide) (hdep ⟨13, .data⟩ (by simp) rfl))
      clear hI hdep
      exact .run ((wanted_some rfl rfl q38).trans rfl) (.bool B2) w9 (by simp [execOp, go_sem, Act.eval, *]) (Below.refl _ _) rfl
    · simp only [List.getElem?_toArray, List.getElem?_cons_succ, List.getElem?_cons_zero, Option.some.injEq] at ho
      subst ho
      refine ⟨rfl, ?_⟩
      have q38 : A_.tmps[38]? = some (.bool true) := hI.val_ (i := 9) rfl rfl (by decide) (hdep ⟨9, .guard⟩ (by simp) rfl)
      have e7 : A_.tmps[7]?.getD undef = .pointer (some ⟨w3.heap.size, 0, none⟩) := by rw [hI.low 7 (by decide)]; rfl
      clear hI hdep
      obtain ⟨⟨x0, x1, x2, x3, x4, x5, x6, x7⟩, ⟨y0, y1, y2, y3, y4, y5, y6, y7⟩, ⟨z0, z1, z2, z3, z4⟩, t0, t1, t2, t3, t4⟩ := HK.out w9 hh
      exact .run ((wanted_some rfl rfl q38).trans rfl) (.agg #[.int .i64 pc, .int .i64 ph, .int .i64 pt, .int .i64 pk, .int .i64 pi]) w9 (by simp [execOp, go_sem, Act.eval, *]) (Below.refl _ _) rfl
    · simp only [List.getElem?_toArray, List.getElem?_cons_succ, List.getElem?_cons_zero, Option.some.injEq] at ho
      subst ho
      refine ⟨rfl, ?_⟩
      have q38 : A_.tmps[38]? = some (.bool true) := hI.val_ (i := 9) rfl rfl (by decide) (hdep ⟨9, .guard⟩ (by simp) rfl)
      have e8 : A_.tmps[8]?.getD undef = .pointer (some ⟨w4.heap.size, 0, none⟩) := by rw [hI.low 8 (by decide)]; rfl
      clear hI hdep
      obtain ⟨⟨x0, x1, x2, x3, x4, x5, x6, x7⟩, ⟨y0, y1, y2, y3, y4, y5, y6, y7⟩, ⟨z0, z1, z2, z3, z4⟩, t0, t1, t2, t3, t4⟩ := HK.out w9 hh
      exact .run ((wanted_some rfl rfl q38).trans rfl) (.agg #[.int .i64 qc, .int .i64 qh, .int .i64 qt, .int .i64 qk, .int .i64 qi]) w9 (by simp [execOp, go_sem, Act.eval, *]) (Below.refl _ _) rfl
    · simp only [List.getElem?_toArray, List.getElem?_cons_succ, List.getElem?_cons_zero, Option.some.injEq] at ho
      subst ho
      refine ⟨rfl, ?_⟩
      have q38 : A_.tmps[38]? = some (.bool true) := hI.val_ (i := 9) rfl rfl (by decide) (hdep ⟨9, .guard⟩ (by simp) rfl)
      have e44 : A_.tmps[44]?.getD undef = .agg #[.int .i64 pc, .int .i64 ph, .int .i64 pt, .int .i64 pk, .int .i64 pi] := getD_of (hI.val_ (i := 15) rfl rfl (by decide) (hdep ⟨15, .data⟩ (by simp) rfl))
      have e45 : A_.tmps[45]?.getD undef = .agg #[.int .i64 qc, .int .i64 qh, .int .i64 qt, .int .i64 qk, .int .i64 qi] := getD_of (hI.val_ (i := 16) rfl rfl (by decide) (hdep ⟨16, .data⟩ (by simp) rfl))
      clear hI hdep
      exact .run ((wanted_some rfl rfl q38).trans rfl) (.bool B2) w9 (by simp [execOp, go_sem, Act.eval, *]) (Below.refl _ _) rfl
    · simp only [List.getElem?_toArray, List.getElem?_cons_succ, List.getElem?_cons_zero, Option.some.injEq] at ho
      subst ho
      refine ⟨rfl, ?_⟩
      have q38 : A_.tmps[38]? = some (.bool true) := hI.val_ (i := 9) rfl rfl (by decide) (hdep ⟨9, .guard⟩ (by simp) rfl)
      have e43 : A_.tmps[43]?.getD undef = .bool B2 := getD_of (hI.val_ (i := 14) rfl rfl (by decide) (hdep ⟨14, .data⟩ (by simp) rfl))
      have e46 : A_.tmps[46]?.getD undef = .bool B2 := getD_of (hI.val_ (i := 17) rfl rfl (by decide) (hdep ⟨17, .data⟩ (by simp) rfl))
      clear hI hdep
      exact .run ((wanted_some rfl rfl q38).trans rfl) (.bool true) w9 (by simp [execOp, go_sem, Act.eval, *]) (Below.refl _ _) rfl
    · simp only [List.getElem?_toArray, List.getElem?_cons_succ, List.getElem?_cons_zero, Option.some.injEq] at ho
      subst ho
      refine ⟨rfl, ?_⟩
      have e38 : A_.tmps[38]?.getD undef = .bool true := getD_of (hI.val_ (i := 9) rfl rfl (by decide) (hdep ⟨9, .data⟩ (by simp) rfl))
      have e47 : A_.tmps[47]?.getD undef = .bool true := getD_of (hI.val_ (i := 18) rfl rfl (by decide) (hdep ⟨18, .data⟩ (by simp) rfl))
      clear hI hdep
      exact .run rfl (.bool true) w9 (by simp [execOp, go_sem, Act.eval, e38, e47]) (Below.refl _ _) rfl
    · simp only [List.getElem?_toArray, List.getElem?_cons_succ, List.getElem?_cons_zero, Option.some.injEq] at ho
      subst ho
      refine ⟨rfl, ?_⟩
      have e48 : A_.tmps[48]?.getD undef = .bool true := getD_of (hI.val_ (i := 19) rfl rfl (by decide) (hdep ⟨19, .data⟩ (by simp) rfl))
      clear hI hdep
      exact .run rfl (.bool true) w9 (by simp [execOp, go_sem, Act.eval, e48]) (Below.refl _ _) rfl
    · simp only [List.getElem?_toArray, List.getElem?_cons_succ, List.getElem?_cons_zero, Option.some.injEq] at ho
      subst ho
      refine ⟨rfl, ?_⟩
      have q49 : A_.tmps[49]? = some (.bool true) := hI.val_ (i := 20) rfl rfl (by decide) (hdep ⟨20, .guard⟩ (by simp) rfl)
      clear hI hdep
      exact .call ((wanted_some rfl rfl q49).trans rfl) 13 #[] (.bool true) (by simp [go_sem]) rfl (HL.out w9 (HBU.out.trans (hh.mono HBU.out.size)))
    · simp only [List.getElem?_toArray, List.getElem?_cons_succ, List.getElem?_cons_zero, Option.some.injEq] at ho
      subst ho
      refine ⟨rfl, ?_⟩
      have e49 : A_.tmps[49]?.getD undef = .bool true := getD_of (hI.val_ (i := 20) rfl rfl (by decide) (hdep ⟨20, .data⟩ (by simp) rfl))
      have e50 : A_.tmps[50]?.getD undef = .bool true := getD_of (hI.val_ (i := 21) rfl rfl (by decide) (hdep ⟨21, .data⟩ (by simp) rfl))
      clear hI hdep
      exact .run rfl (.bool true) w9 (by simp [execOp, go_sem, Act.eval, e49, e50]) (Below.refl _ _) rfl
    · simp only [List.getElem?_toArray, List.getElem?_cons_succ, List.getElem?_cons_zero, Option.some.injEq] at ho
      subst ho
      refine ⟨rfl, ?_⟩
      have e51 : A_.tmps[51]?.getD undef = .bool true := getD_of (hI.val_ (i := 22) rfl rfl (by decide) (hdep ⟨22, .data⟩ (by simp) rfl))
      clear hI hdep
      exact .run rfl (.bool true) w9 (by simp [execOp, go_sem, Act.eval, e51]) (Below.refl _ _) rfl
  case fin =>
  intro A_ w9 hs hd hlow hS hok
  obtain rfl : A_ = ⟨#[.agg #[.int .i64 a0, .int .i64 a1], .agg #[.int .i64 b0, .int .i64 b1], .pointer (some ⟨w.heap.size, 0, none⟩), .pointer (some ⟨w.heap.size + 1, 0, none⟩), .bool true, .pointer (some ⟨w1.heap.size, 0, none⟩), .pointer (some ⟨w2.heap.size, 0, none⟩), .pointer (some ⟨w3.heap.size, 0, none⟩), .pointer (some ⟨w4.heap.size, 0, none⟩), .pointer (some ⟨w.heap.size, 0, none⟩), .int .i64 a0, .pointer (some ⟨w.heap.size, 1, none⟩), .int .i64 a1, .agg #[.int .i64 xk, .int .i64 xn, .int .i64 xa, .int .i64 xc, .int .i64 xh, .int .i64 xt, .int .i64 xi, .int .i64 xp], .pointer (some ⟨w.heap.size + 1, 0, none⟩), .int .i64 b0, .pointer (some ⟨w.heap.size + 1, 1, none⟩), .int .i64 b1, .agg #[.int .i64 yk, .int .i64 yn, .int .i64 ya, .int .i64 yc, .int .i64 yh, .int .i64 yt, .int .i64 yi, .int .i64 yp], .pointer (some ⟨w.heap.size, 0, none⟩), .int .i64 a0, .pointer (some ⟨w.heap.size, 1, none⟩), .int .i64 a1, .agg #[.int .i64 pc, .int .i64 ph, .int .i64 pt, .int .i64 pk, .int .i64 pi], .pointer (some ⟨w.heap.size + 1, 0, none⟩), .int .i64 b0, .pointer (some ⟨w.heap.size + 1, 1, none⟩), .int .i64 b1, .agg #[.int .i64 qc, .int .i64 qh, .int .i64 qt, .int .i64 qk, .int .i64 qi], .agg #[.int .i64 xk, .int .i64 xn, .int .i64 xa, .int .i64 xc, .int .i64 xh, .int .i64 xt, .int .i64 xi, .int .i64 xp], .string X, .agg #[.int .i64 yk, .int .i64 yn, .int .i64 ya, .int .i64 yc, .int .i64 yh, .int .i64 yt, .int .i64 yi, .int .i64 yp], .string Y, .bool B1, .agg #[.int .i64 xk, .int .i64 xn, .int .i64 xa, .int .i64 xc, .int .i64 xh, .int .i64 xt, .int .i64 xi, .int .i64 xp], .agg #[.int .i64 yk, .int .i64 yn, .int .i64 ya, .int .i64 yc, .int .i64 yh, .int .i64 yt, .int .i64 yi, .int .i64 yp], .bool B1, .bool true, .bool true, .agg #[.int .i64 pc, .int .i64 ph, .int .i64 pt, .int .i64 pk, .int .i64 pi], .string Z, .agg #[.int .i64 qc, .int .i64 qh, .int .i64 qt, .int .i64 qk, .int .i64 qi], .string T, .bool B2, .agg #[.int .i64 pc, .int .i64 ph, .int .i64 pt, .int .i64 pk, .int .i64 pi], .agg #[.int .i64 qc, .int .i64 qh, .int .i64 qt, .int .i64 qk, .int .i64 qi], .bool B2, .bool true, .bool true, .bool true, .bool true, .bool true], []⟩ := act_ext hd hs (fun j hj => match j, hj with | 0, _ => (hlow 0 (by decide)).trans rfl | 1, _ => (hlow 1 (by decide)).trans rfl | 2, _ => (hlow 2 (by decide)).trans rfl | 3, _ => (hlow 3 (by decide)).trans rfl | 4, _ => val_at (hok 23 4 _ (by decide) rfl rfl) | 5, _ => (hlow 5 (by decide)).trans rfl | 6, _ => (hlow 6 (by decide)).trans rfl | 7, _ => (hlow 7 (by decide)).trans rfl | 8, _ => (hlow 8 (by decide)).trans rfl | 9, _ => (hlow 9 (by decide)).trans rfl | 10, _ => (hlow 10 (by decide)).trans rfl | 11, _ => (hlow 11 (by decide)).trans rfl | 12, _ => (hlow 12 (by decide)).trans rfl | 13, _ => (hlow 13 (by decide)).trans rfl | 14, _ => (hlow 14 (by decide)).trans rfl | 15, _ => (hlow 15 (by decide)).trans rfl | 16, _ => (hlow 16 (by decide)).trans rfl | 17, _ => (hlow 17 (by decide)).trans rfl | 18, _ => (hlow 18 (by decide)).trans rfl | 19, _ => (hlow 19 (by decide)).trans rfl | 20, _ => (hlow 20 (by decide)).trans rfl | 21, _ => (hlow 21 (by decide)).trans rfl | 22, _ => (hlow 22 (by decide)).trans rfl | 23, _ => (hlow 23 (by decide)).trans rfl | 24, _ => (hlow 24 (by decide)).trans rfl | 25, _ => (hlow 25 (by decide)).trans rfl | 26, _ => (hlow 26 (by decide)).trans rfl | 27, _ => (hlow 27 (by decide)).trans rfl | 28, _ => (hlow 28 (by decide)).trans rfl | 29, _ => val_at (hok 0 29 _ (by decide) rfl rfl) | 30, _ => val_at (hok 1 30 _ (by decide) rfl rfl) | 31, _ => val_at (hok 2 31 _ (by decide) rfl rfl) | 32, _ => val_at (hok 3 32 _ (by decide) rfl rfl) | 33, _ => val_at (hok 4 33 _ (by decide) rfl rfl) | 34, _ => val_at (hok 5 34 _ (by decide) rfl rfl) | 35, _ => val_at (hok 6 35 _ (by decide) rfl rfl) | 36, _ => val_at (hok 7 36 _ (by decide) rfl rfl) | 37, _ => val_at (hok 8 37 _ (by decide) rfl rfl) | 38, _ => val_at (hok 9 38 _ (by decide) rfl rfl) | 39, _ => val_at (hok 10 39 _ (by decide) rfl rfl) | 40, _ => val_at (hok 11 40 _ (by decide) rfl rfl) | 41, _ => val_at (hok 12 41 _ (by decide) rfl rfl) | 42, _ => val_at (hok 13 42 _ (by decide) rfl rfl) | 43, _ => val_at (hok 14 43 _ (by decide) rfl rfl) | 44, _ => val_at (hok 15 44 _ (by decide) rfl rfl) | 45, _ => val_at (hok 16 45 _ (by decide) rfl rfl) | 46, _ => val_at (hok 17 46 _ (by decide) rfl rfl) | 47, _ => val_at (hok 18 47 _ (by decide) rfl rfl) | 48, _ => val_at (hok 19 48 _ (by decide) rfl rfl) | 49, _ => val_at (hok 20 49 _ (by decide) rfl rfl) | 50, _ => val_at (hok 21 50 _ (by decide) rfl rfl) | 51, _ => val_at (hok 22 51 _ (by decide) rfl rfl) | n + 52, h => absurd h (by show ¬ n + 52 < 52; omega))
  clear hs hd hlow hok 
  go_wp2_with fail
  go_ret
  exact ⟨rfl, HBU.out.trans (hS.mono HBU.out.size)⟩
theorem walk (x0 y0 x1 y1 : Int) (w : World) (hx0 : I64 x0) (hy0 : I64 y0) (hx1 : I64 x1) (hy1 : I64 y1) (hT : TN w) :
    Calls Tryd.prog 8 #[.agg #[.int .i64 x0, .int .i64 y0], .agg #[.int .i64 x1, .int .i64 y1]] w fun e w' => e = .returned (.bool true) ∧ Below w.heap.size w w' := by
  have H1 := Lib.hid (fun V => eventOf_any x0 y0 hx0 hy0 V)
  have H2 := Lib.hid (fun V => eventOf_any x1 y1 hx1 hy1 V)
  have H3 := Lib.hid (fun V => questionOf_any x0 y0 hx0 hy0 V)
  have H4 := Lib.hid (fun V => questionOf_any x1 y1 hx1 hy1 V)
  have f1 := NM.evOf_fits x0 y0
  have f2 := NM.evOf_fits x1 y1
  have f3 := NM.quOf_ok x0 y0
  have f4 := NM.quOf_ok x1 y1
  have HL := Lib.hid (fun (V : World) (hV : Below w.heap.size w V) => lives_any V (hT.below hV))
  generalize NM.evOf x0 y0 = X at *
  generalize NM.evOf x1 y1 = Y at *
  generalize NM.quOf x0 y0 = Z at *
  generalize NM.quOf x1 y1 = T at *
  have T1 := Lib.hid (fun (V : World) (hV : Below w.heap.size w V) => Event_any X V (hT.below hV))
  have T2 := Lib.hid (fun (V : World) (hV : Below w.heap.size w V) => Event_any Y V (hT.below hV))
  have T3 := Lib.hid (fun (V : World) (hV : Below w.heap.size w V) => Question_any Z V (hT.below hV))
  have T4 := Lib.hid (fun (V : World) (hV : Below w.heap.size w V) => Question_any T V (hT.below hV))
  have e1 : ((NM.bs (NM.evT X)).toList == (NM.bs (NM.evT Y)).toList) = decide (X = Y) := by
    rw [bs_toListU, bs_toListU, Bool.eq_iff_iff, beq_iff_eq, decide_eq_true_eq]
    exact ⟨fun h => NM.evT_inj f1 f2 h, fun h => by rw [h]⟩
  have e2 : ((NM.bs (NM.quT Z)).toList == (NM.bs (NM.quT T)).toList) = decide (Z = T) := by
    rw [bs_toListU, bs_toListU, Bool.eq_iff_iff, beq_iff_eq, decide_eq_true_eq]
    exact ⟨fun h => NM.quT_inj f3 f4 h, fun h => by rw [h]⟩
  have q1 := fun V => eqE_any X Y V
  have q2 := fun V => eqQ_any Z T V
  obtain ⟨a1, a2, a3, a4, a5, a6, a7, a8⟩ := X
  obtain ⟨b1, b2, b3, b4, b5, b6, b7, b8⟩ := Y
  obtain ⟨c1, c2, c3, c4, c5⟩ := Z
  obtain ⟨d1, d2, d3, d4, d5⟩ := T
  exact walk_gen _ _ _ _ _ _ _ _ _ _ _ _ _ _ _ _ _ _ _ _ _ _ _ _ _ _ _ _ _ _ _ _ _ _ _ _ w H1 H2 H3 H4 T1 T2 T3 T4 HL q1 q2 e1 e2
end Go.Proofs.YtigdohfkdglceaaDoor.LawNamesDistinct
