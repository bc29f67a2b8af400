/-
  The texts of events and questions. Condition: the listed tables and variables stand (TN).
-/
import Derived.Test.YtggallpnbbidfaaGreatDoorNmX
namespace Go.Proofs.YtggallpnbbidfaaGreatDoor
open Go Go.RowKit Go.Proofs
attribute [local go_sem] Oper.semAt_some

theorem row3 {V : World} {g : Nat} {t : TypeId} {x0 x1 x2 : Value} (h : V.heap[g]? = some (.cells #[x0, x1, x2] t (0, 0))) : V.cell? ⟨g, 0, none⟩ = some x0 ∧ V.cell? ⟨g, 1, none⟩ = some x1 ∧ V.cell? ⟨g, 2, none⟩ = some x2 :=
  ⟨cell_of_row _ _ 0 _ _ (0, 0) h, cell_of_row _ _ 1 _ _ (0, 0) h, cell_of_row _ _ 2 _ _ (0, 0) h⟩
set_option maxHeartbeats 4000000 in
set_option maxRecDepth 100000 in
theorem Event_none (x : ByteArray) (b1 b2 : Bool) (k n a c h t i p : Int) (w : World)
    (HL : Hid (∀ V, Calls Tryz.prog 29 #[.int .i64 k] V fun e w' => e = .returned (.agg #[.string x, .bool b1, .bool b2]) ∧ Below V.heap.size V w'))
    (HF : Hid (∀ V, Calls Tryz.prog 30 #[.agg #[.string x, .bool b1, .bool b2], .agg #[.int .i64 k, .int .i64 n, .int .i64 a, .int .i64 c, .int .i64 h, .int .i64 t, .int .i64 i, .int .i64 p]] V fun e w' => e = .returned (.bool false) ∧ Below V.heap.size V w')) :
    Calls Tryz.prog 13 #[.agg #[.int .i64 k, .int .i64 n, .int .i64 a, .int .i64 c, .int .i64 h, .int .i64 t, .int .i64 i, .int .i64 p]] w fun e w' => e = .returned (.string ⟨#[]⟩) ∧ Below w.heap.size w w' := by
  obtain ⟨W0, hW0⟩ : ∃ U, w.alloc (.cells #[.int .i64 k, .int .i64 n, .int .i64 a, .int .i64 c, .int .i64 h, .int .i64 t, .int .i64 i, .int .i64 p] 28) = U := ⟨_, rfl⟩
  have hb0 : Below w.heap.size w W0 := hW0 ▸ one_box w _
  have z0 : W0.heap.size = w.heap.size + 1 := by rw [← hW0]; simp
  have k0 : W0.heap[w.heap.size]? = some (.cells #[.int .i64 k, .int .i64 n, .int .i64 a, .int .i64 c, .int .i64 h, .int .i64 t, .int .i64 i, .int .i64 p] 28 (0, 0)) := by rw [← hW0]; exact new_at rfl
  obtain ⟨i0, i1, i2, i3, i4, i5, i6, i7⟩ := row8 k0
  have HW0 := Lib.hid hW0
  have HB0 := Lib.hid hb0
  have HZ0 := Lib.hid z0
  have HK0 := Lib.hid k0
  clear hb0 z0 k0 hW0
  go_enter Tryz.func13, Tryz.ntmps13
  go_wp2_with fail
  rw [HW0.out]
  clear HW0
  go_wp2_with fail
  refine (HL.out _).mono ?_
  rintro e w1 ⟨rfl, hb1⟩
  obtain ⟨U, hU⟩ : ∃ U, w1.alloc (.cells #[.string x, .bool b1, .bool b2] 65) = U := ⟨_, rfl⟩
  have hbU : Below w1.heap.size w1 U := hU ▸ one_box w1 _
  have h01 : w.heap.size < w1.heap.size := by have := hb1.size; have := HZ0.out; omega
  have hlt : w1.heap.size < U.heap.size := by rw [← hU]; simp
  have kE : U.heap[w.heap.size]? = some (.cells #[.int .i64 k, .int .i64 n, .int .i64 a, .int .i64 c, .int .i64 h, .int .i64 t, .int .i64 i, .int .i64 p] 28 (0, 0)) := (hbU.block _ h01).trans ((hb1.block _ (by rw [HZ0.out]; omega)).trans HK0.out)
  have kL : U.heap[w1.heap.size]? = some (.cells #[.string x, .bool b1, .bool b2] 65 (0, 0)) := by rw [← hU]; exact new_at rfl
  have HB := Lib.hid (HB0.out.trans ((hb1.trans (hbU.mono hb1.size)).mono HB0.out.size))
  have HK := Lib.hid (fun (V : World) (hV : Below U.heap.size U V) => And.intro (row8 ((hV.block _ (by omega)).trans kE)) (row3 ((hV.block _ hlt).trans kL)))
  obtain ⟨⟨d0, d1, d2, d3, d4, d5, d6, d7⟩, c0, c1, c2⟩ := HK.out U (Below.refl _ _)
  clear hb1 hbU kE kL HB0 HZ0 HK0 i0 i1 i2 i3 i4 i5 i6 i7 HL
  go_wp2_with fail
  clear hU
  refine (HF.out _).mono ?_
  rintro e w2 ⟨rfl, hb2⟩
  clear d0 d1 d2 d3 d4 d5 d6 d7 c0 c1 c2 HF
  obtain ⟨⟨d0, d1, d2, d3, d4, d5, d6, d7⟩, c0, c1, c2⟩ := HK.out w2 hb2
  have HB2 := Lib.hid hb2
  clear hb2
  go_wp2_with fail
  go_ret
  exact ⟨rfl, HB.out.trans (HB2.out.mono HB.out.size)⟩
set_option maxHeartbeats 4000000 in
set_option maxRecDepth 100000 in
theorem Event_arg (x s1 s2 R : ByteArray) (b1 b2 : Bool) (k n a c h t i p : Int) (w : World)
    (HL : Hid (∀ V, Calls Tryz.prog 29 #[.int .i64 k] V fun e w' => e = .returned (.agg #[.string x, .bool b1, .bool b2]) ∧ Below V.heap.size V w'))
    (HF : Hid (∀ V, Calls Tryz.prog 30 #[.agg #[.string x, .bool b1, .bool b2], .agg #[.int .i64 k, .int .i64 n, .int .i64 a, .int .i64 c, .int .i64 h, .int .i64 t, .int .i64 i, .int .i64 p]] V fun e w' => e = .returned (.bool true) ∧ Below V.heap.size V w'))
    (H1 : Hid (b1 = true)) (H2 : Hid (b2 = false))
    (HD1 : Hid (∀ (V : World) (g : Nat), Below w.heap.size w V → V.heap[g]? = some (.cells #[.int .i64 n] 3 (0, 0)) → Calls Tryz.prog 32 #[.slice (some ⟨g, 0, none⟩) 1 1] V fun e w' => e = .returned (.string s1) ∧ Below V.heap.size V w'))
    (HD2 : Hid (∀ (V : World) (g : Nat), Below w.heap.size w V → V.heap[g]? = some (.cells #[.int .i64 a] 3 (0, 0)) → Calls Tryz.prog 32 #[.slice (some ⟨g, 0, none⟩) 1 1] V fun e w' => e = .returned (.string s2) ∧ Below V.heap.size V w'))
    (HJ : Hid (∀ (V : World) (g : Nat), Below w.heap.size w V → V.heap[g]? = some (.cells #[.string x, .string s1, .string s2] 9 (0, 0)) → Calls Tryz.prog 31 #[.slice (some ⟨g, 0, none⟩) 3 3] V fun e w' => e = .returned (.string R) ∧ Below V.heap.size V w')) :
    Calls Tryz.prog 13 #[.agg #[.int .i64 k, .int .i64 n, .int .i64 a, .int .i64 c, .int .i64 h, .int .i64 t, .int .i64 i, .int .i64 p]] w fun e w' => e = .returned (.string R) ∧ Below w.heap.size w w' := by
  obtain ⟨W0, hW0⟩ : ∃ U, w.alloc (.cells #[.int .i64 k, .int .i64 n, .int .i64 a, .int .i64 c, .int .i64 h, .int .i64 t, .int .i64 i, .int .i64 p] 28) = U := ⟨_, rfl⟩
  have hb0 : Below w.heap.size w W0 := hW0 ▸ one_box w _
  have z0 : W0.heap.size = w.heap.size + 1 := by rw [← hW0]; simp
  have k0 : W0.heap[w.heap.size]? = some (.cells #[.int .i64 k, .int .i64 n, .int .i64 a, .int .i64 c, .int .i64 h, .int .i64 t, .int .i64 i, .int .i64 p] 28 (0, 0)) := by rw [← hW0]; exact new_at rfl
  obtain ⟨i0, i1, i2, i3, i4, i5, i6, i7⟩ := row8 k0
  have HW0 := Lib.hid hW0
  have HB0 := Lib.hid hb0
  have HZ0 := Lib.hid z0
  have HK0 := Lib.hid k0
  clear hb0 z0 k0 hW0
  go_enter Tryz.func13, Tryz.ntmps13
  go_wp2_with fail
  rw [HW0.out]
  clear HW0
  go_wp2_with fail
  refine (HL.out _).mono ?_
  rintro e w1 ⟨rfl, hb1⟩
  obtain ⟨U, hU⟩ : ∃ U, w1.alloc (.cells #[.string x, .bool b1, .bool b2] 65) = U := ⟨_, rfl⟩
  have hbU : Below w1.heap.size w1 U := hU ▸ one_box w1 _
  have h01 : w.heap.size < w1.heap.size := by have := hb1.size; have := HZ0.out; omega
  have hlt : w1.heap.size < U.heap.size := by rw [← hU]; simp
  have kE : U.heap[w.heap.size]? = some (.cells #[.int .i64 k, .int .i64 n, .int .i64 a, .int .i64 c, .int .i64 h, .int .i64 t, .int .i64 i, .int .i64 p] 28 (0, 0)) := (hbU.block _ h01).trans ((hb1.block _ (by rw [HZ0.out]; omega)).trans HK0.out)
  have kL : U.heap[w1.heap.size]? = some (.cells #[.string x, .bool b1, .bool b2] 65 (0, 0)) := by rw [← hU]; exact new_at rfl
  have HB := Lib.hid (HB0.out.trans ((hb1.trans (hbU.mono hb1.size)).mono HB0.out.size))
  have HK := Lib.hid (fun (V : World) (hV : Below U.heap.size U V) => And.intro (row8 ((hV.block _ (by omega)).trans kE)) (row3 ((hV.block _ hlt).trans kL)))
  obtain ⟨⟨d0, d1, d2, d3, d4, d5, d6, d7⟩, c0, c1, c2⟩ := HK.out U (Below.refl _ _)
  clear hb1 hbU kE kL HB0 HZ0 HK0 i0 i1 i2 i3 i4 i5 i6 i7 HL
  go_wp2_with fail
  clear hU
  refine (HF.out _).mono ?_
  rintro e w2 ⟨rfl, hb2⟩
  clear d0 d1 d2 d3 d4 d5 d6 d7 c0 c1 c2 HF
  obtain ⟨⟨d0, d1, d2, d3, d4, d5, d6, d7⟩, c0, c1, c2⟩ := HK.out w2 hb2
  have HB2 := Lib.hid hb2
  clear hb2
  obtain rfl := H1.out
  obtain rfl := H2.out
  go_wp2_with fail
  clear d0 d1 d2 d3 d4 d5 d6 d7 c0 c1 c2
  refine region_specs 13 (fun i => (if i = 12 then 2 else 15 + i)) (fun ix_ => match ix_ with | 0 => .val (.pointer (some ⟨w1.heap.size, 0, none⟩)) | 1 => .val (.string x) | 2 => .val (.pointer (some ⟨w.heap.size, 1, none⟩)) | 3 => .val (.int .i64 n) | 4 => .row #[.int .i64 n] 3 1 | 5 => .val (.string s1) | 6 => .val (.pointer (some ⟨w.heap.size, 2, none⟩)) | 7 => .val (.int .i64 a) | 8 => .row #[.int .i64 a] 3 1 | 9 => .val (.string s2) | 10 => .row #[.string x, .string s1, .string s2] 9 3 | 11 => .val (.string R) | 12 => .val (.string R) | _ => .val undef) (by kernel_rfl) rfl (by kernel_rfl) (fun i hi => by show (if i = 12 then 2 else 15 + i) < 49; (repeat' split) <;> omega) (fun i j hi hj => by show (if i = 12 then 2 else 15 + i) = (if j = 12 then 2 else 15 + j) → i = j; (repeat' split) <;> omega) ?step ?fin
  case step =>
    intro listed A_ w3 ix op_ hI ho hdep
    have hi : ix < 13 := (Array.getElem?_eq_some_iff.1 ho).1
    have hcase : ix = 0 ∨ ix = 1 ∨ ix = 2 ∨ ix = 3 ∨ ix = 4 ∨ ix = 5 ∨ ix = 6 ∨ ix = 7 ∨ ix = 8 ∨ ix = 9 ∨ ix = 10 ∨ ix = 11 ∨ ix = 12 := by omega
    have hh := hI.held
    clear hi
    rcases hcase with rfl | rfl | rfl | rfl | rfl | rfl | rfl | rfl | rfl | rfl | rfl | rfl | rfl
    · simp only [List.getElem?_toArray, List.getElem?_cons_zero, Option.some.injEq] at ho
      subst ho
      refine ⟨rfl, ?_⟩
      have e3 : A_.tmps[3]?.getD undef = .pointer (some ⟨w1.heap.size, 0, none⟩) := by rw [hI.low 3 (by decide)]; rfl
      clear hI hdep
      exact .run rfl (.pointer (some ⟨w1.heap.size, 0, none⟩)) w3 (by simp [execOp, go_sem, Act.eval, e3]) (Below.refl _ _) rfl
    · simp only [List.getElem?_toArray, List.getElem?_cons_succ, List.getElem?_cons_zero, Option.some.injEq] at ho
      subst ho
      refine ⟨rfl, ?_⟩
      have e15 : A_.tmps[15]?.getD undef = .pointer (some ⟨w1.heap.size, 0, none⟩) := getD_of (hI.val_ (i := 0) rfl rfl (by decide) (hdep ⟨0, .data⟩ (by simp) rfl))
      clear hI hdep
      obtain ⟨⟨d0, d1, d2, d3, d4, d5, d6, d7⟩, c0, c1, c2⟩ := HK.out w3 (HB2.out.trans (hh.mono HB2.out.size))
      exact .run rfl (.string x) w3 (by simp [execOp, go_sem, Act.eval, *]) (Below.refl _ _) rfl
    · simp only [List.getElem?_toArray, List.getElem?_cons_succ, List.getElem?_cons_zero, Option.some.injEq] at ho
      subst ho
      refine ⟨rfl, ?_⟩
      have e1 : A_.tmps[1]?.getD undef = .pointer (some ⟨w.heap.size, 0, none⟩) := by rw [hI.low 1 (by decide)]; rfl
      clear hI hdep
      exact .run rfl (.pointer (some ⟨w.heap.size, 1, none⟩)) w3 (by simp [execOp, go_sem, Act.eval, e1]) (Below.refl _ _) rfl
    · simp only [List.getElem?_toArray, List.getElem?_cons_succ, List.getElem?_cons_zero, Option.some.injEq] at ho
      subst ho
      refine ⟨rfl, ?_⟩
      have e17 : A_.tmps[17]?.getD undef = .pointer (some ⟨w.heap.size, 1, none⟩) := getD_of (hI.val_ (i := 2) rfl rfl (by decide) (hdep ⟨2, .data⟩ (by simp) rfl))
      clear hI hdep
      obtain ⟨⟨d0, d1, d2, d3, d4, d5, d6, d7⟩, c0, c1, c2⟩ := HK.out w3 (HB2.out.trans (hh.mono HB2.out.size))
      exact .run rfl (.int .i64 n) w3 (by simp [execOp, go_sem, Act.eval, *]) (Below.refl _ _) rfl
    · simp only [List.getElem?_toArray, List.getElem?_cons_succ, List.getElem?_cons_zero, Option.some.injEq] at ho
      subst ho
      refine ⟨rfl, ?_⟩
      have e18 : A_.tmps[18]?.getD undef = .int .i64 n := getD_of (hI.val_ (i := 3) rfl rfl (by decide) (hdep ⟨3, .data⟩ (by simp) rfl))
      clear hI hdep
      exact .run rfl (.slice (some ⟨w3.heap.size, 0, none⟩) 1 1) (w3.alloc (.cells #[.int .i64 n] 3)) (by simp [execOp, go_sem, Act.eval, e18]) ((Below.refl _ _).alloc (Nat.le_refl _) _) (new_row _ _ _ _)
    · simp only [List.getElem?_toArray, List.getElem?_cons_succ, List.getElem?_cons_zero, Option.some.injEq] at ho
      subst ho
      refine ⟨rfl, ?_⟩
      obtain ⟨g19, e19, r19⟩ := hI.row_ (i := 4) (j := 19) rfl rfl (by decide) (hdep ⟨4, .data⟩ (by simp) rfl)
      clear hI hdep
      exact .call rfl 32 #[.slice (some ⟨g19, 0, none⟩) 1 1] (.string s1) (by simp [go_sem, Act.eval, e19]) rfl (HD1.out w3 g19 (HB.out.trans ((HB2.out.trans (hh.mono HB2.out.size)).mono HB.out.size)) r19)
    · simp only [List.getElem?_toArray, List.getElem?_cons_succ, List.getElem?_cons_zero, Option.some.injEq] at ho
      subst ho
      refine ⟨rfl, ?_⟩
      have e1 : A_.tmps[1]?.getD undef = .pointer (some ⟨w.heap.size, 0, none⟩) := by rw [hI.low 1 (by decide)]; rfl
      clear hI hdep
      exact .run rfl (.pointer (some ⟨w.heap.size, 2, none⟩)) w3 (by simp [execOp, go_sem, Act.eval, e1]) (Below.refl _ _) rfl
    · simp only [List.getElem?_toArray, List.getElem?_cons_succ, List.getElem?_cons_zero, Option.some.injEq] at ho
      subst ho
      refine ⟨rfl, ?_⟩
      have e21 : A_.tmps[21]?.getD undef = .pointer (some ⟨w.heap.size, 2, none⟩) := getD_of (hI.val_ (i := 6) rfl rfl (by decide) (hdep ⟨6, .data⟩ (by simp) rfl))
      clear hI hdep
      obtain ⟨⟨d0, d1, d2, d3, d4, d5, d6, d7⟩, c0, c1, c2⟩ := HK.out w3 (HB2.out.trans (hh.mono HB2.out.size))
      exact .run rfl (.int .i64 a) w3 (by simp [execOp, go_sem, Act.eval, *]) (Below.refl _ _) rfl
    · simp only [List.getElem?_toArray, List.getElem?_cons_succ, List.getElem?_cons_zero, Option.some.injEq] at ho
      subst ho
      refine ⟨rfl, ?_⟩
      have e22 : A_.tmps[22]?.getD undef = .int .i64 a := getD_of (hI.val_ (i := 7) rfl rfl (by decide) (hdep ⟨7, .data⟩ (by simp) rfl))
      clear hI hdep
      exact .run rfl (.slice (some ⟨w3.heap.size, 0, none⟩) 1 1) (w3.alloc (.cells #[.int .i64 a] 3)) (by simp [execOp, go_sem, Act.eval, e22]) ((Below.refl _ _).alloc (Nat.le_refl _) _) (new_row _ _ _ _)
    · simp only [List.getElem?_toArray, List.getElem?_cons_succ, List.getElem?_cons_zero, Option.some.injEq] at ho
      subst ho
      refine ⟨rfl, ?_⟩
      obtain ⟨g23, e23, r23⟩ := hI.row_ (i := 8) (j := 23) rfl rfl (by decide) (hdep ⟨8, .data⟩ (by simp) rfl)
      clear hI hdep
      exact .call rfl 32 #[.slice (some ⟨g23, 0, none⟩) 1 1] (.string s2) (by simp [go_sem, Act.eval, e23]) rfl (HD2.out w3 g23 (HB.out.trans ((HB2.out.trans (hh.mono HB2.out.size)).mono HB.out.size)) r23)
    · simp only [List.getElem?_toArray, List.getElem?_cons_succ, List.getElem?_cons_zero, Option.some.injEq] at ho
      subst ho
      refine ⟨rfl, ?_⟩
      have e16 : A_.tmps[16]?.getD undef = .string x := getD_of (hI.val_ (i := 1) rfl rfl (by decide) (hdep ⟨1, .data⟩ (by simp) rfl))
      have e20 : A_.tmps[20]?.getD undef = .string s1 := getD_of (hI.val_ (i := 5) rfl rfl (by decide) (hdep ⟨5, .data⟩ (by simp) rfl))
      have e24 : A_.tmps[24]?.getD undef = .string s2 := getD_of (hI.val_ (i := 9) rfl rfl (by decide) (hdep ⟨9, .data⟩ (by simp) rfl))
      clear hI hdep
      exact .run rfl (.slice (some ⟨w3.heap.size, 0, none⟩) 3 3) (w3.alloc (.cells #[.string x, .string s1, .string s2] 9)) (by simp [execOp, go_sem, Act.eval, e16, e20, e24]) ((Below.refl _ _).alloc (Nat.le_refl _) _) (new_row _ _ _ _)
    · simp only [List.getElem?_toArray, List.getElem?_cons_succ, List.getElem?_cons_zero, Option.some.injEq] at ho
      subst ho
      refine ⟨rfl, ?_⟩
      obtain ⟨g25, e25, r25⟩ := hI.row_ (i := 10) (j := 25) rfl rfl (by decide) (hdep ⟨10, .data⟩ (by simp) rfl)
      clear hI hdep
      exact .call rfl 31 #[.slice (some ⟨g25, 0, none⟩) 3 3] (.string R) (by simp [go_sem, Act.eval, e25]) rfl (HJ.out w3 g25 (HB.out.trans ((HB2.out.trans (hh.mono HB2.out.size)).mono HB.out.size)) r25)
    · simp only [List.getElem?_toArray, List.getElem?_cons_succ, List.getElem?_cons_zero, Option.some.injEq] at ho
      subst ho
      refine ⟨rfl, ?_⟩
      have e26 : A_.tmps[26]?.getD undef = .string R := getD_of (hI.val_ (i := 11) rfl rfl (by decide) (hdep ⟨11, .data⟩ (by simp) rfl))
      clear hI hdep
      exact .run rfl (.string R) w3 (by simp [execOp, go_sem, Act.eval, e26]) (Below.refl _ _) rfl
  case fin =>
  intro A_ w3 hs hd hlow hS hok
  obtain ⟨y19, hy19⟩ := row_at (hok 4 19 _ (by decide) rfl rfl)
  obtain ⟨y23, hy23⟩ := row_at (hok 8 23 _ (by decide) rfl rfl)
  obtain ⟨y25, hy25⟩ := row_at (hok 10 25 _ (by decide) rfl rfl)
  obtain rfl : A_ = ⟨#[.agg #[.int .i64 k, .int .i64 n, .int .i64 a, .int .i64 c, .int .i64 h, .int .i64 t, .int .i64 i, .int .i64 p], .pointer (some ⟨w.heap.size, 0, none⟩), .string R, .pointer (some ⟨w1.heap.size, 0, none⟩), .pointer (some ⟨w.heap.size, 0, none⟩), .int .i64 k, .agg #[.string x, .bool true, .bool false], .bool false, .agg #[.string x, .bool true, .bool false], .agg #[.int .i64 k, .int .i64 n, .int .i64 a, .int .i64 c, .int .i64 h, .int .i64 t, .int .i64 i, .int .i64 p], .bool true, .bool false, .bool true, .pointer (some ⟨w1.heap.size, 1, none⟩), .bool true, .pointer (some ⟨w1.heap.size, 0, none⟩), .string x, .pointer (some ⟨w.heap.size, 1, none⟩), .int .i64 n, y19, .string s1, .pointer (some ⟨w.heap.size, 2, none⟩), .int .i64 a, y23, .string s2, y25, .string R, undef, undef, undef, undef, undef, undef, undef, undef, undef, undef, undef, undef, undef, undef, undef, undef, undef, undef, undef, undef, undef, undef], []⟩ := act_ext hd hs (fun j hj => match j, hj with | 0, _ => (hlow 0 (by decide)).trans rfl | 1, _ => (hlow 1 (by decide)).trans rfl | 2, _ => val_at (hok 12 2 _ (by decide) rfl rfl) | 3, _ => (hlow 3 (by decide)).trans rfl | 4, _ => (hlow 4 (by decide)).trans rfl | 5, _ => (hlow 5 (by decide)).trans rfl | 6, _ => (hlow 6 (by decide)).trans rfl | 7, _ => (hlow 7 (by decide)).trans rfl | 8, _ => (hlow 8 (by decide)).trans rfl | 9, _ => (hlow 9 (by decide)).trans rfl | 10, _ => (hlow 10 (by decide)).trans rfl | 11, _ => (hlow 11 (by decide)).trans rfl | 12, _ => (hlow 12 (by decide)).trans rfl | 13, _ => (hlow 13 (by decide)).trans rfl | 14, _ => (hlow 14 (by decide)).trans rfl | 15, _ => val_at (hok 0 15 _ (by decide) rfl rfl) | 16, _ => val_at (hok 1 16 _ (by decide) rfl rfl) | 17, _ => val_at (hok 2 17 _ (by decide) rfl rfl) | 18, _ => val_at (hok 3 18 _ (by decide) rfl rfl) | 19, _ => hy19 | 20, _ => val_at (hok 5 20 _ (by decide) rfl rfl) | 21, _ => val_at (hok 6 21 _ (by decide) rfl rfl) | 22, _ => val_at (hok 7 22 _ (by decide) rfl rfl) | 23, _ => hy23 | 24, _ => val_at (hok 9 24 _ (by decide) rfl rfl) | 25, _ => hy25 | 26, _ => val_at (hok 11 26 _ (by decide) rfl rfl) | 27, _ => (hlow 27 (by decide)).trans rfl | 28, _ => (hlow 28 (by decide)).trans rfl | 29, _ => (hlow 29 (by decide)).trans rfl | 30, _ => (hlow 30 (by decide)).trans rfl | 31, _ => (hlow 31 (by decide)).trans rfl | 32, _ => (hlow 32 (by decide)).trans rfl | 33, _ => (hlow 33 (by decide)).trans rfl | 34, _ => (hlow 34 (by decide)).trans rfl | 35, _ => (hlow 35 (by decide)).trans rfl | 36, _ => (hlow 36 (by decide)).trans rfl | 37, _ => (hlow 37 (by decide)).trans rfl | 38, _ => (hlow 38 (by decide)).trans rfl | 39, _ => (hlow 39 (by decide)).trans rfl | 40, _ => (hlow 40 (by decide)).trans rfl | 41, _ => (hlow 41 (by decide)).trans rfl | 42, _ => (hlow 42 (by decide)).trans rfl | 43, _ => (hlow 43 (by decide)).trans rfl | 44, _ => (hlow 44 (by decide)).trans rfl | 45, _ => (hlow 45 (by decide)).trans rfl | 46, _ => (hlow 46 (by decide)).trans rfl | 47, _ => (hlow 47 (by decide)).trans rfl | 48, _ => (hlow 48 (by decide)).trans rfl | n + 49, h => absurd h (by show ¬ n + 49 < 49; omega))
  clear hs hd hlow hok hy19 hy23 hy25
  go_wp2_with fail
  go_ret
  exact ⟨rfl, HB.out.trans ((HB2.out.trans (hS.mono HB2.out.size)).mono HB.out.size)⟩
set_option maxHeartbeats 4000000 in
set_option maxRecDepth 100000 in
theorem Event_msg (x s1 s2 R : ByteArray) (b1 b2 : Bool) (k n a c h t i p : Int) (w : World)
    (HL : Hid (∀ V, Calls Tryz.prog 29 #[.int .i64 k] V fun e w' => e = .returned (.agg #[.string x, .bool b1, .bool b2]) ∧ Below V.heap.size V w'))
    (HF : Hid (∀ V, Calls Tryz.prog 30 #[.agg #[.string x, .bool b1, .bool b2], .agg #[.int .i64 k, .int .i64 n, .int .i64 a, .int .i64 c, .int .i64 h, .int .i64 t, .int .i64 i, .int .i64 p]] V fun e w' => e = .returned (.bool true) ∧ Below V.heap.size V w'))
    (H1 : Hid (b1 = false)) (H2 : Hid (b2 = true))
    (HD1 : Hid (∀ (V : World) (g : Nat), Below w.heap.size w V → V.heap[g]? = some (.cells #[.int .i64 n] 3 (0, 0)) → Calls Tryz.prog 32 #[.slice (some ⟨g, 0, none⟩) 1 1] V fun e w' => e = .returned (.string s1) ∧ Below V.heap.size V w'))
    (HM : Hid (∀ (V : World), Below w.heap.size w V → Calls Tryz.prog 33 #[.agg #[.int .i64 c, .int .i64 h, .int .i64 t, .int .i64 i, .int .i64 p]] V fun e w' => e = .returned (.string s2) ∧ Below V.heap.size V w'))
    (HJ : Hid (∀ (V : World) (g : Nat), Below w.heap.size w V → V.heap[g]? = some (.cells #[.string x, .string s1, .string s2] 9 (0, 0)) → Calls Tryz.prog 31 #[.slice (some ⟨g, 0, none⟩) 3 3] V fun e w' => e = .returned (.string R) ∧ Below V.heap.size V w')) :
    Calls Tryz.prog 13 #[.agg #[.int .i64 k, .int .i64 n, .int .i64 a, .int .i64 c, .int .i64 h, .int .i64 t, .int .i64 i, .int .i64 p]] w fun e w' => e = .returned (.string R) ∧ Below w.heap.size w w' := by
  obtain ⟨W0, hW0⟩ : ∃ U, w.alloc (.cells #[.int .i64 k, .int .i64 n, .int .i64 a, .int .i64 c, .int .i64 h, .int .i64 t, .int .i64 i, .int .i64 p] 28) = U := ⟨_, rfl⟩
  have hb0 : Below w.heap.size w W0 := hW0 ▸ one_box w _
  have z0 : W0.heap.size = w.heap.size + 1 := by rw [← hW0]; simp
  have k0 : W0.heap[w.heap.size]? = some (.cells #[.int .i64 k, .int .i64 n, .int .i64 a, .int .i64 c, .int .i64 h, .int .i64 t, .int .i64 i, .int .i64 p] 28 (0, 0)) := by rw [← hW0]; exact new_at rfl
  obtain ⟨i0, i1, i2, i3, i4, i5, i6, i7⟩ := row8 k0
  have HW0 := Lib.hid hW0
  have HB0 := Lib.hid hb0
  have HZ0 := Lib.hid z0
  have HK0 := Lib.hid k0
  clear hb0 z0 k0 hW0
  go_enter Tryz.func13, Tryz.ntmps13
  go_wp2_with fail
  rw [HW0.out]
  clear HW0
  go_wp2_with fail
  refine (HL.out _).mono ?_
  rintro e w1 ⟨rfl, hb1⟩
  obtain ⟨U, hU⟩ : ∃ U, w1.alloc (.cells #[.string x, .bool b1, .bool b2] 65) = U := ⟨_, rfl⟩
  have hbU : Below w1.heap.size w1 U := hU ▸ one_box w1 _
  have h01 : w.heap.size < w1.heap.size := by have := hb1.size; have := HZ0.out; omega
  have hlt : w1.heap.size < U.heap.size := by rw [← hU]; simp
  have kE : U.heap[w.heap.size]? = some (.cells #[.int .i64 k, .int .i64 n, .int .i64 a, .int .i64 c, .int .i64 h, .int .i64 t, .int .i64 i, .int .i64 p] 28 (0, 0)) := (hbU.block _ h01).trans ((hb1.block _ (by rw [HZ0.out]; omega)).trans HK0.out)
  have kL : U.heap[w1.heap.size]? = some (.cells #[.string x, .bool b1, .bool b2] 65 (0, 0)) := by rw [← hU]; exact new_at rfl
  have HB := Lib.hid (HB0.out.trans ((hb1.trans (hbU.mono hb1.size)).mono HB0.out.size))
  have HK := Lib.hid (fun (V : World) (hV : Below U.heap.size U V) => And.intro (row8 ((hV.block _ (by omega)).trans kE)) (row3 ((hV.block _ hlt).trans kL)))
  obtain ⟨⟨d0, d1, d2, d3, d4, d5, d6, d7⟩, c0, c1, c2⟩ := HK.out U (Below.refl _ _)
  clear hb1 hbU kE kL HB0 HZ0 HK0 i0 i1 i2 i3 i4 i5 i6 i7 HL
  go_wp2_with fail
  clear hU
  refine (HF.out _).mono ?_
  rintro e w2 ⟨rfl, hb2⟩
  clear d0 d1 d2 d3 d4 d5 d6 d7 c0 c1 c2 HF
  obtain ⟨⟨d0, d1, d2, d3, d4, d5, d6, d7⟩, c0, c1, c2⟩ := HK.out w2 hb2
  have HB2 := Lib.hid hb2
  clear hb2
  obtain rfl := H1.out
  obtain rfl := H2.out
  go_wp2_with fail
  clear d0 d1 d2 d3 d4 d5 d6 d7 c0 c1 c2
  refine region_specs 12 (fun i => (if i = 11 then 2 else 30 + i)) (fun ix_ => match ix_ with | 0 => .val (.pointer (some ⟨w1.heap.size, 0, none⟩)) | 1 => .val (.string x) | 2 => .val (.pointer (some ⟨w.heap.size, 1, none⟩)) | 3 => .val (.int .i64 n) | 4 => .row #[.int .i64 n] 3 1 | 5 => .val (.string s1) | 6 => .val (.pointer (some ⟨w.heap.size, 3, none⟩)) | 7 => .val (.agg #[.int .i64 c, .int .i64 h, .int .i64 t, .int .i64 i, .int .i64 p]) | 8 => .val (.string s2) | 9 => .row #[.string x, .string s1, .string s2] 9 3 | 10 => .val (.string R) | 11 => .val (.string R) | _ => .val undef) (by kernel_rfl) rfl (by kernel_rfl) (fun i hi => by show (if i = 11 then 2 else 30 + i) < 49; (repeat' split) <;> omega) (fun i j hi hj => by show (if i = 11 then 2 else 30 + i) = (if j = 11 then 2 else 30 + j) → i = j; (repeat' split) <;> omega) ?step ?fin
  case step =>
    intro listed A_ w3 ix op_ hI ho hdep
    have hi : ix < 12 := (Array.getElem?_eq_some_iff.1 ho).1
    have hcase : ix = 0 ∨ ix = 1 ∨ ix = 2 ∨ ix = 3 ∨ ix = 4 ∨ ix = 5 ∨ ix = 6 ∨ ix = 7 ∨ ix = 8 ∨ ix = 9 ∨ ix = 10 ∨ ix = 11 := by omega
    have hh := hI.held
    clear hi
    rcases hcase with rfl | rfl | rfl | rfl | rfl | rfl | rfl | rfl | rfl | rfl | rfl | rfl
    · simp only [List.getElem?_toArray, List.getElem?_cons_zero, Option.some.injEq] at ho
      subst ho
      refine ⟨rfl, ?_⟩
      have e3 : A_.tmps[3]?.getD undef = .pointer (some ⟨w1.heap.size, 0, none⟩) := by rw [hI.low 3 (by decide)]; rfl
      clear hI hdep
      exact .run rfl (.pointer (some ⟨w1.heap.size, 0, none⟩)) w3 (by simp [execOp, go_sem, Act.eval, e3]) (Below.refl _ _) rfl
    · simp only [List.getElem?_toArray, List.getElem?_cons_succ, List.getElem?_cons_zero, Option.some.injEq] at ho
      subst ho
      refine ⟨rfl, ?_⟩
      have e30 : A_.tmps[30]?.getD undef = .pointer (some ⟨w1.heap.size, 0, none⟩) := getD_of (hI.val_ (i := 0) rfl rfl (by decide) (hdep ⟨0, .data⟩ (by simp) rfl))
      clear hI hdep
      obtain ⟨⟨d0, d1, d2, d3, d4, d5, d6, d7⟩, c0, c1, c2⟩ := HK.out w3 (HB2.out.trans (hh.mono HB2.out.size))
      exact .run rfl (.string x) w3 (by simp [execOp, go_sem, Act.eval, *]) (Below.refl _ _) rfl
    · simp only [List.getElem?_toArray, List.getElem?_cons_succ, List.getElem?_cons_zero, Option.some.injEq] at ho
      subst ho
      refine ⟨rfl, ?_⟩
      have e1 : A_.tmps[1]?.getD undef = .pointer (some ⟨w.heap.size, 0, none⟩) := by rw [hI.low 1 (by decide)]; rfl
      clear hI hdep
      exact .run rfl (.pointer (some ⟨w.heap.size, 1, none⟩)) w3 (by simp [execOp, go_sem, Act.eval, e1]) (Below.refl _ _) rfl
    · simp only [List.getElem?_toArray, List.getElem?_cons_succ, List.getElem?_cons_zero, Option.some.injEq] at ho
      subst ho
      refine ⟨rfl, ?_⟩
      have e32 : A_.tmps[32]?.getD undef = .pointer (some ⟨w.heap.size, 1, none⟩) := getD_of (hI.val_ (i := 2) rfl rfl (by decide) (hdep ⟨2, .data⟩ (by simp) rfl))
      clear hI hdep
      obtain ⟨⟨d0, d1, d2, d3, d4, d5, d6, d7⟩, c0, c1, c2⟩ := HK.out w3 (HB2.out.trans (hh.mono HB2.out.size))
      exact .run rfl (.int .i64 n) w3 (by simp [execOp, go_sem, Act.eval, *]) (Below.refl _ _) rfl
    · simp only [List.getElem?_toArray, List.getElem?_cons_succ, List.getElem?_cons_zero, Option.some.injEq] at ho
      subst ho
      refine ⟨rfl, ?_⟩
      have e33 : A_.tmps[33]?.getD undef = .int .i64 n := getD_of (hI.val_ (i := 3) rfl rfl (by decide) (hdep ⟨3, .data⟩ (by simp) rfl))
      clear hI hdep
      exact .run rfl (.slice (some ⟨w3.heap.size, 0, none⟩) 1 1) (w3.alloc (.cells #[.int .i64 n] 3)) (by simp [execOp, go_sem, Act.eval, e33]) ((Below.refl _ _).alloc (Nat.le_refl _) _) (new_row _ _ _ _)
    · simp only [List.getElem?_toArray, List.getElem?_cons_succ, List.getElem?_cons_zero, Option.some.injEq] at ho
      subst ho
      refine ⟨rfl, ?_⟩
      obtain ⟨g34, e34, r34⟩ := hI.row_ (i := 4) (j := 34) rfl rfl (by decide) (hdep ⟨4, .data⟩ (by simp) rfl)
      clear hI hdep
      exact .call rfl 32 #[.slice (some ⟨g34, 0, none⟩) 1 1] (.string s1) (by simp [go_sem, Act.eval, e34]) rfl (HD1.out w3 g34 (HB.out.trans ((HB2.out.trans (hh.mono HB2.out.size)).mono HB.out.size)) r34)
    · simp only [List.getElem?_toArray, List.getElem?_cons_succ, List.getElem?_cons_zero, Option.some.injEq] at ho
      subst ho
      refine ⟨rfl, ?_⟩
      have e1 : A_.tmps[1]?.getD undef = .pointer (some ⟨w.heap.size, 0, none⟩) := by rw [hI.low 1 (by decide)]; rfl
      clear hI hdep
      exact .run rfl (.pointer (some ⟨w.heap.size, 3, none⟩)) w3 (by simp [execOp, go_sem, Act.eval, e1]) (Below.refl _ _) rfl
    · simp only [List.getElem?_toArray, List.getElem?_cons_succ, List.getElem?_cons_zero, Option.some.injEq] at ho
      subst ho
      refine ⟨rfl, ?_⟩
      have e36 : A_.tmps[36]?.getD undef = .pointer (some ⟨w.heap.size, 3, none⟩) := getD_of (hI.val_ (i := 6) rfl rfl (by decide) (hdep ⟨6, .data⟩ (by simp) rfl))
      clear hI hdep
      obtain ⟨⟨d0, d1, d2, d3, d4, d5, d6, d7⟩, c0, c1, c2⟩ := HK.out w3 (HB2.out.trans (hh.mono HB2.out.size))
      exact .run rfl (.agg #[.int .i64 c, .int .i64 h, .int .i64 t, .int .i64 i, .int .i64 p]) w3 (by simp [execOp, go_sem, Act.eval, *]) (Below.refl _ _) rfl
    · simp only [List.getElem?_toArray, List.getElem?_cons_succ, List.getElem?_cons_zero, Option.some.injEq] at ho
      subst ho
      refine ⟨rfl, ?_⟩
      have e37 : A_.tmps[37]?.getD undef = .agg #[.int .i64 c, .int .i64 h, .int .i64 t, .int .i64 i, .int .i64 p] := getD_of (hI.val_ (i := 7) rfl rfl (by decide) (hdep ⟨7, .data⟩ (by simp) rfl))
      clear hI hdep
      exact .call rfl 33 #[.agg #[.int .i64 c, .int .i64 h, .int .i64 t, .int .i64 i, .int .i64 p]] (.string s2) (by simp [go_sem, Act.eval, e37]) rfl (HM.out w3 (HB.out.trans ((HB2.out.trans (hh.mono HB2.out.size)).mono HB.out.size)))
    · simp only [List.getElem?_toArray, List.getElem?_cons_succ, List.getElem?_cons_zero, Option.some.injEq] at ho
      subst ho
      refine ⟨rfl, ?_⟩
      have e31 : A_.tmps[31]?.getD undef = .string x := getD_of (hI.val_ (i := 1) rfl rfl (by decide) (hdep ⟨1, .data⟩ (by simp) rfl))
      have e35 : A_.tmps[35]?.getD undef = .string s1 := getD_of (hI.val_ (i := 5) rfl rfl (by decide) (hdep ⟨5, .data⟩ (by simp) rfl))
      have e38 : A_.tmps[38]?.getD undef = .string s2 := getD_of (hI.val_ (i := 8) rfl rfl (by decide) (hdep ⟨8, .data⟩ (by simp) rfl))
      clear hI hdep
      exact .run rfl (.slice (some ⟨w3.heap.size, 0, none⟩) 3 3) (w3.alloc (.cells #[.string x, .string s1, .string s2] 9)) (by simp [execOp, go_sem, Act.eval, e31, e35, e38]) ((Below.refl _ _).alloc (Nat.le_refl _) _) (new_row _ _ _ _)
    · simp only [List.getElem?_toArray, List.getElem?_cons_succ, List.getElem?_cons_zero, Option.some.injEq] at ho
      subst ho
      refine ⟨rfl, ?_⟩
      obtain ⟨g39, e39, r39⟩ := hI.row_ (i := 9) (j := 39) rfl rfl (by decide) (hdep ⟨9, .data⟩ (by simp) rfl)
      clear hI hdep
      exact .call rfl 31 #[.slice (some ⟨g39, 0, none⟩) 3 3] (.string R) (by simp [go_sem, Act.eval, e39]) rfl (HJ.out w3 g39 (HB.out.trans ((HB2.out.trans (hh.mono HB2.out.size)).mono HB.out.size)) r39)
    · simp only [List.getElem?_toArray, List.getElem?_cons_succ, List.getElem?_cons_zero, Option.some.injEq] at ho
      subst ho
      refine ⟨rfl, ?_⟩
      have e40 : A_.tmps[40]?.getD undef = .string R := getD_of (hI.val_ (i := 10) rfl rfl (by decide) (hdep ⟨10, .data⟩ (by simp) rfl))
      clear hI hdep
      exact .run rfl (.string R) w3 (by simp [execOp, go_sem, Act.eval, e40]) (Below.refl _ _) rfl
  case fin =>
  intro A_ w3 hs hd hlow hS hok
  obtain ⟨y34, hy34⟩ := row_at (hok 4 34 _ (by decide) rfl rfl)
  obtain ⟨y39, hy39⟩ := row_at (hok 9 39 _ (by decide) rfl rfl)
  obtain rfl : A_ = ⟨#[.agg #[.int .i64 k, .int .i64 n, .int .i64 a, .int .i64 c, .int .i64 h, .int .i64 t, .int .i64 i, .int .i64 p], .pointer (some ⟨w.heap.size, 0, none⟩), .string R, .pointer (some ⟨w1.heap.size, 0, none⟩), .pointer (some ⟨w.heap.size, 0, none⟩), .int .i64 k, .agg #[.string x, .bool false, .bool true], .bool false, .agg #[.string x, .bool false, .bool true], .agg #[.int .i64 k, .int .i64 n, .int .i64 a, .int .i64 c, .int .i64 h, .int .i64 t, .int .i64 i, .int .i64 p], .bool true, .bool false, .bool false, .pointer (some ⟨w1.heap.size, 1, none⟩), .bool false, undef, undef, undef, undef, undef, undef, undef, undef, undef, undef, undef, undef, .bool true, .pointer (some ⟨w1.heap.size, 2, none⟩), .bool true, .pointer (some ⟨w1.heap.size, 0, none⟩), .string x, .pointer (some ⟨w.heap.size, 1, none⟩), .int .i64 n, y34, .string s1, .pointer (some ⟨w.heap.size, 3, none⟩), .agg #[.int .i64 c, .int .i64 h, .int .i64 t, .int .i64 i, .int .i64 p], .string s2, y39, .string R, undef, undef, undef, undef, undef, undef, undef, undef], []⟩ := act_ext hd hs (fun j hj => match j, hj with | 0, _ => (hlow 0 (by decide)).trans rfl | 1, _ => (hlow 1 (by decide)).trans rfl | 2, _ => val_at (hok 11 2 _ (by decide) rfl rfl) | 3, _ => (hlow 3 (by decide)).trans rfl | 4, _ => (hlow 4 (by decide)).trans rfl | 5, _ => (hlow 5 (by decide)).trans rfl | 6, _ => (hlow 6 (by decide)).trans rfl | 7, _ => (hlow 7 (by decide)).trans rfl | 8, _ => (hlow 8 (by decide)).trans rfl | 9, _ => (hlow 9 (by decide)).trans rfl | 10, _ => (hlow 10 (by decide)).trans rfl | 11, _ => (hlow 11 (by decide)).trans rfl | 12, _ => (hlow 12 (by decide)).trans rfl | 13, _ => (hlow 13 (by decide)).trans rfl | 14, _ => (hlow 14 (by decide)).trans rfl | 15, _ => (hlow 15 (by decide)).trans rfl | 16, _ => (hlow 16 (by decide)).trans rfl | 17, _ => (hlow 17 (by decide)).trans rfl | 18, _ => (hlow 18 (by decide)).trans rfl | 19, _ => (hlow 19 (by decide)).trans rfl | 20, _ => (hlow 20 (by decide)).trans rfl | 21, _ => (hlow 21 (by decide)).trans rfl | 22, _ => (hlow 22 (by decide)).trans rfl | 23, _ => (hlow 23 (by decide)).trans rfl | 24, _ => (hlow 24 (by decide)).trans rfl | 25, _ => (hlow 25 (by decide)).trans rfl | 26, _ => (hlow 26 (by decide)).trans rfl | 27, _ => (hlow 27 (by decide)).trans rfl | 28, _ => (hlow 28 (by decide)).trans rfl | 29, _ => (hlow 29 (by decide)).trans rfl | 30, _ => val_at (hok 0 30 _ (by decide) rfl rfl) | 31, _ => val_at (hok 1 31 _ (by decide) rfl rfl) | 32, _ => val_at (hok 2 32 _ (by decide) rfl rfl) | 33, _ => val_at (hok 3 33 _ (by decide) rfl rfl) | 34, _ => hy34 | 35, _ => val_at (hok 5 35 _ (by decide) rfl rfl) | 36, _ => val_at (hok 6 36 _ (by decide) rfl rfl) | 37, _ => val_at (hok 7 37 _ (by decide) rfl rfl) | 38, _ => val_at (hok 8 38 _ (by decide) rfl rfl) | 39, _ => hy39 | 40, _ => val_at (hok 10 40 _ (by decide) rfl rfl) | 41, _ => (hlow 41 (by decide)).trans rfl | 42, _ => (hlow 42 (by decide)).trans rfl | 43, _ => (hlow 43 (by decide)).trans rfl | 44, _ => (hlow 44 (by decide)).trans rfl | 45, _ => (hlow 45 (by decide)).trans rfl | 46, _ => (hlow 46 (by decide)).trans rfl | 47, _ => (hlow 47 (by decide)).trans rfl | 48, _ => (hlow 48 (by decide)).trans rfl | n + 49, h => absurd h (by show ¬ n + 49 < 49; omega))
  clear hs hd hlow hok hy34 hy39
  go_wp2_with fail
  go_ret
  exact ⟨rfl, HB.out.trans ((HB2.out.trans (hS.mono HB2.out.size)).mono HB.out.size)⟩
set_option maxHeartbeats 4000000 in
set_option maxRecDepth 100000 in
theorem Event_bare (x s1 R : ByteArray) (b1 b2 : Bool) (k n a c h t i p : Int) (w : World)
    (HL : Hid (∀ V, Calls Tryz.prog 29 #[.int .i64 k] V fun e w' => e = .returned (.agg #[.string x, .bool b1, .bool b2]) ∧ Below V.heap.size V w'))
    (HF : Hid (∀ V, Calls Tryz.prog 30 #[.agg #[.string x, .bool b1, .bool b2], .agg #[.int .i64 k, .int .i64 n, .int .i64 a, .int .i64 c, .int .i64 h, .int .i64 t, .int .i64 i, .int .i64 p]] V fun e w' => e = .returned (.bool true) ∧ Below V.heap.size V w'))
    (H1 : Hid (b1 = false)) (H2 : Hid (b2 = false))
    (HD1 : Hid (∀ (V : World) (g : Nat), Below w.heap.size w V → V.heap[g]? = some (.cells #[.int .i64 n] 3 (0, 0)) → Calls Tryz.prog 32 #[.slice (some ⟨g, 0, none⟩) 1 1] V fun e w' => e = .returned (.string s1) ∧ Below V.heap.size V w'))
    (HJ : Hid (∀ (V : World) (g : Nat), Below w.heap.size w V → V.heap[g]? = some (.cells #[.string x, .string s1] 9 (0, 0)) → Calls Tryz.prog 31 #[.slice (some ⟨g, 0, none⟩) 2 2] V fun e w' => e = .returned (.string R) ∧ Below V.heap.size V w')) :
    Calls Tryz.prog 13 #[.agg #[.int .i64 k, .int .i64 n, .int .i64 a, .int .i64 c, .int .i64 h, .int .i64 t, .int .i64 i, .int .i64 p]] w fun e w' => e = .returned (.string R) ∧ Below w.heap.size w w' := by
  obtain ⟨W0, hW0⟩ : ∃ U, w.alloc (.cells #[.int .i64 k, .int .i64 n, .int .i64 a, .int .i64 c, .int .i64 h, .int .i64 t, .int .i64 i, .int .i64 p] 28) = U := ⟨_, rfl⟩
  have hb0 : Below w.heap.size w W0 := hW0 ▸ one_box w _
  have z0 : W0.heap.size = w.heap.size + 1 := by rw [← hW0]; simp
  have k0 : W0.heap[w.heap.size]? = some (.cells #[.int .i64 k, .int .i64 n, .int .i64 a, .int .i64 c, .int .i64 h, .int .i64 t, .int .i64 i, .int .i64 p] 28 (0, 0)) := by rw [← hW0]; exact new_at rfl
  obtain ⟨i0, i1, i2, i3, i4, i5, i6, i7⟩ := row8 k0
  have HW0 := Lib.hid hW0
  have HB0 := Lib.hid hb0
  have HZ0 := Lib.hid z0
  have HK0 := Lib.hid k0
  clear hb0 z0 k0 hW0
  go_enter Tryz.func13, Tryz.ntmps13
  go_wp2_with fail
  rw [HW0.out]
  clear HW0
  go_wp2_with fail
  refine (HL.out _).mono ?_
  rintro e w1 ⟨rfl, hb1⟩
  obtain ⟨U, hU⟩ : ∃ U, w1.alloc (.cells #[.string x, .bool b1, .bool b2] 65) = U := ⟨_, rfl⟩
  have hbU : Below w1.heap.size w1 U := hU ▸ one_box w1 _
  have h01 : w.heap.size < w1.heap.size := by have := hb1.size; have := HZ0.out; omega
  have hlt : w1.heap.size < U.heap.size := by rw [← hU]; simp
  have kE : U.heap[w.heap.size]? = some (.cells #[.int .i64 k, .int .i64 n, .int .i64 a, .int .i64 c, .int .i64 h, .int .i64 t, .int .i64 i, .int .i64 p] 28 (0, 0)) := (hbU.block _ h01).trans ((hb1.block _ (by rw [HZ0.out]; omega)).trans HK0.out)
  have kL : U.heap[w1.heap.size]? = some (.cells #[.string x, .bool b1, .bool b2] 65 (0, 0)) := by rw [← hU]; exact new_at rfl
  have HB := Lib.hid (HB0.out.trans ((hb1.trans (hbU.mono hb1.size)).mono HB0.out.size))
  have HK := Lib.hid (fun (V : World) (hV : Below U.heap.size U V) => And.intro (row8 ((hV.block _ (by omega)).trans kE)) (row3 ((hV.block _ hlt).trans kL)))
  obtain ⟨⟨d0, d1, d2, d3, d4, d5, d6, d7⟩, c0, c1, c2⟩ := HK.out U (Below.refl _ _)
  clear hb1 hbU kE kL HB0 HZ0 HK0 i0 i1 i2 i3 i4 i5 i6 i7 HL
  go_wp2_with fail
  clear hU
  refine (HF.out _).mono ?_
  rintro e w2 ⟨rfl, hb2⟩
  clear d0 d1 d2 d3 d4 d5 d6 d7 c0 c1 c2 HF
  obtain ⟨⟨d0, d1, d2, d3, d4, d5, d6, d7⟩, c0, c1, c2⟩ := HK.out w2 hb2
  have HB2 := Lib.hid hb2
  clear hb2
  obtain rfl := H1.out
  obtain rfl := H2.out
  go_wp2_with fail
  clear d0 d1 d2 d3 d4 d5 d6 d7 c0 c1 c2
  refine region_specs 9 (fun i => (if i = 8 then 2 else 41 + i)) (fun ix_ => match ix_ with | 0 => .val (.pointer (some ⟨w1.heap.size, 0, none⟩)) | 1 => .val (.string x) | 2 => .val (.pointer (some ⟨w.heap.size, 1, none⟩)) | 3 => .val (.int .i64 n) | 4 => .row #[.int .i64 n] 3 1 | 5 => .val (.string s1) | 6 => .row #[.string x, .string s1] 9 2 | 7 => .val (.string R) | 8 => .val (.string R) | _ => .val undef) (by kernel_rfl) rfl (by kernel_rfl) (fun i hi => by show (if i = 8 then 2 else 41 + i) < 49; (repeat' split) <;> omega) (fun i j hi hj => by show (if i = 8 then 2 else 41 + i) = (if j = 8 then 2 else 41 + j) → i = j; (repeat' split) <;> omega) ?step ?fin
  case step =>
    intro listed A_ w3 ix op_ hI ho hdep
    have hi : ix < 9 := (Array.getElem?_eq_some_iff.1 ho).1
    have hcase : ix = 0 ∨ ix = 1 ∨ ix = 2 ∨ ix = 3 ∨ ix = 4 ∨ ix = 5 ∨ ix = 6 ∨ ix = 7 ∨ ix = 8 := by omega
    have hh := hI.held
    clear hi
    rcases hcase with rfl | rfl | rfl | rfl | rfl | rfl | rfl | rfl | rfl
    · simp only [List.getElem?_toArray, List.getElem?_cons_zero, Option.some.injEq] at ho
      subst ho
      refine ⟨rfl, ?_⟩
      have e3 : A_.tmps[3]?.getD undef = .pointer (some ⟨w1.heap.size, 0, none⟩) := by rw [hI.low 3 (by decide)]; rfl
      clear hI hdep
      exact .run rfl (.pointer (some ⟨w1.heap.size, 0, none⟩)) w3 (by simp [execOp, go_sem, Act.eval, e3]) (Below.refl _ _) rfl
    · simp only [List.getElem?_toArray, List.getElem?_cons_succ, List.getElem?_cons_zero, Option.some.injEq] at ho
      subst ho
      refine ⟨rfl, ?_⟩
      have e41 : A_.tmps[41]?.getD undef = .pointer (some ⟨w1.heap.size, 0, none⟩) := getD_of (hI.val_ (i := 0) rfl rfl (by decide) (hdep ⟨0, .data⟩ (by simp) rfl))
      clear hI hdep
      obtain ⟨⟨d0, d1, d2, d3, d4, d5, d6, d7⟩, c0, c1, c2⟩ := HK.out w3 (HB2.out.trans (hh.mono HB2.out.size))
      exact .run rfl (.string x) w3 (by simp [execOp, go_sem, Act.eval, *]) (Below.refl _ _) rfl
    · simp only [List.getElem?_toArray, List.getElem?_cons_succ, List.getElem?_cons_zero, Option.some.injEq] at ho
      subst ho
      refine ⟨rfl, ?_⟩
      have e1 : A_.tmps[1]?.getD undef = .pointer (some ⟨w.heap.size, 0, none⟩) := by rw [hI.low 1 (by decide)]; rfl
      clear hI hdep
      exact .run rfl (.pointer (some ⟨w.heap.size, 1, none⟩)) w3 (by simp [execOp, go_sem, Act.eval, e1]) (Below.refl _ _) rfl
    · simp only [List.getElem?_toArray, List.getElem?_cons_succ, List.getElem?_cons_zero, Option.some.injEq] at ho
      subst ho
      refine ⟨rfl, ?_⟩
      have e43 : A_.tmps[43]?.getD undef = .pointer (some ⟨w.heap.size, 1, none⟩) := getD_of (hI.val_ (i := 2) rfl rfl (by decide) (hdep ⟨2, .data⟩ (by simp) rfl))
      clear hI hdep
      obtain ⟨⟨d0, d1, d2, d3, d4, d5, d6, d7⟩, c0, c1, c2⟩ := HK.out w3 (HB2.out.trans (hh.mono HB2.out.size))
      exact .run rfl (.int .i64 n) w3 (by simp [execOp, go_sem, Act.eval, *]) (Below.refl _ _) rfl
    · simp only [List.getElem?_toArray, List.getElem?_cons_succ, List.getElem?_cons_zero, Option.some.injEq] at ho
      subst ho
      refine ⟨rfl, ?_⟩
      have e44 : A_.tmps[44]?.getD undef = .int .i64 n := getD_of (hI.val_ (i := 3) rfl rfl (by decide) (hdep ⟨3, .data⟩ (by simp) rfl))
      clear hI hdep
      exact .run rfl (.slice (some ⟨w3.heap.size, 0, none⟩) 1 1) (w3.alloc (.cells #[.int .i64 n] 3)) (by simp [execOp, go_sem, Act.eval, e44]) ((Below.refl _ _).alloc (Nat.le_refl _) _) (new_row _ _ _ _)
    · simp only [List.getElem?_toArray, List.getElem?_cons_succ, List.getElem?_cons_zero, Option.some.injEq] at ho
      subst ho
      refine ⟨rfl, ?_⟩
      obtain ⟨g45, e45, r45⟩ := hI.row_ (i := 4) (j := 45) rfl rfl (by decide) (hdep ⟨4, .data⟩ (by simp) rfl)
      clear hI hdep
      exact .call rfl 32 #[.slice (some ⟨g45, 0, none⟩) 1 1] (.string s1) (by simp [go_sem, Act.eval, e45]) rfl (HD1.out w3 g45 (HB.out.trans ((HB2.out.trans (hh.mono HB2.out.size)).mono HB.out.size)) r45)
    · simp only [List.getElem?_toArray, List.getElem?_cons_succ, List.getElem?_cons_zero, Option.some.injEq] at ho
      subst ho
      refine ⟨rfl, ?_⟩
      have e42 : A_.tmps[42]?.getD undef = .string x := getD_of (hI.val_ (i := 1) rfl rfl (by decide) (hdep ⟨1, .data⟩ (by simp) rfl))
      have e46 : A_.tmps[46]?.getD undef = .string s1 := getD_of (hI.val_ (i := 5) rfl rfl (by decide) (hdep ⟨5, .data⟩ (by simp) rfl))
      clear hI hdep
      exact .run rfl (.slice (some ⟨w3.heap.size, 0, none⟩) 2 2) (w3.alloc (.cells #[.string x, .string s1] 9)) (by simp [execOp, go_sem, Act.eval, e42, e46]) ((Below.refl _ _).alloc (Nat.le_refl _) _) (new_row _ _ _ _)
    · simp only [List.getElem?_toArray, List.getElem?_cons_succ, List.getElem?_cons_zero, Option.some.injEq] at ho
      subst ho
      refine ⟨rfl, ?_⟩
      obtain ⟨g47, e47, r47⟩ := hI.row_ (i := 6) (j := 47) rfl rfl (by decide) (hdep ⟨6, .data⟩ (by simp) rfl)
      clear hI hdep
      exact .call rfl 31 #[.slice (some ⟨g47, 0, none⟩) 2 2] (.string R) (by simp [go_sem, Act.eval, e47]) rfl (HJ.out w3 g47 (HB.out.trans ((HB2.out.trans (hh.mono HB2.out.size)).mono HB.out.size)) r47)
    · simp only [List.getElem?_toArray, List.getElem?_cons_succ, List.getElem?_cons_zero, Option.some.injEq] at ho
      subst ho
      refine ⟨rfl, ?_⟩
      have e48 : A_.tmps[48]?.getD undef = .string R := getD_of (hI.val_ (i := 7) rfl rfl (by decide) (hdep ⟨7, .data⟩ (by simp) rfl))
      clear hI hdep
      exact .run rfl (.string R) w3 (by simp [execOp, go_sem, Act.eval, e48]) (Below.refl _ _) rfl
  case fin =>
  intro A_ w3 hs hd hlow hS hok
  obtain ⟨y45, hy45⟩ := row_at (hok 4 45 _ (by decide) rfl rfl)
  obtain ⟨y47, hy47⟩ := row_at (hok 6 47 _ (by decide) rfl rfl)
  obtain rfl : A_ = ⟨#[.agg #[.int .i64 k, .int .i64 n, .int .i64 a, .int .i64 c, .int .i64 h, .int .i64 t, .int .i64 i, .int .i64 p], .pointer (some ⟨w.heap.size, 0, none⟩), .string R, .pointer (some ⟨w1.heap.size, 0, none⟩), .pointer (some ⟨w.heap.size, 0, none⟩), .int .i64 k, .agg #[.string x, .bool false, .bool false], .bool false, .agg #[.string x, .bool false, .bool false], .agg #[.int .i64 k, .int .i64 n, .int .i64 a, .int .i64 c, .int .i64 h, .int .i64 t, .int .i64 i, .int .i64 p], .bool true, .bool false, .bool false, .pointer (some ⟨w1.heap.size, 1, none⟩), .bool false, undef, undef, undef, undef, undef, undef, undef, undef, undef, undef, undef, undef, .bool false, .pointer (some ⟨w1.heap.size, 2, none⟩), .bool false, undef, undef, undef, undef, undef, undef, undef, undef, undef, undef, undef, .pointer (some ⟨w1.heap.size, 0, none⟩), .string x, .pointer (some ⟨w.heap.size, 1, none⟩), .int .i64 n, y45, .string s1, y47, .string R], []⟩ := act_ext hd hs (fun j hj => match j, hj with | 0, _ => (hlow 0 (by decide)).trans rfl | 1, _ => (hlow 1 (by decide)).trans rfl | 2, _ => val_at (hok 8 2 _ (by decide) rfl rfl) | 3, _ => (hlow 3 (by decide)).trans rfl | 4, _ => (hlow 4 (by decide)).trans rfl | 5, _ => (hlow 5 (by decide)).trans rfl | 6, _ => (hlow 6 (by decide)).trans rfl | 7, _ => (hlow 7 (by decide)).trans rfl | 8, _ => (hlow 8 (by decide)).trans rfl | 9, _ => (hlow 9 (by decide)).trans rfl | 10, _ => (hlow 10 (by decide)).trans rfl | 11, _ => (hlow 11 (by decide)).trans rfl | 12, _ => (hlow 12 (by decide)).trans rfl | 13, _ => (hlow 13 (by decide)).trans rfl | 14, _ => (hlow 14 (by decide)).trans rfl | 15, _ => (hlow 15 (by decide)).trans rfl | 16, _ => (hlow 16 (by decide)).trans rfl | 17, _ => (hlow 17 (by decide)).trans rfl | 18, _ => (hlow 18 (by decide)).trans rfl | 19, _ => (hlow 19 (by decide)).trans rfl | 20, _ => (hlow 20 (by decide)).trans rfl | 21, _ => (hlow 21 (by decide)).trans rfl | 22, _ => (hlow 22 (by decide)).trans rfl | 23, _ => (hlow 23 (by decide)).trans rfl | 24, _ => (hlow 24 (by decide)).trans rfl | 25, _ => (hlow 25 (by decide)).trans rfl | 26, _ => (hlow 26 (by decide)).trans rfl | 27, _ => (hlow 27 (by decide)).trans rfl | 28, _ => (hlow 28 (by decide)).trans rfl | 29, _ => (hlow 29 (by decide)).trans rfl | 30, _ => (hlow 30 (by decide)).trans rfl | 31, _ => (hlow 31 (by decide)).trans rfl | 32, _ => (hlow 32 (by decide)).trans rfl | 33, _ => (hlow 33 (by decide)).trans rfl | 34, _ => (hlow 34 (by decide)).trans rfl | 35, _ => (hlow 35 (by decide)).trans rfl | 36, _ => (hlow 36 (by decide)).trans rfl | 37, _ => (hlow 37 (by decide)).trans rfl | 38, _ => (hlow 38 (by decide)).trans rfl | 39, _ => (hlow 39 (by decide)).trans rfl | 40, _ => (hlow 40 (by decide)).trans rfl | 41, _ => val_at (hok 0 41 _ (by decide) rfl rfl) | 42, _ => val_at (hok 1 42 _ (by decide) rfl rfl) | 43, _ => val_at (hok 2 43 _ (by decide) rfl rfl) | 44, _ => val_at (hok 3 44 _ (by decide) rfl rfl) | 45, _ => hy45 | 46, _ => val_at (hok 5 46 _ (by decide) rfl rfl) | 47, _ => hy47 | 48, _ => val_at (hok 7 48 _ (by decide) rfl rfl) | n + 49, h => absurd h (by show ¬ n + 49 < 49; omega))
  clear hs hd hlow hok hy45 hy47
  go_wp2_with fail
  go_ret
  exact ⟨rfl, HB.out.trans ((HB2.out.trans (hS.mono HB2.out.size)).mono HB.out.size)⟩
theorem words_ok {l : List NM.Bs} (h : (NM.words l).length ≤ 100) : (NM.words l).length ≤ 1000000 := by omega
theorem Event_any (e : NM.Ev) (w : World) (hT : TN w) : Calls Tryz.prog 13 #[evV e] w fun x w' => x = .returned (.string (NM.bs (NM.evT e))) ∧ Below w.heap.size w w' := by
  have HL := Lib.hid (fun V => layout_any e.k V)
  have HF := Lib.hid (fun V => fits_any e V)
  by_cases hf : NM.fits e = true
  · rw [hf] at HF
    obtain ⟨h1, h2, h3, h4, h5⟩ := NM.fits_iff.1 hf
    have hn : NM.Nn e.n := NM.nn_small h3.1 h3.2 (by decide)
    have hlen := NM.evT_len e
    have HD1 := Lib.hid (fun (V : World) (g : Nat) (hV : Below w.heap.size w V) (hg : V.heap[g]? = some (.cells #[.int .i64 e.n] 3 (0, 0))) => dotted_any (n := 1) [e.n] V hg rfl (by omega) (by omega) (by simp [hn]) (hT.below hV))
    by_cases hA : NM.argK e.k = true
    · have hM : NM.msgK e.k = false := by
        rcases NM.kind_cases h1 with h | h | h | h | h | h | h <;> rw [h] at hA ⊢ <;> first | rfl | exact absurd hA (by decide)
      have et : NM.evT e = NM.words [NM.word e.k, NM.dots [e.n], NM.dots [e.a]] := by unfold NM.evT; rw [if_pos hf, if_pos hA]
      rw [et] at hlen ⊢
      have HD2 := Lib.hid (fun (V : World) (g : Nat) (hV : Below w.heap.size w V) (hg : V.heap[g]? = some (.cells #[.int .i64 e.a] 3 (0, 0))) => dotted_any (n := 1) [e.a] V hg rfl (by omega) (by omega) (by simp [h4]) (hT.below hV))
      have HJ := Lib.hid (fun (V : World) (g : Nat) (_ : Below w.heap.size w V) (hg : V.heap[g]? = some (.cells #[.string (NM.bs (NM.word e.k)), .string (NM.bs (NM.dots [e.n])), .string (NM.bs (NM.dots [e.a]))] 9 (0, 0))) => words_any (n := 3) [NM.word e.k, NM.dots [e.n], NM.dots [e.a]] V hg rfl (by omega) (words_ok hlen))
      exact Event_arg _ _ _ _ _ _ e.k e.n e.a e.m.c e.m.h e.m.t e.m.i e.m.p w HL HF hA hM HD1 HD2 HJ
    · have hA : NM.argK e.k = false := by simpa using hA
      by_cases hM : NM.msgK e.k = true
      · have et : NM.evT e = NM.words [NM.word e.k, NM.dots [e.n], NM.dots (NM.msL e.m)] := by unfold NM.evT; rw [if_pos hf, if_neg (by rw [hA]; simp), if_pos hM]
        rw [et] at hlen ⊢
        have HM := Lib.hid (fun (V : World) (hV : Below w.heap.size w V) => msgText_any e.m V h5 (hT.below hV))
        have HJ := Lib.hid (fun (V : World) (g : Nat) (_ : Below w.heap.size w V) (hg : V.heap[g]? = some (.cells #[.string (NM.bs (NM.word e.k)), .string (NM.bs (NM.dots [e.n])), .string (NM.bs (NM.dots (NM.msL e.m)))] 9 (0, 0))) => words_any (n := 3) [NM.word e.k, NM.dots [e.n], NM.dots (NM.msL e.m)] V hg rfl (by omega) (words_ok hlen))
        exact Event_msg _ _ _ _ _ _ e.k e.n e.a e.m.c e.m.h e.m.t e.m.i e.m.p w HL HF hA hM HD1 HM HJ
      · have hM : NM.msgK e.k = false := by simpa using hM
        have et : NM.evT e = NM.words [NM.word e.k, NM.dots [e.n]] := by unfold NM.evT; rw [if_pos hf, if_neg (by rw [hA]; simp), if_neg (by rw [hM]; simp)]
        rw [et] at hlen ⊢
        have HJ := Lib.hid (fun (V : World) (g : Nat) (_ : Below w.heap.size w V) (hg : V.heap[g]? = some (.cells #[.string (NM.bs (NM.word e.k)), .string (NM.bs (NM.dots [e.n]))] 9 (0, 0))) => words_any (n := 2) [NM.word e.k, NM.dots [e.n]] V hg rfl (by omega) (words_ok hlen))
        exact Event_bare _ _ _ _ _ e.k e.n e.a e.m.c e.m.h e.m.t e.m.i e.m.p w HL HF hA hM HD1 HJ
  · have hf : NM.fits e = false := by simpa using hf
    rw [hf] at HF
    have et : NM.evT e = [] := by unfold NM.evT; rw [if_neg (by rw [hf]; simp)]
    rw [et]
    exact Event_none _ _ _ e.k e.n e.a e.m.c e.m.h e.m.t e.m.i e.m.p w HL HF
end Go.Proofs.YtggallpnbbidfaaGreatDoor
