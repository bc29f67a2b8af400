/-
  The texts of questions. Condition: the listed tables and variables stand (TN).
-/
import Derived.Test.YtggallpnbbidfaaGreatDoorNmX
namespace Go.Proofs.YtggallpnbbidfaaGreatDoor
open Go Go.RowKit Go.Proofs
attribute [local go_sem] Oper.semAt_some

set_option maxHeartbeats 4000000 in
set_option maxRecDepth 100000 in
theorem Question_0 (x : ByteArray) (c h t k i : Int) (w : World) (hx : x.toList.isEmpty = true)
    (HX : Hid (∀ V, Calls Tryz.prog 38 #[.int .i64 k] V fun e w' => e = .returned (.string x) ∧ V = w')) :
    Calls Tryz.prog 15 #[.agg #[.int .i64 c, .int .i64 h, .int .i64 t, .int .i64 k, .int .i64 i]] w fun e w' => e = .returned (.string ⟨#[]⟩) ∧ Below w.heap.size w w' := by
  obtain ⟨U, hU⟩ : ∃ U, w.alloc (.cells #[.int .i64 c, .int .i64 h, .int .i64 t, .int .i64 k, .int .i64 i] 36) = U := ⟨_, rfl⟩
  have hb : Below w.heap.size w U := hU ▸ one_box w _
  have hlt : w.heap.size < U.heap.size := by rw [← hU]; simp
  have k1 : U.heap[w.heap.size]? = some (.cells #[.int .i64 c, .int .i64 h, .int .i64 t, .int .i64 k, .int .i64 i] 36 (0, 0)) := by rw [← hU]; exact new_at rfl
  have HK := Lib.hid (fun (V : World) (hV : Below U.heap.size U V) => row5 ((hV.block _ hlt).trans k1))
  obtain ⟨a0, a1, a2, a3, a4⟩ := row5 k1
  have HB := Lib.hid hb
  clear k1 hb
  go_enter Tryz.func15, Tryz.ntmps15
  go_wp2_with (first | (go_at_call 38; (with_reducible refine (HX.out _).mono ?_); rintro e wq ⟨rfl, rfl⟩))
  go_ret
  exact ⟨rfl, HB.out⟩
set_option maxHeartbeats 4000000 in
set_option maxRecDepth 100000 in
theorem Question_1 (x : ByteArray) (c h t k i : Int) (w : World) (hx : x.toList.isEmpty = false)
    (HX : Hid (∀ V, Calls Tryz.prog 38 #[.int .i64 k] V fun e w' => e = .returned (.string x) ∧ V = w'))
    (HC : Hid (∀ V, Calls Tryz.prog 39 #[.agg #[.int .i64 c, .int .i64 h, .int .i64 t], .int .i64 40] V fun e w' => e = .returned (.bool false) ∧ Below V.heap.size V w')) :
    Calls Tryz.prog 15 #[.agg #[.int .i64 c, .int .i64 h, .int .i64 t, .int .i64 k, .int .i64 i]] w fun e w' => e = .returned (.string ⟨#[]⟩) ∧ Below w.heap.size w w' := by
  obtain ⟨U, hU⟩ : ∃ U, w.alloc (.cells #[.int .i64 c, .int .i64 h, .int .i64 t, .int .i64 k, .int .i64 i] 36) = U := ⟨_, rfl⟩
  have hb : Below w.heap.size w U := hU ▸ one_box w _
  have hlt : w.heap.size < U.heap.size := by rw [← hU]; simp
  have k1 : U.heap[w.heap.size]? = some (.cells #[.int .i64 c, .int .i64 h, .int .i64 t, .int .i64 k, .int .i64 i] 36 (0, 0)) := by rw [← hU]; exact new_at rfl
  have HK := Lib.hid (fun (V : World) (hV : Below U.heap.size U V) => row5 ((hV.block _ hlt).trans k1))
  obtain ⟨a0, a1, a2, a3, a4⟩ := row5 k1
  have HB := Lib.hid hb
  clear k1 hb
  go_enter Tryz.func15, Tryz.ntmps15
  go_wp2_with (first | (go_at_call 38; (with_reducible refine (HX.out _).mono ?_); rintro e wq ⟨rfl, rfl⟩) | (go_at_call 39; (with_reducible refine (HC.out _).mono ?_); rintro e w2 ⟨rfl, hb2⟩; obtain ⟨c0, c1, c2, c3, c4⟩ := HK.out w2 hb2; have HB2 := Lib.hid hb2; clear hb2))
  go_ret
  exact ⟨rfl, HB.out.trans (HB2.out.mono HB.out.size)⟩
set_option maxHeartbeats 4000000 in
set_option maxRecDepth 100000 in
theorem Question_2 (x : ByteArray) (c h t k i : Int) (w : World) (hx : x.toList.isEmpty = false)
    (HX : Hid (∀ V, Calls Tryz.prog 38 #[.int .i64 k] V fun e w' => e = .returned (.string x) ∧ V = w'))
    (HC : Hid (∀ V, Calls Tryz.prog 39 #[.agg #[.int .i64 c, .int .i64 h, .int .i64 t], .int .i64 40] V fun e w' => e = .returned (.bool true) ∧ Below V.heap.size V w'))
    (HA : Hid (∀ V, Calls Tryz.prog 40 #[.int .i64 i, .int .i64 2147483647] V fun e w' => e = .returned (.bool false) ∧ V = w')) :
    Calls Tryz.prog 15 #[.agg #[.int .i64 c, .int .i64 h, .int .i64 t, .int .i64 k, .int .i64 i]] w fun e w' => e = .returned (.string ⟨#[]⟩) ∧ Below w.heap.size w w' := by
  obtain ⟨U, hU⟩ : ∃ U, w.alloc (.cells #[.int .i64 c, .int .i64 h, .int .i64 t, .int .i64 k, .int .i64 i] 36) = U := ⟨_, rfl⟩
  have hb : Below w.heap.size w U := hU ▸ one_box w _
  have hlt : w.heap.size < U.heap.size := by rw [← hU]; simp
  have k1 : U.heap[w.heap.size]? = some (.cells #[.int .i64 c, .int .i64 h, .int .i64 t, .int .i64 k, .int .i64 i] 36 (0, 0)) := by rw [← hU]; exact new_at rfl
  have HK := Lib.hid (fun (V : World) (hV : Below U.heap.size U V) => row5 ((hV.block _ hlt).trans k1))
  obtain ⟨a0, a1, a2, a3, a4⟩ := row5 k1
  have HB := Lib.hid hb
  clear k1 hb
  go_enter Tryz.func15, Tryz.ntmps15
  go_wp2_with (first | (go_at_call 38; (with_reducible refine (HX.out _).mono ?_); rintro e wq ⟨rfl, rfl⟩) | (go_at_call 39; (with_reducible refine (HC.out _).mono ?_); rintro e w2 ⟨rfl, hb2⟩; obtain ⟨c0, c1, c2, c3, c4⟩ := HK.out w2 hb2; have HB2 := Lib.hid hb2; clear hb2) | (go_at_call 40; (with_reducible refine (HA.out _).mono ?_); rintro e wr ⟨rfl, rfl⟩))
  go_ret
  exact ⟨rfl, HB.out.trans (HB2.out.mono HB.out.size)⟩
set_option maxHeartbeats 4000000 in
set_option maxRecDepth 100000 in
theorem Question_3 (x s1 s2 R : ByteArray) (c h t k i : Int) (w : World) (hx : x.toList.isEmpty = false)
    (HX : Hid (∀ V, Calls Tryz.prog 38 #[.int .i64 k] V fun e w' => e = .returned (.string x) ∧ V = w'))
    (HC : Hid (∀ V, Calls Tryz.prog 39 #[.agg #[.int .i64 c, .int .i64 h, .int .i64 t], .int .i64 40] V fun e w' => e = .returned (.bool true) ∧ Below V.heap.size V w'))
    (HA : Hid (∀ V, Calls Tryz.prog 40 #[.int .i64 i, .int .i64 2147483647] V fun e w' => e = .returned (.bool true) ∧ V = w'))
    (HT : Hid (∀ (V : World), Below w.heap.size w V → Calls Tryz.prog 41 #[.agg #[.int .i64 c, .int .i64 h, .int .i64 t]] V fun e w' => e = .returned (.string s1) ∧ Below V.heap.size V w'))
    (HD : Hid (∀ (V : World) (g : Nat), Below w.heap.size w V → V.heap[g]? = some (.cells #[.int .i64 i] 3 (0, 0)) → Calls Tryz.prog 32 #[.slice (some ⟨g, 0, none⟩) 1 1] V fun e w' => e = .returned (.string s2) ∧ Below V.heap.size V w'))
    (HJ : Hid (∀ (V : World) (g : Nat), Below w.heap.size w V → V.heap[g]? = some (.cells #[.string x, .string s1, .string s2] 9 (0, 0)) → Calls Tryz.prog 31 #[.slice (some ⟨g, 0, none⟩) 3 3] V fun e w' => e = .returned (.string R) ∧ Below V.heap.size V w')) :
    Calls Tryz.prog 15 #[.agg #[.int .i64 c, .int .i64 h, .int .i64 t, .int .i64 k, .int .i64 i]] w fun e w' => e = .returned (.string R) ∧ Below w.heap.size w w' := by
  obtain ⟨U, hU⟩ : ∃ U, w.alloc (.cells #[.int .i64 c, .int .i64 h, .int .i64 t, .int .i64 k, .int .i64 i] 36) = U := ⟨_, rfl⟩
  have hb : Below w.heap.size w U := hU ▸ one_box w _
  have hlt : w.heap.size < U.heap.size := by rw [← hU]; simp
  have k1 : U.heap[w.heap.size]? = some (.cells #[.int .i64 c, .int .i64 h, .int .i64 t, .int .i64 k, .int .i64 i] 36 (0, 0)) := by rw [← hU]; exact new_at rfl
  have HK := Lib.hid (fun (V : World) (hV : Below U.heap.size U V) => row5 ((hV.block _ hlt).trans k1))
  obtain ⟨a0, a1, a2, a3, a4⟩ := row5 k1
  have HB := Lib.hid hb
  clear k1 hb
  go_enter Tryz.func15, Tryz.ntmps15
  go_wp2_with (first | (go_at_call 38; (with_reducible refine (HX.out _).mono ?_); rintro e wq ⟨rfl, rfl⟩) | (go_at_call 39; (with_reducible refine (HC.out _).mono ?_); rintro e w2 ⟨rfl, hb2⟩; obtain ⟨c0, c1, c2, c3, c4⟩ := HK.out w2 hb2; have HB2 := Lib.hid hb2; clear hb2) | (go_at_call 40; (with_reducible refine (HA.out _).mono ?_); rintro e wr ⟨rfl, rfl⟩))
  clear hU a0 a1 a2 a3 a4 c0 c1 c2 c3 c4 HX HC HA hx
  refine region_specs 11 (fun i => (if i = 10 then 2 else 21 + i)) (fun ix_ => match ix_ with | 0 => .val (.string x) | 1 => .val (.pointer (some ⟨w.heap.size, 0, none⟩)) | 2 => .val (.agg #[.int .i64 c, .int .i64 h, .int .i64 t]) | 3 => .val (.string s1) | 4 => .val (.pointer (some ⟨w.heap.size, 4, none⟩)) | 5 => .val (.int .i64 i) | 6 => .row #[.int .i64 i] 3 1 | 7 => .val (.string s2) | 8 => .row #[.string x, .string s1, .string s2] 9 3 | 9 => .val (.string R) | 10 => .val (.string R) | _ => .val undef) (by kernel_rfl) rfl (by kernel_rfl) (fun i hi => by show (if i = 10 then 2 else 21 + i) < 31; (repeat' split) <;> omega) (fun i j hi hj => by show (if i = 10 then 2 else 21 + i) = (if j = 10 then 2 else 21 + j) → i = j; (repeat' split) <;> omega) ?step ?fin
  case step =>
    intro listed A_ w3 ix op_ hI ho hdep
    have hi : ix < 11 := (Array.getElem?_eq_some_iff.1 ho).1
    have hcase : ix = 0 ∨ ix = 1 ∨ ix = 2 ∨ ix = 3 ∨ ix = 4 ∨ ix = 5 ∨ ix = 6 ∨ ix = 7 ∨ ix = 8 ∨ ix = 9 ∨ ix = 10 := by omega
    have hh := hI.held
    clear hi
    rcases hcase with rfl | rfl | rfl | rfl | rfl | rfl | rfl | rfl | rfl | rfl | rfl
    · simp only [List.getElem?_toArray, List.getElem?_cons_zero, Option.some.injEq] at ho
      subst ho
      refine ⟨rfl, ?_⟩
      have e3 : A_.tmps[3]?.getD undef = .string x := by rw [hI.low 3 (by decide)]; rfl
      clear hI hdep
      exact .run rfl (.string x) w3 (by simp [execOp, go_sem, Act.eval, e3]) (Below.refl _ _) rfl
    · simp only [List.getElem?_toArray, List.getElem?_cons_succ, List.getElem?_cons_zero, Option.some.injEq] at ho
      subst ho
      refine ⟨rfl, ?_⟩
      have e1 : A_.tmps[1]?.getD undef = .pointer (some ⟨w.heap.size, 0, none⟩) := by rw [hI.low 1 (by decide)]; rfl
      clear hI hdep
      exact .run rfl (.pointer (some ⟨w.heap.size, 0, none⟩)) w3 (by simp [execOp, go_sem, Act.eval, e1]) (Below.refl _ _) rfl
    · simp only [List.getElem?_toArray, List.getElem?_cons_succ, List.getElem?_cons_zero, Option.some.injEq] at ho
      subst ho
      refine ⟨rfl, ?_⟩
      have e22 : A_.tmps[22]?.getD undef = .pointer (some ⟨w.heap.size, 0, none⟩) := getD_of (hI.val_ (i := 1) rfl rfl (by decide) (hdep ⟨1, .data⟩ (by simp) rfl))
      clear hI hdep
      obtain ⟨d0, d1, d2, d3, d4⟩ := HK.out w3 (HB2.out.trans (hh.mono HB2.out.size))
      exact .run rfl (.agg #[.int .i64 c, .int .i64 h, .int .i64 t]) w3 (by simp [execOp, go_sem, Act.eval, *]) (Below.refl _ _) rfl
    · simp only [List.getElem?_toArray, List.getElem?_cons_succ, List.getElem?_cons_zero, Option.some.injEq] at ho
      subst ho
      refine ⟨rfl, ?_⟩
      have e23 : A_.tmps[23]?.getD undef = .agg #[.int .i64 c, .int .i64 h, .int .i64 t] := getD_of (hI.val_ (i := 2) rfl rfl (by decide) (hdep ⟨2, .data⟩ (by simp) rfl))
      clear hI hdep
      exact .call rfl 41 #[.agg #[.int .i64 c, .int .i64 h, .int .i64 t]] (.string s1) (by simp [go_sem, Act.eval, e23]) rfl (HT.out w3 (HB.out.trans ((HB2.out.trans (hh.mono HB2.out.size)).mono HB.out.size)))
    · simp only [List.getElem?_toArray, List.getElem?_cons_succ, List.getElem?_cons_zero, Option.some.injEq] at ho
      subst ho
      refine ⟨rfl, ?_⟩
      have e1 : A_.tmps[1]?.getD undef = .pointer (some ⟨w.heap.size, 0, none⟩) := by rw [hI.low 1 (by decide)]; rfl
      clear hI hdep
      exact .run rfl (.pointer (some ⟨w.heap.size, 4, none⟩)) w3 (by simp [execOp, go_sem, Act.eval, e1]) (Below.refl _ _) rfl
    · simp only [List.getElem?_toArray, List.getElem?_cons_succ, List.getElem?_cons_zero, Option.some.injEq] at ho
      subst ho
      refine ⟨rfl, ?_⟩
      have e25 : A_.tmps[25]?.getD undef = .pointer (some ⟨w.heap.size, 4, none⟩) := getD_of (hI.val_ (i := 4) rfl rfl (by decide) (hdep ⟨4, .data⟩ (by simp) rfl))
      clear hI hdep
      obtain ⟨d0, d1, d2, d3, d4⟩ := HK.out w3 (HB2.out.trans (hh.mono HB2.out.size))
      exact .run rfl (.int .i64 i) w3 (by simp [execOp, go_sem, Act.eval, *]) (Below.refl _ _) rfl
    · simp only [List.getElem?_toArray, List.getElem?_cons_succ, List.getElem?_cons_zero, Option.some.injEq] at ho
      subst ho
      refine ⟨rfl, ?_⟩
      have e26 : A_.tmps[26]?.getD undef = .int .i64 i := getD_of (hI.val_ (i := 5) rfl rfl (by decide) (hdep ⟨5, .data⟩ (by simp) rfl))
      clear hI hdep
      exact .run rfl (.slice (some ⟨w3.heap.size, 0, none⟩) 1 1) (w3.alloc (.cells #[.int .i64 i] 3)) (by simp [execOp, go_sem, Act.eval, e26]) ((Below.refl _ _).alloc (Nat.le_refl _) _) (new_row _ _ _ _)
    · simp only [List.getElem?_toArray, List.getElem?_cons_succ, List.getElem?_cons_zero, Option.some.injEq] at ho
      subst ho
      refine ⟨rfl, ?_⟩
      obtain ⟨g27, e27, r27⟩ := hI.row_ (i := 6) (j := 27) rfl rfl (by decide) (hdep ⟨6, .data⟩ (by simp) rfl)
      clear hI hdep
      exact .call rfl 32 #[.slice (some ⟨g27, 0, none⟩) 1 1] (.string s2) (by simp [go_sem, Act.eval, e27]) rfl (HD.out w3 g27 (HB.out.trans ((HB2.out.trans (hh.mono HB2.out.size)).mono HB.out.size)) r27)
    · simp only [List.getElem?_toArray, List.getElem?_cons_succ, List.getElem?_cons_zero, Option.some.injEq] at ho
      subst ho
      refine ⟨rfl, ?_⟩
      have e21 : A_.tmps[21]?.getD undef = .string x := getD_of (hI.val_ (i := 0) rfl rfl (by decide) (hdep ⟨0, .data⟩ (by simp) rfl))
      have e24 : A_.tmps[24]?.getD undef = .string s1 := getD_of (hI.val_ (i := 3) rfl rfl (by decide) (hdep ⟨3, .data⟩ (by simp) rfl))
      have e28 : A_.tmps[28]?.getD undef = .string s2 := getD_of (hI.val_ (i := 7) rfl rfl (by decide) (hdep ⟨7, .data⟩ (by simp) rfl))
      clear hI hdep
      exact .run rfl (.slice (some ⟨w3.heap.size, 0, none⟩) 3 3) (w3.alloc (.cells #[.string x, .string s1, .string s2] 9)) (by simp [execOp, go_sem, Act.eval, e21, e24, e28]) ((Below.refl _ _).alloc (Nat.le_refl _) _) (new_row _ _ _ _)
    · simp only [List.getElem?_toArray, List.getElem?_cons_succ, List.getElem?_cons_zero, Option.some.injEq] at ho
      subst ho
      refine ⟨rfl, ?_⟩
      obtain ⟨g29, e29, r29⟩ := hI.row_ (i := 8) (j := 29) rfl rfl (by decide) (hdep ⟨8, .data⟩ (by simp) rfl)
      clear hI hdep
      exact .call rfl 31 #[.slice (some ⟨g29, 0, none⟩) 3 3] (.string R) (by simp [go_sem, Act.eval, e29]) rfl (HJ.out w3 g29 (HB.out.trans ((HB2.out.trans (hh.mono HB2.out.size)).mono HB.out.size)) r29)
    · simp only [List.getElem?_toArray, List.getElem?_cons_succ, List.getElem?_cons_zero, Option.some.injEq] at ho
      subst ho
      refine ⟨rfl, ?_⟩
      have e30 : A_.tmps[30]?.getD undef = .string R := getD_of (hI.val_ (i := 9) rfl rfl (by decide) (hdep ⟨9, .data⟩ (by simp) rfl))
      clear hI hdep
      exact .run rfl (.string R) w3 (by simp [execOp, go_sem, Act.eval, e30]) (Below.refl _ _) rfl
  case fin =>
  intro A_ w3 hs hd hlow hS hok
  obtain ⟨y27, hy27⟩ := row_at (hok 6 27 _ (by decide) rfl rfl)
  obtain ⟨y29, hy29⟩ := row_at (hok 8 29 _ (by decide) rfl rfl)
  obtain rfl : A_ = ⟨#[.agg #[.int .i64 c, .int .i64 h, .int .i64 t, .int .i64 k, .int .i64 i], .pointer (some ⟨w.heap.size, 0, none⟩), .string R, .string x, .pointer (some ⟨w.heap.size, 3, none⟩), .int .i64 k, .string x, .string x, .bool false, .bool false, .pointer (some ⟨w.heap.size, 0, none⟩), .agg #[.int .i64 c, .int .i64 h, .int .i64 t], .bool true, .bool false, .bool false, .bool false, .pointer (some ⟨w.heap.size, 4, none⟩), .int .i64 i, .bool true, .bool false, .bool false, .string x, .pointer (some ⟨w.heap.size, 0, none⟩), .agg #[.int .i64 c, .int .i64 h, .int .i64 t], .string s1, .pointer (some ⟨w.heap.size, 4, none⟩), .int .i64 i, y27, .string s2, y29, .string R], []⟩ := act_ext hd hs (fun j hj => match j, hj with | 0, _ => (hlow 0 (by decide)).trans rfl | 1, _ => (hlow 1 (by decide)).trans rfl | 2, _ => val_at (hok 10 2 _ (by decide) rfl rfl) | 3, _ => (hlow 3 (by decide)).trans rfl | 4, _ => (hlow 4 (by decide)).trans rfl | 5, _ => (hlow 5 (by decide)).trans rfl | 6, _ => (hlow 6 (by decide)).trans rfl | 7, _ => (hlow 7 (by decide)).trans rfl | 8, _ => (hlow 8 (by decide)).trans rfl | 9, _ => (hlow 9 (by decide)).trans rfl | 10, _ => (hlow 10 (by decide)).trans rfl | 11, _ => (hlow 11 (by decide)).trans rfl | 12, _ => (hlow 12 (by decide)).trans rfl | 13, _ => (hlow 13 (by decide)).trans rfl | 14, _ => (hlow 14 (by decide)).trans rfl | 15, _ => (hlow 15 (by decide)).trans rfl | 16, _ => (hlow 16 (by decide)).trans rfl | 17, _ => (hlow 17 (by decide)).trans rfl | 18, _ => (hlow 18 (by decide)).trans rfl | 19, _ => (hlow 19 (by decide)).trans rfl | 20, _ => (hlow 20 (by decide)).trans rfl | 21, _ => val_at (hok 0 21 _ (by decide) rfl rfl) | 22, _ => val_at (hok 1 22 _ (by decide) rfl rfl) | 23, _ => val_at (hok 2 23 _ (by decide) rfl rfl) | 24, _ => val_at (hok 3 24 _ (by decide) rfl rfl) | 25, _ => val_at (hok 4 25 _ (by decide) rfl rfl) | 26, _ => val_at (hok 5 26 _ (by decide) rfl rfl) | 27, _ => hy27 | 28, _ => val_at (hok 7 28 _ (by decide) rfl rfl) | 29, _ => hy29 | 30, _ => val_at (hok 9 30 _ (by decide) rfl rfl) | n + 31, h => absurd h (by show ¬ n + 31 < 31; omega))
  clear hs hd hlow hok hy27 hy29
  go_wp2_with fail
  go_ret
  exact ⟨rfl, HB.out.trans ((HB2.out.trans (hS.mono HB2.out.size)).mono HB.out.size)⟩
theorem Question_any (q : NM.Qu) (w : World) (hT : TN w) : Calls Tryz.prog 15 #[quV q] w fun x w' => x = .returned (.string (NM.bs (NM.quT q))) ∧ Below w.heap.size w w' := by
  have HX := Lib.hid (fun V => qword_any q.k V)
  have HC := Lib.hid (fun V => isCause_any q.c q.h q.t 40 V)
  have HA := Lib.hid (fun V => upTo_any q.i 2147483647 V)
  have hx := bs_toList (NM.qword q.k)
  have hok : NM.okQ q = (decide (NM.qword q.k ≠ []) && (NM.okC q.c q.h q.t 40 && NM.upTo q.i 2147483647)) := rfl
  have none_ : NM.okQ q = false → NM.quT q = [] := fun h => by unfold NM.quT; rw [if_neg (by rw [h]; simp)]
  by_cases g0 : NM.qword q.k = []
  · rw [none_ (by rw [hok, decide_eq_false (show ¬ NM.qword q.k ≠ [] from fun h => h g0)]; rfl)]
    exact Question_0 _ q.c q.h q.t q.k q.i w (by rw [hx, g0]; rfl) HX
  have hx2 : (NM.bs (NM.qword q.k)).toList.isEmpty = false := by rw [hx]; simpa using g0
  cases g1 : NM.okC q.c q.h q.t 40 with
  | false =>
    rw [none_ (by rw [hok, g1, Bool.false_and, Bool.and_false])]
    rw [g1] at HC
    exact Question_1 _ q.c q.h q.t q.k q.i w hx2 HX HC
  | true =>
    rw [g1] at HC
    cases g2 : NM.upTo q.i 2147483647 with
    | false =>
      rw [none_ (by rw [hok, g2, Bool.and_false, Bool.and_false])]
      rw [g2] at HA
      exact Question_2 _ q.c q.h q.t q.k q.i w hx2 HX HC HA
    | true =>
      rw [g2] at HA
      have hq : NM.okQ q = true := by rw [hok, g1, g2, decide_eq_true (show NM.qword q.k ≠ [] from g0)]; rfl
      obtain ⟨_, ⟨hc, hh, ht⟩, hi⟩ := NM.okQ_iff.1 hq
      have et : NM.quT q = NM.words [NM.qword q.k, NM.dots [q.c, q.h, q.t], NM.dots [q.i]] := by unfold NM.quT; rw [if_pos hq]
      have hlen := NM.quT_len q
      rw [et] at hlen ⊢
      exact Question_3 _ _ _ _ q.c q.h q.t q.k q.i w hx2 HX HC HA
        (Lib.hid fun (V : World) (hV : Below w.heap.size w V) => causeText_any q.c q.h q.t V (NM.nn_small hc.1 hc.2 (by decide)) (NM.nn_small hh.1 hh.2 (by decide)) ht (hT.below hV))
        (Lib.hid fun (V : World) (g : Nat) (hV : Below w.heap.size w V) (hg : V.heap[g]? = some (.cells #[.int .i64 q.i] 3 (0, 0))) => dotted_any (n := 1) [q.i] V hg rfl (by omega) (by omega) (by simp [hi]) (hT.below hV))
        (Lib.hid fun (V : World) (g : Nat) (_ : Below w.heap.size w V) (hg : V.heap[g]? = some (.cells #[.string (NM.bs (NM.qword q.k)), .string (NM.bs (NM.dots [q.c, q.h, q.t])), .string (NM.bs (NM.dots [q.i]))] 9 (0, 0))) => words_any (n := 3) [NM.qword q.k, NM.dots [q.c, q.h, q.t], NM.dots [q.i]] V hg rfl (by omega) (by omega))
end Go.Proofs.YtggallpnbbidfaaGreatDoor
