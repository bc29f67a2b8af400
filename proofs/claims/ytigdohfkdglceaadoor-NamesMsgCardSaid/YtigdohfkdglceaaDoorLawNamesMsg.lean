/-
  The walk of NamesMsg: CompareMsg orders as the document's key does. Condition: the listed tables and variables stand (TN).
-/
import Derived.Test.YtigdohfkdglceaaDoorNmRe
import Derived.Test.YtigdohfkdglceaaDoorNmRl
import Derived.Test.YtigdohfkdglceaaDoorNmL
import Derived.Test.YtigdohfkdglceaaDoorNmKc
import Derived.Test.YtigdohfkdglceaaDoorNmAm
import Derived.Test.YtigdohfkdglceaaDoorRgQ
namespace Go.Proofs.YtigdohfkdglceaaDoor.LawNamesMsg
open Go Go.RowKit Go.Proofs Go.Proofs.YtigdohfkdglceaaDoor
attribute [local go_sem] Oper.semAt_some

theorem key_row (c h t i p : Int) (w : World) : Calls Tryd.prog 10 #[.agg #[.int .i64 c, .int .i64 h, .int .i64 t, .int .i64 i, .int .i64 p]] w fun e w' => (∃ v, e = .returned v ∧ (RgQ.Sq.row #[.int .i64 c, .int .i64 h, .int .i64 t, .int .i64 i, .int .i64 p] 3 5).ok w' v) ∧ Below w.heap.size w w' :=
  (msgKey_any c h t i p w).mono fun _ _ ⟨⟨g, he, hg⟩, hb⟩ => ⟨⟨_, he, g, rfl, hg⟩, hb⟩
set_option maxHeartbeats 4000000 in
set_option maxRecDepth 100000 in
theorem walk_0 (c h t i p c2 h2 t2 i2 p2 n R1 R2 : Int) (w : World)
    (HA : Hid (∀ V, Calls Tryd.prog 9 #[.int .i64 n, .int .i64 5] V fun e w' => e = .returned (.int .i64 0) ∧ V = w'))
    (HC1 : Hid (∀ V, Calls Tryd.prog 11 #[.agg #[.int .i64 c, .int .i64 h, .int .i64 t, .int .i64 i, .int .i64 p], .agg #[.int .i64 c2, .int .i64 h2, .int .i64 t2, .int .i64 i2, .int .i64 p2]] V fun e w' => e = .returned (.int .i64 R1) ∧ Below V.heap.size V w'))
    (HC2 : Hid (∀ V, Calls Tryd.prog 11 #[.agg #[.int .i64 c, .int .i64 h, .int .i64 t, .int .i64 i, .int .i64 p], .agg #[.int .i64 c2, .int .i64 h, .int .i64 t, .int .i64 i, .int .i64 p]] V fun e w' => e = .returned (.int .i64 R2) ∧ Below V.heap.size V w'))
    (HR1 : Hid (∀ (V : World) (g1 g2 : Nat), V.heap[g1]? = some (.cells #[.int .i64 c, .int .i64 h, .int .i64 t, .int .i64 i, .int .i64 p] 3 (0, 0)) → V.heap[g2]? = some (.cells #[.int .i64 c2, .int .i64 h2, .int .i64 t2, .int .i64 i2, .int .i64 p2] 3 (0, 0)) → Calls Tryd.prog 12 #[.slice (some ⟨g1, 0, none⟩) 5 5, .slice (some ⟨g2, 0, none⟩) 5 5] V fun e w' => e = .returned (.int .i64 R1) ∧ Below V.heap.size V w'))
    (HR2 : Hid (∀ (V : World) (g1 g2 : Nat), V.heap[g1]? = some (.cells #[.int .i64 c, .int .i64 h, .int .i64 t, .int .i64 i, .int .i64 p] 3 (0, 0)) → V.heap[g2]? = some (.cells #[.int .i64 c2, .int .i64 h, .int .i64 t, .int .i64 i, .int .i64 p] 3 (0, 0)) → Calls Tryd.prog 12 #[.slice (some ⟨g1, 0, none⟩) 5 5, .slice (some ⟨g2, 0, none⟩) 5 5] V fun e w' => e = .returned (.int .i64 R2) ∧ Below V.heap.size V w'))
    (HL : Hid (∀ V, Below w.heap.size w V → Calls Tryd.prog 13 #[] V fun e w' => e = .returned (.bool true) ∧ Below V.heap.size V w')) :
    Calls Tryd.prog 3 #[.agg #[.int .i64 c, .int .i64 h, .int .i64 t, .int .i64 i, .int .i64 p], .agg #[.int .i64 c2, .int .i64 h2, .int .i64 t2, .int .i64 i2, .int .i64 p2], .int .i64 n] w fun e w' => e = .returned (.bool true) ∧ Below w.heap.size w w' := by
  obtain ⟨U, hU, hb0, kx, ky, hlt0⟩ := two_boxes w (.cells #[.int .i64 c, .int .i64 h, .int .i64 t, .int .i64 i, .int .i64 p] 25) (.cells #[.int .i64 c2, .int .i64 h2, .int .i64 t2, .int .i64 i2, .int .i64 p2] 25)
  obtain ⟨U2, hU2⟩ : ∃ V, U.alloc (.cells #[.int .i64 c, .int .i64 h, .int .i64 t, .int .i64 i, .int .i64 p] 25) = V := ⟨_, rfl⟩
  have hb2 : Below U.heap.size U U2 := hU2 ▸ one_box U _
  have hz2 : U.heap.size < U2.heap.size := by rw [← hU2]; simp
  have kz2 : U2.heap[U.heap.size]? = some (.cells #[.int .i64 c, .int .i64 h, .int .i64 t, .int .i64 i, .int .i64 p] 25 (0, 0)) := by rw [← hU2]; exact new_at rfl
  have kx2 := (hb2.block _ (by omega)).trans kx
  have ky2 := (hb2.block _ hlt0).trans ky
  have kx3 : (U2.setCell ⟨U.heap.size, 0, none⟩ (.int .i64 c2)).heap[w.heap.size]? = some (.cells #[.int .i64 c, .int .i64 h, .int .i64 t, .int .i64 i, .int .i64 p] 25 (0, 0)) := (other_set (by omega)).trans kx2
  have ky3 : (U2.setCell ⟨U.heap.size, 0, none⟩ (.int .i64 c2)).heap[w.heap.size + 1]? = some (.cells #[.int .i64 c2, .int .i64 h2, .int .i64 t2, .int .i64 i2, .int .i64 p2] 25 (0, 0)) := (other_set (by omega)).trans ky2
  have kz3 : (U2.setCell ⟨U.heap.size, 0, none⟩ (.int .i64 c2)).heap[U.heap.size]? = some (.cells #[.int .i64 c2, .int .i64 h, .int .i64 t, .int .i64 i, .int .i64 p] 25 (0, 0)) := cell_set kz2
  have hb3 : Below w.heap.size w (U2.setCell ⟨U.heap.size, 0, none⟩ (.int .i64 c2)) := (hb0.trans (hb2.mono hb0.size)).trans ((Below.refl _ U2).setCell (by have := hb0.size; omega) _)
  have hs3 : U2.heap.size = (U2.setCell ⟨U.heap.size, 0, none⟩ (.int .i64 c2)).heap.size := by simp [World.setCell]
  have HX3 := Lib.hid (And.intro kx3 (And.intro ky3 (And.intro kz3 hb3)))
  have HLT := Lib.hid (And.intro hlt0 (And.intro hz2 hs3))
  obtain ⟨u0, u1, u2, u3, u4⟩ := row5 kx
  obtain ⟨dx0, dx1, dx2, dx3, dx4⟩ := row5 kx2
  obtain ⟨dy0, dy1, dy2, dy3, dy4⟩ := row5 ky2
  obtain ⟨dz0, dz1, dz2, dz3, dz4⟩ := row5 kz2
  obtain ⟨v0, v1, v2, v3, v4⟩ := row5 kx3
  have fz := froz kz2 0
  clear kx ky kx2 ky2 kz2 kx3 ky3 kz3 hb0 hb2 hb3 hs3
  go_enter Tryd.func3, Tryd.ntmps3
  go_wp2_with (go_at_call 9; refine (HA.out _).mono ?_; rintro e w1 ⟨rfl, rfl⟩)
  clear hU hU2 u0 u1 u2 u3 u4 dx0 dx1 dx2 dx3 dx4 dy0 dy1 dy2 dy3 dy4 dz0 dz1 dz2 dz3 dz4 v0 v1 v2 v3 v4 fz
  obtain ⟨kx3, ky3, kz3, hb3⟩ := HX3.out
  obtain ⟨hlt0, hz2, hs3⟩ := HLT.out
  obtain ⟨V8, hV8⟩ : ∃ V, (U2.setCell ⟨U.heap.size, 0, none⟩ (.int .i64 c2)) = V := ⟨_, rfl⟩
  clear HX3 HLT
  rw [hV8] at kx3 ky3 kz3 hb3 hs3 ⊢
  clear hV8
  refine (msgKey_any _ _ _ _ _ _).mono ?_
  rintro e w9 ⟨⟨g8, rfl, k8⟩, hb9⟩
  have HB := Lib.hid (hb3.trans (hb9.mono hb3.size))
  have HK := Lib.hid (fun (V : World) (hV : Below w9.heap.size w9 V) => And.intro (row5 ((hV.block _ (by have := hb9.size; omega)).trans ((hb9.block _ (by omega)).trans kx3))) (And.intro (row5 ((hV.block _ (by have := hb9.size; omega)).trans ((hb9.block _ (by omega)).trans ky3))) (row5 ((hV.block _ (by have := hb9.size; omega)).trans ((hb9.block _ (by omega)).trans kz3)))))
  have H8 := Lib.hid (fun (V : World) (hV : Below w9.heap.size w9 V) => (hV.block _ (heap_lt k8)).trans k8)
  clear kx3 ky3 kz3 hb3 k8 hb9 hlt0 hz2 hs3
  go_wp2_with fail
  refine RgQ.region_specs 22 (fun i => (if i = 21 then 6 else 43 + i)) (fun ix_ => match ix_ with | 0 => .val (.agg #[.int .i64 c, .int .i64 h, .int .i64 t, .int .i64 i, .int .i64 p]) | 1 => .val (.agg #[.int .i64 c2, .int .i64 h2, .int .i64 t2, .int .i64 i2, .int .i64 p2]) | 2 => .val (.int .i64 R1) | 3 => .val (.slice (some ⟨g8, 0, none⟩) 5 5) | 4 => .val (.agg #[.int .i64 c2, .int .i64 h2, .int .i64 t2, .int .i64 i2, .int .i64 p2]) | 5 => .row #[.int .i64 c2, .int .i64 h2, .int .i64 t2, .int .i64 i2, .int .i64 p2] 3 5 | 6 => .val (.int .i64 R1) | 7 => .val (.bool true) | 8 => .val (.bool true) | 9 => .val (.agg #[.int .i64 c, .int .i64 h, .int .i64 t, .int .i64 i, .int .i64 p]) | 10 => .val (.agg #[.int .i64 c2, .int .i64 h, .int .i64 t, .int .i64 i, .int .i64 p]) | 11 => .val (.int .i64 R2) | 12 => .val (.slice (some ⟨g8, 0, none⟩) 5 5) | 13 => .val (.agg #[.int .i64 c2, .int .i64 h, .int .i64 t, .int .i64 i, .int .i64 p]) | 14 => .row #[.int .i64 c2, .int .i64 h, .int .i64 t, .int .i64 i, .int .i64 p] 3 5 | 15 => .val (.int .i64 R2) | 16 => .val (.bool true) | 17 => .val (.bool true) | 18 => .val (.bool true) | 19 => .val (.bool true) | 20 => .val (.bool true) | 21 => .val (.bool true) | _ => .val undef) (by kernel_rfl) rfl (by kernel_rfl) (fun i hi => by show (if i = 21 then 6 else 43 + i) < 64; (repeat' split) <;> omega) (fun i j hi hj => by show (if i = 21 then 6 else 43 + i) = (if j = 21 then 6 else 43 + j) → i = j; (repeat' split) <;> omega) ?step ?fin
  case step =>
    intro listed A_ w3 ix op_ hI ho hdep
    have hi : ix < 22 := (Array.getElem?_eq_some_iff.1 ho).1
    have hcase : ix = 0 ∨ ix = 1 ∨ ix = 2 ∨ ix = 3 ∨ ix = 4 ∨ ix = 5 ∨ ix = 6 ∨ ix = 7 ∨ ix = 8 ∨ ix = 9 ∨ ix = 10 ∨ ix = 11 ∨ ix = 12 ∨ ix = 13 ∨ ix = 14 ∨ ix = 15 ∨ ix = 16 ∨ ix = 17 ∨ ix = 18 ∨ ix = 19 ∨ ix = 20 ∨ ix = 21 := by omega
    have hh := hI.held
    clear hi
    rcases hcase with rfl | rfl | rfl | rfl | rfl | rfl | rfl | rfl | rfl | rfl | rfl | rfl | rfl | rfl | rfl | rfl | rfl | rfl | rfl | rfl | rfl | rfl
    · simp only [List.getElem?_toArray, List.getElem?_cons_zero, Option.some.injEq] at ho
      subst ho
      refine ⟨rfl, ?_⟩
      have e3 : A_.tmps[3]?.getD undef = .pointer (some ⟨w.heap.size, 0, none⟩) := by rw [hI.low 3 (by decide)]; rfl
      clear hI hdep
      obtain ⟨⟨dx0, dx1, dx2, dx3, dx4⟩, ⟨dy0, dy1, dy2, dy3, dy4⟩, dz0, dz1, dz2, dz3, dz4⟩ := HK.out w3 hh
      exact .run rfl (.agg #[.int .i64 c, .int .i64 h, .int .i64 t, .int .i64 i, .int .i64 p]) w3 (by simp [execOp, go_sem, Act.eval, *]) (Below.refl _ _) rfl
    · simp only [List.getElem?_toArray, List.getElem?_cons_succ, List.getElem?_cons_zero, Option.some.injEq] at ho
      subst ho
      refine ⟨rfl, ?_⟩
      have e4 : A_.tmps[4]?.getD undef = .pointer (some ⟨w.heap.size + 1, 0, none⟩) := by rw [hI.low 4 (by decide)]; rfl
      clear hI hdep
      obtain ⟨⟨dx0, dx1, dx2, dx3, dx4⟩, ⟨dy0, dy1, dy2, dy3, dy4⟩, dz0, dz1, dz2, dz3, dz4⟩ := HK.out w3 hh
      exact .run rfl (.agg #[.int .i64 c2, .int .i64 h2, .int .i64 t2, .int .i64 i2, .int .i64 p2]) w3 (by simp [execOp, go_sem, Act.eval, *]) (Below.refl _ _) rfl
    · simp only [List.getElem?_toArray, List.getElem?_cons_succ, List.getElem?_cons_zero, Option.some.injEq] at ho
      subst ho
      refine ⟨rfl, ?_⟩
      have e43 : A_.tmps[43]?.getD undef = .agg #[.int .i64 c, .int .i64 h, .int .i64 t, .int .i64 i, .int .i64 p] := getD_of (hI.val_ (i := 0) rfl rfl (by decide) (hdep ⟨0, .data⟩ (by simp) rfl))
      have e44 : A_.tmps[44]?.getD undef = .agg #[.int .i64 c2, .int .i64 h2, .int .i64 t2, .int .i64 i2, .int .i64 p2] := getD_of (hI.val_ (i := 1) rfl rfl (by decide) (hdep ⟨1, .data⟩ (by simp) rfl))
      clear hI hdep
      exact .call rfl 11 #[.agg #[.int .i64 c, .int .i64 h, .int .i64 t, .int .i64 i, .int .i64 p], .agg #[.int .i64 c2, .int .i64 h2, .int .i64 t2, .int .i64 i2, .int .i64 p2]] (.int .i64 R1) (by simp [go_sem, Act.eval, e43, e44]) rfl (HC1.out w3)
    · simp only [List.getElem?_toArray, List.getElem?_cons_succ, List.getElem?_cons_zero, Option.some.injEq] at ho
      subst ho
      refine ⟨rfl, ?_⟩
      have e8 : A_.tmps[8]?.getD undef = .slice (some ⟨g8, 0, none⟩) 5 5 := by rw [hI.low 8 (by decide)]; rfl
      clear hI hdep
      exact .run rfl (.slice (some ⟨g8, 0, none⟩) 5 5) w3 (by simp [execOp, go_sem, Act.eval, e8]) (Below.refl _ _) rfl
    · simp only [List.getElem?_toArray, List.getElem?_cons_succ, List.getElem?_cons_zero, Option.some.injEq] at ho
      subst ho
      refine ⟨rfl, ?_⟩
      have e4 : A_.tmps[4]?.getD undef = .pointer (some ⟨w.heap.size + 1, 0, none⟩) := by rw [hI.low 4 (by decide)]; rfl
      clear hI hdep
      obtain ⟨⟨dx0, dx1, dx2, dx3, dx4⟩, ⟨dy0, dy1, dy2, dy3, dy4⟩, dz0, dz1, dz2, dz3, dz4⟩ := HK.out w3 hh
      exact .run rfl (.agg #[.int .i64 c2, .int .i64 h2, .int .i64 t2, .int .i64 i2, .int .i64 p2]) w3 (by simp [execOp, go_sem, Act.eval, *]) (Below.refl _ _) rfl
    · simp only [List.getElem?_toArray, List.getElem?_cons_succ, List.getElem?_cons_zero, Option.some.injEq] at ho
      subst ho
      refine ⟨rfl, ?_⟩
      have e47 : A_.tmps[47]?.getD undef = .agg #[.int .i64 c2, .int .i64 h2, .int .i64 t2, .int .i64 i2, .int .i64 p2] := getD_of (hI.val_ (i := 4) rfl rfl (by decide) (hdep ⟨4, .data⟩ (by simp) rfl))
      clear hI hdep
      exact .callr rfl 10 #[.agg #[.int .i64 c2, .int .i64 h2, .int .i64 t2, .int .i64 i2, .int .i64 p2]] (by simp [go_sem, Act.eval, e47]) (key_row _ _ _ _ _ w3)
    · simp only [List.getElem?_toArray, List.getElem?_cons_succ, List.getElem?_cons_zero, Option.some.injEq] at ho
      subst ho
      refine ⟨rfl, ?_⟩
      have e46 : A_.tmps[46]?.getD undef = .slice (some ⟨g8, 0, none⟩) 5 5 := getD_of (hI.val_ (i := 3) rfl rfl (by decide) (hdep ⟨3, .data⟩ (by simp) rfl))
      obtain ⟨g48, e48, r48⟩ := hI.row_ (i := 5) (j := 48) rfl rfl (by decide) (hdep ⟨5, .data⟩ (by simp) rfl)
      clear hI hdep
      exact .call rfl 12 #[.slice (some ⟨g8, 0, none⟩) 5 5, .slice (some ⟨g48, 0, none⟩) 5 5] (.int .i64 R1) (by simp [go_sem, Act.eval, e46, e48]) rfl (HR1.out w3 g8 g48 (H8.out w3 hh) r48)
    · simp only [List.getElem?_toArray, List.getElem?_cons_succ, List.getElem?_cons_zero, Option.some.injEq] at ho
      subst ho
      refine ⟨rfl, ?_⟩
      have e45 : A_.tmps[45]?.getD undef = .int .i64 R1 := getD_of (hI.val_ (i := 2) rfl rfl (by decide) (hdep ⟨2, .data⟩ (by simp) rfl))
      have e49 : A_.tmps[49]?.getD undef = .int .i64 R1 := getD_of (hI.val_ (i := 6) rfl rfl (by decide) (hdep ⟨6, .data⟩ (by simp) rfl))
      clear hI hdep
      exact .run rfl (.bool true) w3 (by simp [execOp, go_sem, Act.eval, *]) (Below.refl _ _) rfl
    · simp only [List.getElem?_toArray, List.getElem?_cons_succ, List.getElem?_cons_zero, Option.some.injEq] at ho
      subst ho
      refine ⟨rfl, ?_⟩
      have e50 : A_.tmps[50]?.getD undef = .bool true := getD_of (hI.val_ (i := 7) rfl rfl (by decide) (hdep ⟨7, .data⟩ (by simp) rfl))
      clear hI hdep
      exact .run rfl (.bool true) w3 (by simp [execOp, go_sem, Act.eval, e50]) (Below.refl _ _) rfl
    · simp only [List.getElem?_toArray, List.getElem?_cons_succ, List.getElem?_cons_zero, Option.some.injEq] at ho
      subst ho
      refine ⟨rfl, ?_⟩
      have q51 : A_.tmps[51]? = some (.bool true) := hI.val_ (i := 8) rfl rfl (by decide) (hdep ⟨8, .guard⟩ (by simp) rfl)
      have e3 : A_.tmps[3]?.getD undef = .pointer (some ⟨w.heap.size, 0, none⟩) := by rw [hI.low 3 (by decide)]; rfl
      clear hI hdep
      obtain ⟨⟨dx0, dx1, dx2, dx3, dx4⟩, ⟨dy0, dy1, dy2, dy3, dy4⟩, dz0, dz1, dz2, dz3, dz4⟩ := HK.out w3 hh
      exact .run ((wanted_some rfl rfl q51).trans rfl) (.agg #[.int .i64 c, .int .i64 h, .int .i64 t, .int .i64 i, .int .i64 p]) w3 (by simp [execOp, go_sem, Act.eval, *]) (Below.refl _ _) rfl
    · simp only [List.getElem?_toArray, List.getElem?_cons_succ, List.getElem?_cons_zero, Option.some.injEq] at ho
      subst ho
      refine ⟨rfl, ?_⟩
      have q51 : A_.tmps[51]? = some (.bool true) := hI.val_ (i := 8) rfl rfl (by decide) (hdep ⟨8, .guard⟩ (by simp) rfl)
      have e7 : A_.tmps[7]?.getD undef = .pointer (some ⟨U.heap.size, 0, none⟩) := by rw [hI.low 7 (by decide)]; rfl
      clear hI hdep
      obtain ⟨⟨dx0, dx1, dx2, dx3, dx4⟩, ⟨dy0, dy1, dy2, dy3, dy4⟩, dz0, dz1, dz2, dz3, dz4⟩ := HK.out w3 hh
      exact .run ((wanted_some rfl rfl q51).trans rfl) (.agg #[.int .i64 c2, .int .i64 h, .int .i64 t, .int .i64 i, .int .i64 p]) w3 (by simp [execOp, go_sem, Act.eval, *]) (Below.refl _ _) rfl
    · simp only [List.getElem?_toArray, List.getElem?_cons_succ, List.getElem?_cons_zero, Option.some.injEq] at ho
      subst ho
      refine ⟨rfl, ?_⟩
      have q51 : A_.tmps[51]? = some (.bool true) := hI.val_ (i := 8) rfl rfl (by decide) (hdep ⟨8, .guard⟩ (by simp) rfl)
      have e52 : A_.tmps[52]?.getD undef = .agg #[.int .i64 c, .int .i64 h, .int .i64 t, .int .i64 i, .int .i64 p] := getD_of (hI.val_ (i := 9) rfl rfl (by decide) (hdep ⟨9, .data⟩ (by simp) rfl))
      have e53 : A_.tmps[53]?.getD undef = .agg #[.int .i64 c2, .int .i64 h, .int .i64 t, .int .i64 i, .int .i64 p] := getD_of (hI.val_ (i := 10) rfl rfl (by decide) (hdep ⟨10, .data⟩ (by simp) rfl))
      clear hI hdep
      exact .call ((wanted_some rfl rfl q51).trans rfl) 11 #[.agg #[.int .i64 c, .int .i64 h, .int .i64 t, .int .i64 i, .int .i64 p], .agg #[.int .i64 c2, .int .i64 h, .int .i64 t, .int .i64 i, .int .i64 p]] (.int .i64 R2) (by simp [go_sem, Act.eval, e52, e53]) rfl (HC2.out w3)
    · simp only [List.getElem?_toArray, List.getElem?_cons_succ, List.getElem?_cons_zero, Option.some.injEq] at ho
      subst ho
      refine ⟨rfl, ?_⟩
      have q51 : A_.tmps[51]? = some (.bool true) := hI.val_ (i := 8) rfl rfl (by decide) (hdep ⟨8, .guard⟩ (by simp) rfl)
      have e8 : A_.tmps[8]?.getD undef = .slice (some ⟨g8, 0, none⟩) 5 5 := by rw [hI.low 8 (by decide)]; rfl
      clear hI hdep
      exact .run ((wanted_some rfl rfl q51).trans rfl) (.slice (some ⟨g8, 0, none⟩) 5 5) w3 (by simp [execOp, go_sem, Act.eval, e8]) (Below.refl _ _) rfl
    · simp only [List.getElem?_toArray, List.getElem?_cons_succ, List.getElem?_cons_zero, Option.some.injEq] at ho
      subst ho
      refine ⟨rfl, ?_⟩
      have q51 : A_.tmps[51]? = some (.bool true) := hI.val_ (i := 8) rfl rfl (by decide) (hdep ⟨8, .guard⟩ (by simp) rfl)
      have e7 : A_.tmps[7]?.getD undef = .pointer (some ⟨U.heap.size, 0, none⟩) := by rw [hI.low 7 (by decide)]; rfl
      clear hI hdep
      obtain ⟨⟨dx0, dx1, dx2, dx3, dx4⟩, ⟨dy0, dy1, dy2, dy3, dy4⟩, dz0, dz1, dz2, dz3, dz4⟩ := HK.out w3 hh
      exact .run ((wanted_some rfl rfl q51).trans rfl) (.agg #[.int .i64 c2, .int .i64 h, .int .i64 t, .int .i64 i, .int .i64 p]) w3 (by simp [execOp, go_sem, Act.eval, *]) (Below.refl _ _) rfl
    · simp only [List.getElem?_toArray, List.getElem?_cons_succ, List.getElem?_cons_zero, Option.some.injEq] at ho
      subst ho
      refine ⟨rfl, ?_⟩
      have q51 : A_.tmps[51]? = some (.bool true) := hI.val_ (i := 8) rfl rfl (by decide) (hdep ⟨8, .guard⟩ (by simp) rfl)
      have e56 : A_.tmps[56]?.getD undef = .agg #[.int .i64 c2, .int .i64 h, .int .i64 t, .int .i64 i, .int .i64 p] := getD_of (hI.val_ (i := 13) rfl rfl (by decide) (hdep ⟨13, .data⟩ (by simp) rfl))
      clear hI hdep
      exact .callr ((wanted_some rfl rfl q51).trans rfl) 10 #[.agg #[.int .i64 c2, .int .i64 h, .int .i64 t, .int .i64 i, .int .i64 p]] (by simp [go_sem, Act.eval, e56]) (key_row _ _ _ _ _ w3)
    · simp only [List.getElem?_toArray, List.getElem?_cons_succ, List.getElem?_cons_zero, Option.some.injEq] at ho
      subst ho
      refine ⟨rfl, ?_⟩
      have q51 : A_.tmps[51]? = some (.bool true) := hI.val_ (i := 8) rfl rfl (by decide) (hdep ⟨8, .guard⟩ (by simp) rfl)
      have e55 : A_.tmps[55]?.getD undef = .slice (some ⟨g8, 0, none⟩) 5 5 := getD_of (hI.val_ (i := 12) rfl rfl (by decide) (hdep ⟨12, .data⟩ (by simp) rfl))
      obtain ⟨g57, e57, r57⟩ := hI.row_ (i := 14) (j := 57) rfl rfl (by decide) (hdep ⟨14, .data⟩ (by simp) rfl)
      clear hI hdep
      exact .call ((wanted_some rfl rfl q51).trans rfl) 12 #[.slice (some ⟨g8, 0, none⟩) 5 5, .slice (some ⟨g57, 0, none⟩) 5 5] (.int .i64 R2) (by simp [go_sem, Act.eval, e55, e57]) rfl (HR2.out w3 g8 g57 (H8.out w3 hh) r57)
    · simp only [List.getElem?_toArray, List.getElem?_cons_succ, List.getElem?_cons_zero, Option.some.injEq] at ho
      subst ho
      refine ⟨rfl, ?_⟩
      have q51 : A_.tmps[51]? = some (.bool true) := hI.val_ (i := 8) rfl rfl (by decide) (hdep ⟨8, .guard⟩ (by simp) rfl)
      have e54 : A_.tmps[54]?.getD undef = .int .i64 R2 := getD_of (hI.val_ (i := 11) rfl rfl (by decide) (hdep ⟨11, .data⟩ (by simp) rfl))
      have e58 : A_.tmps[58]?.getD undef = .int .i64 R2 := getD_of (hI.val_ (i := 15) rfl rfl (by decide) (hdep ⟨15, .data⟩ (by simp) rfl))
      clear hI hdep
      exact .run ((wanted_some rfl rfl q51).trans rfl) (.bool true) w3 (by simp [execOp, go_sem, Act.eval, *]) (Below.refl _ _) rfl
    · simp only [List.getElem?_toArray, List.getElem?_cons_succ, List.getElem?_cons_zero, Option.some.injEq] at ho
      subst ho
      refine ⟨rfl, ?_⟩
      have e51 : A_.tmps[51]?.getD undef = .bool true := getD_of (hI.val_ (i := 8) rfl rfl (by decide) (hdep ⟨8, .data⟩ (by simp) rfl))
      have e59 : A_.tmps[59]?.getD undef = .bool true := getD_of (hI.val_ (i := 16) rfl rfl (by decide) (hdep ⟨16, .data⟩ (by simp) rfl))
      clear hI hdep
      exact .run rfl (.bool true) w3 (by simp [execOp, go_sem, Act.eval, e51, e59]) (Below.refl _ _) rfl
    · simp only [List.getElem?_toArray, List.getElem?_cons_succ, List.getElem?_cons_zero, Option.some.injEq] at ho
      subst ho
      refine ⟨rfl, ?_⟩
      have e60 : A_.tmps[60]?.getD undef = .bool true := getD_of (hI.val_ (i := 17) rfl rfl (by decide) (hdep ⟨17, .data⟩ (by simp) rfl))
      clear hI hdep
      exact .run rfl (.bool true) w3 (by simp [execOp, go_sem, Act.eval, e60]) (Below.refl _ _) rfl
    · simp only [List.getElem?_toArray, List.getElem?_cons_succ, List.getElem?_cons_zero, Option.some.injEq] at ho
      subst ho
      refine ⟨rfl, ?_⟩
      have q61 : A_.tmps[61]? = some (.bool true) := hI.val_ (i := 18) rfl rfl (by decide) (hdep ⟨18, .guard⟩ (by simp) rfl)
      clear hI hdep
      exact .call ((wanted_some rfl rfl q61).trans rfl) 13 #[] (.bool true) (by simp [go_sem]) rfl (HL.out w3 (HB.out.trans (hh.mono HB.out.size)))
    · simp only [List.getElem?_toArray, List.getElem?_cons_succ, List.getElem?_cons_zero, Option.some.injEq] at ho
      subst ho
      refine ⟨rfl, ?_⟩
      have e61 : A_.tmps[61]?.getD undef = .bool true := getD_of (hI.val_ (i := 18) rfl rfl (by decide) (hdep ⟨18, .data⟩ (by simp) rfl))
      have e62 : A_.tmps[62]?.getD undef = .bool true := getD_of (hI.val_ (i := 19) rfl rfl (by decide) (hdep ⟨19, .data⟩ (by simp) rfl))
      clear hI hdep
      exact .run rfl (.bool true) w3 (by simp [execOp, go_sem, Act.eval, e61, e62]) (Below.refl _ _) rfl
    · simp only [List.getElem?_toArray, List.getElem?_cons_succ, List.getElem?_cons_zero, Option.some.injEq] at ho
      subst ho
      refine ⟨rfl, ?_⟩
      have e63 : A_.tmps[63]?.getD undef = .bool true := getD_of (hI.val_ (i := 20) rfl rfl (by decide) (hdep ⟨20, .data⟩ (by simp) rfl))
      clear hI hdep
      exact .run rfl (.bool true) w3 (by simp [execOp, go_sem, Act.eval, e63]) (Below.refl _ _) rfl
  case fin =>
  intro A_ w3 hs hd hlow hS hok
  obtain ⟨y48, hy48⟩ := RgQ.row_at (hok 5 48 _ (by decide) rfl rfl)
  obtain ⟨y57, hy57⟩ := RgQ.row_at (hok 14 57 _ (by decide) rfl rfl)
  obtain rfl : A_ = ⟨#[.agg #[.int .i64 c, .int .i64 h, .int .i64 t, .int .i64 i, .int .i64 p], .agg #[.int .i64 c2, .int .i64 h2, .int .i64 t2, .int .i64 i2, .int .i64 p2], .int .i64 n, .pointer (some ⟨w.heap.size, 0, none⟩), .pointer (some ⟨w.heap.size + 1, 0, none⟩), undef, .bool true, .pointer (some ⟨U.heap.size, 0, none⟩), .slice (some ⟨g8, 0, none⟩) 5 5, .agg #[.int .i64 c, .int .i64 h, .int .i64 t, .int .i64 i, .int .i64 p], .int .i64 n, .int .i64 0, undef, undef, undef, .bool true, .bool true, .pointer (some ⟨w.heap.size + 1, 0, none⟩), .pointer (some ⟨w.heap.size + 1, 0, none⟩), .int .i64 c2, .pointer (some ⟨U.heap.size, 0, none⟩), .pointer (some ⟨U.heap.size, 0, none⟩), undef, undef, undef, undef, undef, undef, undef, undef, undef, undef, undef, undef, undef, undef, undef, undef, undef, undef, undef, .agg #[.int .i64 c, .int .i64 h, .int .i64 t, .int .i64 i, .int .i64 p], .slice (some ⟨g8, 0, none⟩) 5 5, .agg #[.int .i64 c, .int .i64 h, .int .i64 t, .int .i64 i, .int .i64 p], .agg #[.int .i64 c2, .int .i64 h2, .int .i64 t2, .int .i64 i2, .int .i64 p2], .int .i64 R1, .slice (some ⟨g8, 0, none⟩) 5 5, .agg #[.int .i64 c2, .int .i64 h2, .int .i64 t2, .int .i64 i2, .int .i64 p2], y48, .int .i64 R1, .bool true, .bool true, .agg #[.int .i64 c, .int .i64 h, .int .i64 t, .int .i64 i, .int .i64 p], .agg #[.int .i64 c2, .int .i64 h, .int .i64 t, .int .i64 i, .int .i64 p], .int .i64 R2, .slice (some ⟨g8, 0, none⟩) 5 5, .agg #[.int .i64 c2, .int .i64 h, .int .i64 t, .int .i64 i, .int .i64 p], y57, .int .i64 R2, .bool true, .bool true, .bool true, .bool true, .bool true], []⟩ := act_ext hd hs (fun j hj => match j, hj with | 0, _ => (hlow 0 (by decide)).trans rfl | 1, _ => (hlow 1 (by decide)).trans rfl | 2, _ => (hlow 2 (by decide)).trans rfl | 3, _ => (hlow 3 (by decide)).trans rfl | 4, _ => (hlow 4 (by decide)).trans rfl | 5, _ => (hlow 5 (by decide)).trans rfl | 6, _ => RgQ.val_at (hok 21 6 _ (by decide) rfl rfl) | 7, _ => (hlow 7 (by decide)).trans rfl | 8, _ => (hlow 8 (by decide)).trans rfl | 9, _ => (hlow 9 (by decide)).trans rfl | 10, _ => (hlow 10 (by decide)).trans rfl | 11, _ => (hlow 11 (by decide)).trans rfl | 12, _ => (hlow 12 (by decide)).trans rfl | 13, _ => (hlow 13 (by decide)).trans rfl | 14, _ => (hlow 14 (by decide)).trans rfl | 15, _ => (hlow 15 (by decide)).trans rfl | 16, _ => (hlow 16 (by decide)).trans rfl | 17, _ => (hlow 17 (by decide)).trans rfl | 18, _ => (hlow 18 (by decide)).trans rfl | 19, _ => (hlow 19 (by decide)).trans rfl | 20, _ => (hlow 20 (by decide)).trans rfl | 21, _ => (hlow 21 (by decide)).trans rfl | 22, _ => (hlow 22 (by decide)).trans rfl | 23, _ => (hlow 23 (by decide)).trans rfl | 24, _ => (hlow 24 (by decide)).trans rfl | 25, _ => (hlow 25 (by decide)).trans rfl | 26, _ => (hlow 26 (by decide)).trans rfl | 27, _ => (hlow 27 (by decide)).trans rfl | 28, _ => (hlow 28 (by decide)).trans rfl | 29, _ => (hlow 29 (by decide)).trans rfl | 30, _ => (hlow 30 (by decide)).trans rfl | 31, _ => (hlow 31 (by decide)).trans rfl | 32, _ => (hlow 32 (by decide)).trans rfl | 33, _ => (hlow 33 (by decide)).trans rfl | 34, _ => (hlow 34 (by decide)).trans rfl | 35, _ => (hlow 35 (by decide)).trans rfl | 36, _ => (hlow 36 (by decide)).trans rfl | 37, _ => (hlow 37 (by decide)).trans rfl | 38, _ => (hlow 38 (by decide)).trans rfl | 39, _ => (hlow 39 (by decide)).trans rfl | 40, _ => (hlow 40 (by decide)).trans rfl | 41, _ => (hlow 41 (by decide)).trans rfl | 42, _ => (hlow 42 (by decide)).trans rfl | 43, _ => RgQ.val_at (hok 0 43 _ (by decide) rfl rfl) | 44, _ => RgQ.val_at (hok 1 44 _ (by decide) rfl rfl) | 45, _ => RgQ.val_at (hok 2 45 _ (by decide) rfl rfl) | 46, _ => RgQ.val_at (hok 3 46 _ (by decide) rfl rfl) | 47, _ => RgQ.val_at (hok 4 47 _ (by decide) rfl rfl) | 48, _ => hy48 | 49, _ => RgQ.val_at (hok 6 49 _ (by decide) rfl rfl) | 50, _ => RgQ.val_at (hok 7 50 _ (by decide) rfl rfl) | 51, _ => RgQ.val_at (hok 8 51 _ (by decide) rfl rfl) | 52, _ => RgQ.val_at (hok 9 52 _ (by decide) rfl rfl) | 53, _ => RgQ.val_at (hok 10 53 _ (by decide) rfl rfl) | 54, _ => RgQ.val_at (hok 11 54 _ (by decide) rfl rfl) | 55, _ => RgQ.val_at (hok 12 55 _ (by decide) rfl rfl) | 56, _ => RgQ.val_at (hok 13 56 _ (by decide) rfl rfl) | 57, _ => hy57 | 58, _ => RgQ.val_at (hok 15 58 _ (by decide) rfl rfl) | 59, _ => RgQ.val_at (hok 16 59 _ (by decide) rfl rfl) | 60, _ => RgQ.val_at (hok 17 60 _ (by decide) rfl rfl) | 61, _ => RgQ.val_at (hok 18 61 _ (by decide) rfl rfl) | 62, _ => RgQ.val_at (hok 19 62 _ (by decide) rfl rfl) | 63, _ => RgQ.val_at (hok 20 63 _ (by decide) rfl rfl) | n + 64, h => absurd h (by show ¬ n + 64 < 64; omega))
  clear hs hd hlow hok hy48 hy57
  go_wp2_with fail
  go_ret
  exact ⟨rfl, HB.out.trans (hS.mono HB.out.size)⟩
set_option maxHeartbeats 4000000 in
set_option maxRecDepth 100000 in
theorem walk_1 (c h t i p c2 h2 t2 i2 p2 n R1 R2 : Int) (w : World)
    (HA : Hid (∀ V, Calls Tryd.prog 9 #[.int .i64 n, .int .i64 5] V fun e w' => e = .returned (.int .i64 1) ∧ V = w'))
    (HC1 : Hid (∀ V, Calls Tryd.prog 11 #[.agg #[.int .i64 c, .int .i64 h, .int .i64 t, .int .i64 i, .int .i64 p], .agg #[.int .i64 c2, .int .i64 h2, .int .i64 t2, .int .i64 i2, .int .i64 p2]] V fun e w' => e = .returned (.int .i64 R1) ∧ Below V.heap.size V w'))
    (HC2 : Hid (∀ V, Calls Tryd.prog 11 #[.agg #[.int .i64 c, .int .i64 h, .int .i64 t, .int .i64 i, .int .i64 p], .agg #[.int .i64 c, .int .i64 h2, .int .i64 t, .int .i64 i, .int .i64 p]] V fun e w' => e = .returned (.int .i64 R2) ∧ Below V.heap.size V w'))
    (HR1 : Hid (∀ (V : World) (g1 g2 : Nat), V.heap[g1]? = some (.cells #[.int .i64 c, .int .i64 h, .int .i64 t, .int .i64 i, .int .i64 p] 3 (0, 0)) → V.heap[g2]? = some (.cells #[.int .i64 c2, .int .i64 h2, .int .i64 t2, .int .i64 i2, .int .i64 p2] 3 (0, 0)) → Calls Tryd.prog 12 #[.slice (some ⟨g1, 0, none⟩) 5 5, .slice (some ⟨g2, 0, none⟩) 5 5] V fun e w' => e = .returned (.int .i64 R1) ∧ Below V.heap.size V w'))
    (HR2 : Hid (∀ (V : World) (g1 g2 : Nat), V.heap[g1]? = some (.cells #[.int .i64 c, .int .i64 h, .int .i64 t, .int .i64 i, .int .i64 p] 3 (0, 0)) → V.heap[g2]? = some (.cells #[.int .i64 c, .int .i64 h2, .int .i64 t, .int .i64 i, .int .i64 p] 3 (0, 0)) → Calls Tryd.prog 12 #[.slice (some ⟨g1, 0, none⟩) 5 5, .slice (some ⟨g2, 0, none⟩) 5 5] V fun e w' => e = .returned (.int .i64 R2) ∧ Below V.heap.size V w'))
    (HL : Hid (∀ V, Below w.heap.size w V → Calls Tryd.prog 13 #[] V fun e w' => e = .returned (.bool true) ∧ Below V.heap.size V w')) :
    Calls Tryd.prog 3 #[.agg #[.int .i64 c, .int .i64 h, .int .i64 t, .int .i64 i, .int .i64 p], .agg #[.int .i64 c2, .int .i64 h2, .int .i64 t2, .int .i64 i2, .int .i64 p2], .int .i64 n] w fun e w' => e = .returned (.bool true) ∧ Below w.heap.size w w' := by
  obtain ⟨U, hU, hb0, kx, ky, hlt0⟩ := two_boxes w (.cells #[.int .i64 c, .int .i64 h, .int .i64 t, .int .i64 i, .int .i64 p] 25) (.cells #[.int .i64 c2, .int .i64 h2, .int .i64 t2, .int .i64 i2, .int .i64 p2] 25)
  obtain ⟨U2, hU2⟩ : ∃ V, U.alloc (.cells #[.int .i64 c, .int .i64 h, .int .i64 t, .int .i64 i, .int .i64 p] 25) = V := ⟨_, rfl⟩
  have hb2 : Below U.heap.size U U2 := hU2 ▸ one_box U _
  have hz2 : U.heap.size < U2.heap.size := by rw [← hU2]; simp
  have kz2 : U2.heap[U.heap.size]? = some (.cells #[.int .i64 c, .int .i64 h, .int .i64 t, .int .i64 i, .int .i64 p] 25 (0, 0)) := by rw [← hU2]; exact new_at rfl
  have kx2 := (hb2.block _ (by omega)).trans kx
  have ky2 := (hb2.block _ hlt0).trans ky
  have kx3 : (U2.setCell ⟨U.heap.size, 1, none⟩ (.int .i64 h2)).heap[w.heap.size]? = some (.cells #[.int .i64 c, .int .i64 h, .int .i64 t, .int .i64 i, .int .i64 p] 25 (0, 0)) := (other_set (by omega)).trans kx2
  have ky3 : (U2.setCell ⟨U.heap.size, 1, none⟩ (.int .i64 h2)).heap[w.heap.size + 1]? = some (.cells #[.int .i64 c2, .int .i64 h2, .int .i64 t2, .int .i64 i2, .int .i64 p2] 25 (0, 0)) := (other_set (by omega)).trans ky2
  have kz3 : (U2.setCell ⟨U.heap.size, 1, none⟩ (.int .i64 h2)).heap[U.heap.size]? = some (.cells #[.int .i64 c, .int .i64 h2, .int .i64 t, .int .i64 i, .int .i64 p] 25 (0, 0)) := cell_set kz2
  have hb3 : Below w.heap.size w (U2.setCell ⟨U.heap.size, 1, none⟩ (.int .i64 h2)) := (hb0.trans (hb2.mono hb0.size)).trans ((Below.refl _ U2).setCell (by have := hb0.size; omega) _)
  have hs3 : U2.heap.size = (U2.setCell ⟨U.heap.size, 1, none⟩ (.int .i64 h2)).heap.size := by simp [World.setCell]
  have HX3 := Lib.hid (And.intro kx3 (And.intro ky3 (And.intro kz3 hb3)))
  have HLT := Lib.hid (And.intro hlt0 (And.intro hz2 hs3))
  obtain ⟨u0, u1, u2, u3, u4⟩ := row5 kx
  obtain ⟨dx0, dx1, dx2, dx3, dx4⟩ := row5 kx2
  obtain ⟨dy0, dy1, dy2, dy3, dy4⟩ := row5 ky2
  obtain ⟨dz0, dz1, dz2, dz3, dz4⟩ := row5 kz2
  obtain ⟨v0, v1, v2, v3, v4⟩ := row5 kx3
  have fz := froz kz2 1
  clear kx ky kx2 ky2 kz2 kx3 ky3 kz3 hb0 hb2 hb3 hs3
  go_enter Tryd.func3, Tryd.ntmps3
  go_wp2_with (go_at_call 9; refine (HA.out _).mono ?_; rintro e w1 ⟨rfl, rfl⟩)
  clear hU hU2 u0 u1 u2 u3 u4 dx0 dx1 dx2 dx3 dx4 dy0 dy1 dy2 dy3 dy4 dz0 dz1 dz2 dz3 dz4 v0 v1 v2 v3 v4 fz
  obtain ⟨kx3, ky3, kz3, hb3⟩ := HX3.out
  obtain ⟨hlt0, hz2, hs3⟩ := HLT.out
  obtain ⟨V8, hV8⟩ : ∃ V, (U2.setCell ⟨U.heap.size, 1, none⟩ (.int .i64 h2)) = V := ⟨_, rfl⟩
  clear HX3 HLT
  rw [hV8] at kx3 ky3 kz3 hb3 hs3 ⊢
  clear hV8
  refine (msgKey_any _ _ _ _ _ _).mono ?_
  rintro e w9 ⟨⟨g8, rfl, k8⟩, hb9⟩
  have HB := Lib.hid (hb3.trans (hb9.mono hb3.size))
  have HK := Lib.hid (fun (V : World) (hV : Below w9.heap.size w9 V) => And.intro (row5 ((hV.block _ (by have := hb9.size; omega)).trans ((hb9.block _ (by omega)).trans kx3))) (And.intro (row5 ((hV.block _ (by have := hb9.size; omega)).trans ((hb9.block _ (by omega)).trans ky3))) (row5 ((hV.block _ (by have := hb9.size; omega)).trans ((hb9.block _ (by omega)).trans kz3)))))
  have H8 := Lib.hid (fun (V : World) (hV : Below w9.heap.size w9 V) => (hV.block _ (heap_lt k8)).trans k8)
  clear kx3 ky3 kz3 hb3 k8 hb9 hlt0 hz2 hs3
  go_wp2_with fail
  refine RgQ.region_specs 22 (fun i => (if i = 21 then 6 else 43 + i)) (fun ix_ => match ix_ with | 0 => .val (.agg #[.int .i64 c, .int .i64 h, .int .i64 t, .int .i64 i, .int .i64 p]) | 1 => .val (.agg #[.int .i64 c2, .int .i64 h2, .int .i64 t2, .int .i64 i2, .int .i64 p2]) | 2 => .val (.int .i64 R1) | 3 => .val (.slice (some ⟨g8, 0, none⟩) 5 5) | 4 => .val (.agg #[.int .i64 c2, .int .i64 h2, .int .i64 t2, .int .i64 i2, .int .i64 p2]) | 5 => .row #[.int .i64 c2, .int .i64 h2, .int .i64 t2, .int .i64 i2, .int .i64 p2] 3 5 | 6 => .val (.int .i64 R1) | 7 => .val (.bool true) | 8 => .val (.bool true) | 9 => .val (.agg #[.int .i64 c, .int .i64 h, .int .i64 t, .int .i64 i, .int .i64 p]) | 10 => .val (.agg #[.int .i64 c, .int .i64 h2, .int .i64 t, .int .i64 i, .int .i64 p]) | 11 => .val (.int .i64 R2) | 12 => .val (.slice (some ⟨g8, 0, none⟩) 5 5) | 13 => .val (.agg #[.int .i64 c, .int .i64 h2, .int .i64 t, .int .i64 i, .int .i64 p]) | 14 => .row #[.int .i64 c, .int .i64 h2, .int .i64 t, .int .i64 i, .int .i64 p] 3 5 | 15 => .val (.int .i64 R2) | 16 => .val (.bool true) | 17 => .val (.bool true) | 18 => .val (.bool true) | 19 => .val (.bool true) | 20 => .val (.bool true) | 21 => .val (.bool true) | _ => .val undef) (by kernel_rfl) rfl (by kernel_rfl) (fun i hi => by show (if i = 21 then 6 else 43 + i) < 64; (repeat' split) <;> omega) (fun i j hi hj => by show (if i = 21 then 6 else 43 + i) = (if j = 21 then 6 else 43 + j) → i = j; (repeat' split) <;> omega) ?step ?fin
  case step =>
    intro listed A_ w3 ix op_ hI ho hdep
    have hi : ix < 22 := (Array.getElem?_eq_some_iff.1 ho).1
    have hcase : ix = 0 ∨ ix = 1 ∨ ix = 2 ∨ ix = 3 ∨ ix = 4 ∨ ix = 5 ∨ ix = 6 ∨ ix = 7 ∨ ix = 8 ∨ ix = 9 ∨ ix = 10 ∨ ix = 11 ∨ ix = 12 ∨ ix = 13 ∨ ix = 14 ∨ ix = 15 ∨ ix = 16 ∨ ix = 17 ∨ ix = 18 ∨ ix = 19 ∨ ix = 20 ∨ ix = 21 := by omega
    have hh := hI.held
    clear hi
    rcases hcase with rfl | rfl | rfl | rfl | rfl | rfl | rfl | rfl | rfl | rfl | rfl | rfl | rfl | rfl | rfl | rfl | rfl | rfl | rfl | rfl | rfl | rfl
    · simp only [List.getElem?_toArray, List.getElem?_cons_zero, Option.some.injEq] at ho
      subst ho
      refine ⟨rfl, ?_⟩
      have e3 : A_.tmps[3]?.getD undef = .pointer (some ⟨w.heap.size, 0, none⟩) := by rw [hI.low 3 (by decide)]; rfl
      clear hI hdep
      obtain ⟨⟨dx0, dx1, dx2, dx3, dx4⟩, ⟨dy0, dy1, dy2, dy3, dy4⟩, dz0, dz1, dz2, dz3, dz4⟩ := HK.out w3 hh
      exact .run rfl (.agg #[.int .i64 c, .int .i64 h, .int .i64 t, .int .i64 i, .int .i64 p]) w3 (by simp [execOp, go_sem, Act.eval, *]) (Below.refl _ _) rfl
    · simp only [List.getElem?_toArray, List.getElem?_cons_succ, List.getElem?_cons_zero, Option.some.injEq] at ho
      subst ho
      refine ⟨rfl, ?_⟩
      have e4 : A_.tmps[4]?.getD undef = .pointer (some ⟨w.heap.size + 1, 0, none⟩) := by rw [hI.low 4 (by decide)]; rfl
      clear hI hdep
      obtain ⟨⟨dx0, dx1, dx2, dx3, dx4⟩, ⟨dy0, dy1, dy2, dy3, dy4⟩, dz0, dz1, dz2, dz3, dz4⟩ := HK.out w3 hh
      exact .run rfl (.agg #[.int .i64 c2, .int .i64 h2, .int .i64 t2, .int .i64 i2, .int .i64 p2]) w3 (by simp [execOp, go_sem, Act.eval, *]) (Below.refl _ _) rfl
    · simp only [List.getElem?_toArray, List.getElem?_cons_succ, List.getElem?_cons_zero, Option.some.injEq] at ho
      subst ho
      refine ⟨rfl, ?_⟩
      have e43 : A_.tmps[43]?.getD undef = .agg #[.int .i64 c, .int .i64 h, .int .i64 t, .int .i64 i, .int .i64 p] := getD_of (hI.val_ (i := 0) rfl rfl (by decide) (hdep ⟨0, .data⟩ (by simp) rfl))
      have e44 : A_.tmps[44]?.getD undef = .agg #[.int .i64 c2, .int .i64 h2, .int .i64 t2, .int .i64 i2, .int .i64 p2] := getD_of (hI.val_ (i := 1) rfl rfl (by decide) (hdep ⟨1, .data⟩ (by simp) rfl))
      clear hI hdep
      exact .call rfl 11 #[.agg #[.int .i64 c, .int .i64 h, .int .i64 t, .int .i64 i, .int .i64 p], .agg #[.int .i64 c2, .int .i64 h2, .int .i64 t2, .int .i64 i2, .int .i64 p2]] (.int .i64 R1) (by simp [go_sem, Act.eval, e43, e44]) rfl (HC1.out w3)
    · simp only [List.getElem?_toArray, List.getElem?_cons_succ, List.getElem?_cons_zero, Option.some.injEq] at ho
      subst ho
      refine ⟨rfl, ?_⟩
      have e8 : A_.tmps[8]?.getD undef = .slice (some ⟨g8, 0, none⟩) 5 5 := by rw [hI.low 8 (by decide)]; rfl
      clear hI hdep
      exact .run rfl (.slice (some ⟨g8, 0, none⟩) 5 5) w3 (by simp [execOp, go_sem, Act.eval, e8]) (Below.refl _ _) rfl
    · simp only [List.getElem?_toArray, List.getElem?_cons_succ, List.getElem?_cons_zero, Option.some.injEq] at ho
      subst ho
      refine ⟨rfl, ?_⟩
      have e4 : A_.tmps[4]?.getD undef = .pointer (some ⟨w.heap.size + 1, 0, none⟩) := by rw [hI.low 4 (by decide)]; rfl
      clear hI hdep
      obtain ⟨⟨dx0, dx1, dx2, dx3, dx4⟩, ⟨dy0, dy1, dy2, dy3, dy4⟩, dz0, dz1, dz2, dz3, dz4⟩ := HK.out w3 hh
      exact .run rfl (.agg #[.int .i64 c2, .int .i64 h2, .int .i64 t2, .int .i64 i2, .int .i64 p2]) w3 (by simp [execOp, go_sem, Act.eval, *]) (Below.refl _ _) rfl
    · simp only [List.getElem?_toArray, List.getElem?_cons_succ, List.getElem?_cons_zero, Option.some.injEq] at ho
      subst ho
      refine ⟨rfl, ?_⟩
      have e47 : A_.tmps[47]?.getD undef = .agg #[.int .i64 c2, .int .i64 h2, .int .i64 t2, .int .i64 i2, .int .i64 p2] := getD_of (hI.val_ (i := 4) rfl rfl (by decide) (hdep ⟨4, .data⟩ (by simp) rfl))
      clear hI hdep
      exact .callr rfl 10 #[.agg #[.int .i64 c2, .int .i64 h2, .int .i64 t2, .int .i64 i2, .int .i64 p2]] (by simp [go_sem, Act.eval, e47]) (key_row _ _ _ _ _ w3)
    · simp only [List.getElem?_toArray, List.getElem?_cons_succ, List.getElem?_cons_zero, Option.some.injEq] at ho
      subst ho
      refine ⟨rfl, ?_⟩
      have e46 : A_.tmps[46]?.getD undef = .slice (some ⟨g8, 0, none⟩) 5 5 := getD_of (hI.val_ (i := 3) rfl rfl (by decide) (hdep ⟨3, .data⟩ (by simp) rfl))
      obtain ⟨g48, e48, r48⟩ := hI.row_ (i := 5) (j := 48) rfl rfl (by decide) (hdep ⟨5, .data⟩ (by simp) rfl)
      clear hI hdep
      exact .call rfl 12 #[.slice (some ⟨g8, 0, none⟩) 5 5, .slice (some ⟨g48, 0, none⟩) 5 5] (.int .i64 R1) (by simp [go_sem, Act.eval, e46, e48]) rfl (HR1.out w3 g8 g48 (H8.out w3 hh) r48)
    · simp only [List.getElem?_toArray, List.getElem?_cons_succ, List.getElem?_cons_zero, Option.some.injEq] at ho
      subst ho
      refine ⟨rfl, ?_⟩
      have e45 : A_.tmps[45]?.getD undef = .int .i64 R1 := getD_of (hI.val_ (i := 2) rfl rfl (by decide) (hdep ⟨2, .data⟩ (by simp) rfl))
      have e49 : A_.tmps[49]?.getD undef = .int .i64 R1 := getD_of (hI.val_ (i := 6) rfl rfl (by decide) (hdep ⟨6, .data⟩ (by simp) rfl))
      clear hI hdep
      exact .run rfl (.bool true) w3 (by simp [execOp, go_sem, Act.eval, *]) (Below.refl _ _) rfl
    · simp only [List.getElem?_toArray, List.getElem?_cons_succ, List.getElem?_cons_zero, Option.some.injEq] at ho
      subst ho
      refine ⟨rfl, ?_⟩
      have e50 : A_.tmps[50]?.getD undef = .bool true := getD_of (hI.val_ (i := 7) rfl rfl (by decide) (hdep ⟨7, .data⟩ (by simp) rfl))
      clear hI hdep
      exact .run rfl (.bool true) w3 (by simp [execOp, go_sem, Act.eval, e50]) (Below.refl _ _) rfl
    · simp only [List.getElem?_toArray, List.getElem?_cons_succ, List.getElem?_cons_zero, Option.some.injEq] at ho
      subst ho
      refine ⟨rfl, ?_⟩
      have q51 : A_.tmps[51]? = some (.bool true) := hI.val_ (i := 8) rfl rfl (by decide) (hdep ⟨8, .guard⟩ (by simp) rfl)
      have e3 : A_.tmps[3]?.getD undef = .pointer (some ⟨w.heap.size, 0, none⟩) := by rw [hI.low 3 (by decide)]; rfl
      clear hI hdep
      obtain ⟨⟨dx0, dx1, dx2, dx3, dx4⟩, ⟨dy0, dy1, dy2, dy3, dy4⟩, dz0, dz1, dz2, dz3, dz4⟩ := HK.out w3 hh
      exact .run ((wanted_some rfl rfl q51).trans rfl) (.agg #[.int .i64 c, .int .i64 h, .int .i64 t, .int .i64 i, .int .i64 p]) w3 (by simp [execOp, go_sem, Act.eval, *]) (Below.refl _ _) rfl
    · simp only [List.getElem?_toArray, List.getElem?_cons_succ, List.getElem?_cons_zero, Option.some.injEq] at ho
      subst ho
      refine ⟨rfl, ?_⟩
      have q51 : A_.tmps[51]? = some (.bool true) := hI.val_ (i := 8) rfl rfl (by decide) (hdep ⟨8, .guard⟩ (by simp) rfl)
      have e7 : A_.tmps[7]?.getD undef = .pointer (some ⟨U.heap.size, 0, none⟩) := by rw [hI.low 7 (by decide)]; rfl
      clear hI hdep
      obtain ⟨⟨dx0, dx1, dx2, dx3, dx4⟩, ⟨dy0, dy1, dy2, dy3, dy4⟩, dz0, dz1, dz2, dz3, dz4⟩ := HK.out w3 hh
      exact .run ((wanted_some rfl rfl q51).trans rfl) (.agg #[.int .i64 c, .int .i64 h2, .int .i64 t, .int .i64 i, .int .i64 p]) w3 (by simp [execOp, go_sem, Act.eval, *]) (Below.refl _ _) rfl
    · simp only [List.getElem?_toArray, List.getElem?_cons_succ, List.getElem?_cons_zero, Option.some.injEq] at ho
      subst ho
      refine ⟨rfl, ?_⟩
      have q51 : A_.tmps[51]? = some (.bool true) := hI.val_ (i := 8) rfl rfl (by decide) (hdep ⟨8, .guard⟩ (by simp) rfl)
      have e52 : A_.tmps[52]?.getD undef = .agg #[.int .i64 c, .int .i64 h, .int .i64 t, .int .i64 i, .int .i64 p] := getD_of (hI.val_ (i := 9) rfl rfl (by decide) (hdep ⟨9, .data⟩ (by simp) rfl))
      have e53 : A_.tmps[53]?.getD undef = .agg #[.int .i64 c, .int .i64 h2, .int .i64 t, .int .i64 i, .int .i64 p] := getD_of (hI.val_ (i := 10) rfl rfl (by decide) (hdep ⟨10, .data⟩ (by simp) rfl))
      clear hI hdep
      exact .call ((wanted_some rfl rfl q51).trans rfl) 11 #[.agg #[.int .i64 c, .int .i64 h, .int .i64 t, .int .i64 i, .int .i64 p], .agg #[.int .i64 c, .int .i64 h2, .int .i64 t, .int .i64 i, .int .i64 p]] (.int .i64 R2) (by simp [go_sem, Act.eval, e52, e53]) rfl (HC2.out w3)
    · simp only [List.getElem?_toArray, List.getElem?_cons_succ, List.getElem?_cons_zero, Option.some.injEq] at ho
      subst ho
      refine ⟨rfl, ?_⟩
      have q51 : A_.tmps[51]? = some (.bool true) := hI.val_ (i := 8) rfl rfl (by decide) (hdep ⟨8, .guard⟩ (by simp) rfl)
      have e8 : A_.tmps[8]?.getD undef = .slice (some ⟨g8, 0, none⟩) 5 5 := by rw [hI.low 8 (by decide)]; rfl
      clear hI hdep
      exact .run ((wanted_some rfl rfl q51).trans rfl) (.slice (some ⟨g8, 0, none⟩) 5 5) w3 (by simp [execOp, go_sem, Act.eval, e8]) (Below.refl _ _) rfl
    · simp only [List.getElem?_toArray, List.getElem?_cons_succ, List.getElem?_cons_zero, Option.some.injEq] at ho
      subst ho
      refine ⟨rfl, ?_⟩
      have q51 : A_.tmps[51]? = some (.bool true) := hI.val_ (i := 8) rfl rfl (by decide) (hdep ⟨8, .guard⟩ (by simp) rfl)
      have e7 : A_.tmps[7]?.getD undef = .pointer (some ⟨U.heap.size, 0, none⟩) := by rw [hI.low 7 (by decide)]; rfl
      clear hI hdep
      obtain ⟨⟨dx0, dx1, dx2, dx3, dx4⟩, ⟨dy0, dy1, dy2, dy3, dy4⟩, dz0, dz1, dz2, dz3, dz4⟩ := HK.out w3 hh
      exact .run ((wanted_some rfl rfl q51).trans rfl) (.agg #[.int .i64 c, .int .i64 h2, .int .i64 t, .int .i64 i, .int .i64 p]) w3 (by simp [execOp, go_sem, Act.eval, *]) (Below.refl _ _) rfl
    · simp only [List.getElem?_toArray, List.getElem?_cons_succ, List.getElem?_cons_zero, Option.some.injEq] at ho
      subst ho
      refine ⟨rfl, ?_⟩
      have q51 : A_.tmps[51]? = some (.bool true) := hI.val_ (i := 8) rfl rfl (by decide) (hdep ⟨8, .guard⟩ (by simp) rfl)
      have e56 : A_.tmps[56]?.getD undef = .agg #[.int .i64 c, .int .i64 h2, .int .i64 t, .int .i64 i, .int .i64 p] := getD_of (hI.val_ (i := 13) rfl rfl (by decide) (hdep ⟨13, .data⟩ (by simp) rfl))
      clear hI hdep
      exact .callr ((wanted_some rfl rfl q51).trans rfl) 10 #[.agg #[.int .i64 c, .int .i64 h2, .int .i64 t, .int .i64 i, .int .i64 p]] (by simp [go_sem, Act.eval, e56]) (key_row _ _ _ _ _ w3)
    · simp only [List.getElem?_toArray, List.getElem?_cons_succ, List.getElem?_cons_zero, Option.some.injEq] at ho
      subst ho
      refine ⟨rfl, ?_⟩
      have q51 : A_.tmps[51]? = some (.bool true) := hI.val_ (i := 8) rfl rfl (by decide) (hdep ⟨8, .guard⟩ (by simp) rfl)
      have e55 : A_.tmps[55]?.getD undef = .slice (some ⟨g8, 0, none⟩) 5 5 := getD_of (hI.val_ (i := 12) rfl rfl (by decide) (hdep ⟨12, .data⟩ (by simp) rfl))
      obtain ⟨g57, e57, r57⟩ := hI.row_ (i := 14) (j := 57) rfl rfl (by decide) (hdep ⟨14, .data⟩ (by simp) rfl)
      clear hI hdep
      exact .call ((wanted_some rfl rfl q51).trans rfl) 12 #[.slice (some ⟨g8, 0, none⟩) 5 5, .slice (some ⟨g57, 0, none⟩) 5 5] (.int .i64 R2) (by simp [go_sem, Act.eval, e55, e57]) rfl (HR2.out w3 g8 g57 (H8.out w3 hh) r57)
    · simp only [List.getElem?_toArray, List.getElem?_cons_succ, List.getElem?_cons_zero, Option.some.injEq] at ho
      subst ho
      refine ⟨rfl, ?_⟩
      have q51 : A_.tmps[51]? = some (.bool true) := hI.val_ (i := 8) rfl rfl (by decide) (hdep ⟨8, .guard⟩ (by simp) rfl)
      have e54 : A_.tmps[54]?.getD undef = .int .i64 R2 := getD_of (hI.val_ (i := 11) rfl rfl (by decide) (hdep ⟨11, .data⟩ (by simp) rfl))
      have e58 : A_.tmps[58]?.getD undef = .int .i64 R2 := getD_of (hI.val_ (i := 15) rfl rfl (by decide) (hdep ⟨15, .data⟩ (by simp) rfl))
      clear hI hdep
      exact .run ((wanted_some rfl rfl q51).trans rfl) (.bool true) w3 (by simp [execOp, go_sem, Act.eval, *]) (Below.refl _ _) rfl
    · simp only [List.getElem?_toArray, List.getElem?_cons_succ, List.getElem?_cons_zero, Option.some.injEq] at ho
      subst ho
      refine ⟨rfl, ?_⟩
      have e51 : A_.tmps[51]?.getD undef = .bool true := getD_of (hI.val_ (i := 8) rfl rfl (by decide) (hdep ⟨8, .data⟩ (by simp) rfl))
      have e59 : A_.tmps[59]?.getD undef = .bool true := getD_of (hI.val_ (i := 16) rfl rfl (by decide) (hdep ⟨16, .data⟩ (by simp) rfl))
      clear hI hdep
      exact .run rfl (.bool true) w3 (by simp [execOp, go_sem, Act.eval, e51, e59]) (Below.refl _ _) rfl
    · simp only [List.getElem?_toArray, List.getElem?_cons_succ, List.getElem?_cons_zero, Option.some.injEq] at ho
      subst ho
      refine ⟨rfl, ?_⟩
      have e60 : A_.tmps[60]?.getD undef = .bool true := getD_of (hI.val_ (i := 17) rfl rfl (by decide) (hdep ⟨17, .data⟩ (by simp) rfl))
      clear hI hdep
      exact .run rfl (.bool true) w3 (by simp [execOp, go_sem, Act.eval, e60]) (Below.refl _ _) rfl
    · simp only [List.getElem?_toArray, List.getElem?_cons_succ, List.getElem?_cons_zero, Option.some.injEq] at ho
      subst ho
      refine ⟨rfl, ?_⟩
      have q61 : A_.tmps[61]? = some (.bool true) := hI.val_ (i := 18) rfl rfl (by decide) (hdep ⟨18, .guard⟩ (by simp) rfl)
      clear hI hdep
      exact .call ((wanted_some rfl rfl q61).trans rfl) 13 #[] (.bool true) (by simp [go_sem]) rfl (HL.out w3 (HB.out.trans (hh.mono HB.out.size)))
    · simp only [List.getElem?_toArray, List.getElem?_cons_succ, List.getElem?_cons_zero, Option.some.injEq] at ho
      subst ho
      refine ⟨rfl, ?_⟩
      have e61 : A_.tmps[61]?.getD undef = .bool true := getD_of (hI.val_ (i := 18) rfl rfl (by decide) (hdep ⟨18, .data⟩ (by simp) rfl))
      have e62 : A_.tmps[62]?.getD undef = .bool true := getD_of (hI.val_ (i := 19) rfl rfl (by decide) (hdep ⟨19, .data⟩ (by simp) rfl))
      clear hI hdep
      exact .run rfl (.bool true) w3 (by simp [execOp, go_sem, Act.eval, e61, e62]) (Below.refl _ _) rfl
    · simp only [List.getElem?_toArray, List.getElem?_cons_succ, List.getElem?_cons_zero, Option.some.injEq] at ho
      subst ho
      refine ⟨rfl, ?_⟩
      have e63 : A_.tmps[63]?.getD undef = .bool true := getD_of (hI.val_ (i := 20) rfl rfl (by decide) (hdep ⟨20, .data⟩ (by simp) rfl))
      clear hI hdep
      exact .run rfl (.bool true) w3 (by simp [execOp, go_sem, Act.eval, e63]) (Below.refl _ _) rfl
  case fin =>
  intro A_ w3 hs hd hlow hS hok
  obtain ⟨y48, hy48⟩ := RgQ.row_at (hok 5 48 _ (by decide) rfl rfl)
  obtain ⟨y57, hy57⟩ := RgQ.row_at (hok 14 57 _ (by decide) rfl rfl)
  obtain rfl : A_ = ⟨#[.agg #[.int .i64 c, .int .i64 h, .int .i64 t, .int .i64 i, .int .i64 p], .agg #[.int .i64 c2, .int .i64 h2, .int .i64 t2, .int .i64 i2, .int .i64 p2], .int .i64 n, .pointer (some ⟨w.heap.size, 0, none⟩), .pointer (some ⟨w.heap.size + 1, 0, none⟩), undef, .bool true, .pointer (some ⟨U.heap.size, 0, none⟩), .slice (some ⟨g8, 0, none⟩) 5 5, .agg #[.int .i64 c, .int .i64 h, .int .i64 t, .int .i64 i, .int .i64 p], .int .i64 n, .int .i64 1, undef, undef, undef, .bool false, .bool false, undef, undef, undef, undef, undef, .bool true, .bool true, .pointer (some ⟨w.heap.size + 1, 0, none⟩), .pointer (some ⟨w.heap.size + 1, 1, none⟩), .int .i64 h2, .pointer (some ⟨U.heap.size, 0, none⟩), .pointer (some ⟨U.heap.size, 1, none⟩), undef, undef, undef, undef, undef, undef, undef, undef, undef, undef, undef, undef, .agg #[.int .i64 c, .int .i64 h, .int .i64 t, .int .i64 i, .int .i64 p], .slice (some ⟨g8, 0, none⟩) 5 5, .agg #[.int .i64 c, .int .i64 h, .int .i64 t, .int .i64 i, .int .i64 p], .agg #[.int .i64 c2, .int .i64 h2, .int .i64 t2, .int .i64 i2, .int .i64 p2], .int .i64 R1, .slice (some ⟨g8, 0, none⟩) 5 5, .agg #[.int .i64 c2, .int .i64 h2, .int .i64 t2, .int .i64 i2, .int .i64 p2], y48, .int .i64 R1, .bool true, .bool true, .agg #[.int .i64 c, .int .i64 h, .int .i64 t, .int .i64 i, .int .i64 p], .agg #[.int .i64 c, .int .i64 h2, .int .i64 t, .int .i64 i, .int .i64 p], .int .i64 R2, .slice (some ⟨g8, 0, none⟩) 5 5, .agg #[.int .i64 c, .int .i64 h2, .int .i64 t, .int .i64 i, .int .i64 p], y57, .int .i64 R2, .bool true, .bool true, .bool true, .bool true, .bool true], []⟩ := act_ext hd hs (fun j hj => match j, hj with | 0, _ => (hlow 0 (by decide)).trans rfl | 1, _ => (hlow 1 (by decide)).trans rfl | 2, _ => (hlow 2 (by decide)).trans rfl | 3, _ => (hlow 3 (by decide)).trans rfl | 4, _ => (hlow 4 (by decide)).trans rfl | 5, _ => (hlow 5 (by decide)).trans rfl | 6, _ => RgQ.val_at (hok 21 6 _ (by decide) rfl rfl) | 7, _ => (hlow 7 (by decide)).trans rfl | 8, _ => (hlow 8 (by decide)).trans rfl | 9, _ => (hlow 9 (by decide)).trans rfl | 10, _ => (hlow 10 (by decide)).trans rfl | 11, _ => (hlow 11 (by decide)).trans rfl | 12, _ => (hlow 12 (by decide)).trans rfl | 13, _ => (hlow 13 (by decide)).trans rfl | 14, _ => (hlow 14 (by decide)).trans rfl | 15, _ => (hlow 15 (by decide)).trans rfl | 16, _ => (hlow 16 (by decide)).trans rfl | 17, _ => (hlow 17 (by decide)).trans rfl | 18, _ => (hlow 18 (by decide)).trans rfl | 19, _ => (hlow 19 (by decide)).trans rfl | 20, _ => (hlow 20 (by decide)).trans rfl | 21, _ => (hlow 21 (by decide)).trans rfl | 22, _ => (hlow 22 (by decide)).trans rfl | 23, _ => (hlow 23 (by decide)).trans rfl | 24, _ => (hlow 24 (by decide)).trans rfl | 25, _ => (hlow 25 (by decide)).trans rfl | 26, _ => (hlow 26 (by decide)).trans rfl | 27, _ => (hlow 27 (by decide)).trans rfl | 28, _ => (hlow 28 (by decide)).trans rfl | 29, _ => (hlow 29 (by decide)).trans rfl | 30, _ => (hlow 30 (by decide)).trans rfl | 31, _ => (hlow 31 (by decide)).trans rfl | 32, _ => (hlow 32 (by decide)).trans rfl | 33, _ => (hlow 33 (by decide)).trans rfl | 34, _ => (hlow 34 (by decide)).trans rfl | 35, _ => (hlow 35 (by decide)).trans rfl | 36, _ => (hlow 36 (by decide)).trans rfl | 37, _ => (hlow 37 (by decide)).trans rfl | 38, _ => (hlow 38 (by decide)).trans rfl | 39, _ => (hlow 39 (by decide)).trans rfl | 40, _ => (hlow 40 (by decide)).trans rfl | 41, _ => (hlow 41 (by decide)).trans rfl | 42, _ => (hlow 42 (by decide)).trans rfl | 43, _ => RgQ.val_at (hok 0 43 _ (by decide) rfl rfl) | 44, _ => RgQ.val_at (hok 1 44 _ (by decide) rfl rfl) | 45, _ => RgQ.val_at (hok 2 45 _ (by decide) rfl rfl) | 46, _ => RgQ.val_at (hok 3 46 _ (by decide) rfl rfl) | 47, _ => RgQ.val_at (hok 4 47 _ (by decide) rfl rfl) | 48, _ => hy48 | 49, _ => RgQ.val_at (hok 6 49 _ (by decide) rfl rfl) | 50, _ => RgQ.val_at (hok 7 50 _ (by decide) rfl rfl) | 51, _ => RgQ.val_at (hok 8 51 _ (by decide) rfl rfl) | 52, _ => RgQ.val_at (hok 9 52 _ (by decide) rfl rfl) | 53, _ => RgQ.val_at (hok 10 53 _ (by decide) rfl rfl) | 54, _ => RgQ.val_at (hok 11 54 _ (by decide) rfl rfl) | 55, _ => RgQ.val_at (hok 12 55 _ (by decide) rfl rfl) | 56, _ => RgQ.val_at (hok 13 56 _ (by decide) rfl rfl) | 57, _ => hy57 | 58, _ => RgQ.val_at (hok 15 58 _ (by decide) rfl rfl) | 59, _ => RgQ.val_at (hok 16 59 _ (by decide) rfl rfl) | 60, _ => RgQ.val_at (hok 17 60 _ (by decide) rfl rfl) | 61, _ => RgQ.val_at (hok 18 61 _ (by decide) rfl rfl) | 62, _ => RgQ.val_at (hok 19 62 _ (by decide) rfl rfl) | 63, _ => RgQ.val_at (hok 20 63 _ (by decide) rfl rfl) | n + 64, h => absurd h (by show ¬ n + 64 < 64; omega))
  clear hs hd hlow hok hy48 hy57
  go_wp2_with fail
  go_ret
  exact ⟨rfl, HB.out.trans (hS.mono HB.out.size)⟩
set_option maxHeartbeats 4000000 in
set_option maxRecDepth 100000 in
theorem walk_2 (c h t i p c2 h2 t2 i2 p2 n R1 R2 : Int) (w : World)
    (HA : Hid (∀ V, Calls Tryd.prog 9 #[.int .i64 n, .int .i64 5] V fun e w' => e = .returned (.int .i64 2) ∧ V = w'))
    (HC1 : Hid (∀ V, Calls Tryd.prog 11 #[.agg #[.int .i64 c, .int .i64 h, .int .i64 t, .int .i64 i, .int .i64 p], .agg #[.int .i64 c2, .int .i64 h2, .int .i64 t2, .int .i64 i2, .int .i64 p2]] V fun e w' => e = .returned (.int .i64 R1) ∧ Below V.heap.size V w'))
    (HC2 : Hid (∀ V, Calls Tryd.prog 11 #[.agg #[.int .i64 c, .int .i64 h, .int .i64 t, .int .i64 i, .int .i64 p], .agg #[.int .i64 c, .int .i64 h, .int .i64 t2, .int .i64 i, .int .i64 p]] V fun e w' => e = .returned (.int .i64 R2) ∧ Below V.heap.size V w'))
    (HR1 : Hid (∀ (V : World) (g1 g2 : Nat), V.heap[g1]? = some (.cells #[.int .i64 c, .int .i64 h, .int .i64 t, .int .i64 i, .int .i64 p] 3 (0, 0)) → V.heap[g2]? = some (.cells #[.int .i64 c2, .int .i64 h2, .int .i64 t2, .int .i64 i2, .int .i64 p2] 3 (0, 0)) → Calls Tryd.prog 12 #[.slice (some ⟨g1, 0, none⟩) 5 5, .slice (some ⟨g2, 0, none⟩) 5 5] V fun e w' => e = .returned (.int .i64 R1) ∧ Below V.heap.size V w'))
    (HR2 : Hid (∀ (V : World) (g1 g2 : Nat), V.heap[g1]? = some (.cells #[.int .i64 c, .int .i64 h, .int .i64 t, .int .i64 i, .int .i64 p] 3 (0, 0)) → V.heap[g2]? = some (.cells #[.int .i64 c, .int .i64 h, .int .i64 t2, .int .i64 i, .int .i64 p] 3 (0, 0)) → Calls Tryd.prog 12 #[.slice (some ⟨g1, 0, none⟩) 5 5, .slice (some ⟨g2, 0, none⟩) 5 5] V fun e w' => e = .returned (.int .i64 R2) ∧ Below V.heap.size V w'))
    (HL : Hid (∀ V, Below w.heap.size w V → Calls Tryd.prog 13 #[] V fun e w' => e = .returned (.bool true) ∧ Below V.heap.size V w')) :
    Calls Tryd.prog 3 #[.agg #[.int .i64 c, .int .i64 h, .int .i64 t, .int .i64 i, .int .i64 p], .agg #[.int .i64 c2, .int .i64 h2, .int .i64 t2, .int .i64 i2, .int .i64 p2], .int .i64 n] w fun e w' => e = .returned (.bool true) ∧ Below w.heap.size w w' := by
  obtain ⟨U, hU, hb0, kx, ky, hlt0⟩ := two_boxes w (.cells #[.int .i64 c, .int .i64 h, .int .i64 t, .int .i64 i, .int .i64 p] 25) (.cells #[.int .i64 c2, .int .i64 h2, .int .i64 t2, .int .i64 i2, .int .i64 p2] 25)
  obtain ⟨U2, hU2⟩ : ∃ V, U.alloc (.cells #[.int .i64 c, .int .i64 h, .int .i64 t, .int .i64 i, .int .i64 p] 25) = V := ⟨_, rfl⟩
  have hb2 : Below U.heap.size U U2 := hU2 ▸ one_box U _
  have hz2 : U.heap.size < U2.heap.size := by rw [← hU2]; simp
  have kz2 : U2.heap[U.heap.size]? = some (.cells #[.int .i64 c, .int .i64 h, .int .i64 t, .int .i64 i, .int .i64 p] 25 (0, 0)) := by rw [← hU2]; exact new_at rfl
  have kx2 := (hb2.block _ (by omega)).trans kx
  have ky2 := (hb2.block _ hlt0).trans ky
  have kx3 : (U2.setCell ⟨U.heap.size, 2, none⟩ (.int .i64 t2)).heap[w.heap.size]? = some (.cells #[.int .i64 c, .int .i64 h, .int .i64 t, .int .i64 i, .int .i64 p] 25 (0, 0)) := (other_set (by omega)).trans kx2
  have ky3 : (U2.setCell ⟨U.heap.size, 2, none⟩ (.int .i64 t2)).heap[w.heap.size + 1]? = some (.cells #[.int .i64 c2, .int .i64 h2, .int .i64 t2, .int .i64 i2, .int .i64 p2] 25 (0, 0)) := (other_set (by omega)).trans ky2
  have kz3 : (U2.setCell ⟨U.heap.size, 2, none⟩ (.int .i64 t2)).heap[U.heap.size]? = some (.cells #[.int .i64 c, .int .i64 h, .int .i64 t2, .int .i64 i, .int .i64 p] 25 (0, 0)) := cell_set kz2
  have hb3 : Below w.heap.size w (U2.setCell ⟨U.heap.size, 2, none⟩ (.int .i64 t2)) := (hb0.trans (hb2.mono hb0.size)).trans ((Below.refl _ U2).setCell (by have := hb0.size; omega) _)
  have hs3 : U2.heap.size = (U2.setCell ⟨U.heap.size, 2, none⟩ (.int .i64 t2)).heap.size := by simp [World.setCell]
  have HX3 := Lib.hid (And.intro kx3 (And.intro ky3 (And.intro kz3 hb3)))
  have HLT := Lib.hid (And.intro hlt0 (And.intro hz2 hs3))
  obtain ⟨u0, u1, u2, u3, u4⟩ := row5 kx
  obtain ⟨dx0, dx1, dx2, dx3, dx4⟩ := row5 kx2
  obtain ⟨dy0, dy1, dy2, dy3, dy4⟩ := row5 ky2
  obtain ⟨dz0, dz1, dz2, dz3, dz4⟩ := row5 kz2
  obtain ⟨v0, v1, v2, v3, v4⟩ := row5 kx3
  have fz := froz kz2 2
  clear kx ky kx2 ky2 kz2 kx3 ky3 kz3 hb0 hb2 hb3 hs3
  go_enter Tryd.func3, Tryd.ntmps3
  go_wp2_with (go_at_call 9; refine (HA.out _).mono ?_; rintro e w1 ⟨rfl, rfl⟩)
  clear hU hU2 u0 u1 u2 u3 u4 dx0 dx1 dx2 dx3 dx4 dy0 dy1 dy2 dy3 dy4 dz0 dz1 dz2 dz3 dz4 v0 v1 v2 v3 v4 fz
  obtain ⟨kx3, ky3, kz3, hb3⟩ := HX3.out
  obtain ⟨hlt0, hz2, hs3⟩ := HLT.out
  obtain ⟨V8, hV8⟩ : ∃ V, (U2.setCell ⟨U.heap.size, 2, none⟩ (.int .i64 t2)) = V := ⟨_, rfl⟩
  clear HX3 HLT
  rw [hV8] at kx3 ky3 kz3 hb3 hs3 ⊢
  clear hV8
  refine (msgKey_any _ _ _ _ _ _).mono ?_
  rintro e w9 ⟨⟨g8, rfl, k8⟩, hb9⟩
  have HB := Lib.hid (hb3.trans (hb9.mono hb3.size))
  have HK := Lib.hid (fun (V : World) (hV : Below w9.heap.size w9 V) => And.intro (row5 ((hV.block _ (by have := hb9.size; omega)).trans ((hb9.block _ (by omega)).trans kx3))) (And.intro (row5 ((hV.block _ (by have := hb9.size; omega)).trans ((hb9.block _ (by omega)).trans ky3))) (row5 ((hV.block _ (by have := hb9.size; omega)).trans ((hb9.block _ (by omega)).trans kz3)))))
  have H8 := Lib.hid (fun (V : World) (hV : Below w9.heap.size w9 V) => (hV.block _ (heap_lt k8)).trans k8)
  clear kx3 ky3 kz3 hb3 k8 hb9 hlt0 hz2 hs3
  go_wp2_with fail
  refine RgQ.region_specs 22 (fun i => (if i = 21 then 6 else 43 + i)) (fun ix_ => match ix_ with | 0 => .val (.agg #[.int .i64 c, .int .i64 h, .int .i64 t, .int .i64 i, .int .i64 p]) | 1 => .val (.agg #[.int .i64 c2, .int .i64 h2, .int .i64 t2, .int .i64 i2, .int .i64 p2]) | 2 => .val (.int .i64 R1) | 3 => .val (.slice (some ⟨g8, 0, none⟩) 5 5) | 4 => .val (.agg #[.int .i64 c2, .int .i64 h2, .int .i64 t2, .int .i64 i2, .int .i64 p2]) | 5 => .row #[.int .i64 c2, .int .i64 h2, .int .i64 t2, .int .i64 i2, .int .i64 p2] 3 5 | 6 => .val (.int .i64 R1) | 7 => .val (.bool true) | 8 => .val (.bool true) | 9 => .val (.agg #[.int .i64 c, .int .i64 h, .int .i64 t, .int .i64 i, .int .i64 p]) | 10 => .val (.agg #[.int .i64 c, .int .i64 h, .int .i64 t2, .int .i64 i, .int .i64 p]) | 11 => .val (.int .i64 R2) | 12 => .val (.slice (some ⟨g8, 0, none⟩) 5 5) | 13 => .val (.agg #[.int .i64 c, .int .i64 h, .int .i64 t2, .int .i64 i, .int .i64 p]) | 14 => .row #[.int .i64 c, .int .i64 h, .int .i64 t2, .int .i64 i, .int .i64 p] 3 5 | 15 => .val (.int .i64 R2) | 16 => .val (.bool true) | 17 => .val (.bool true) | 18 => .val (.bool true) | 19 => .val (.bool true) | 20 => .val (.bool true) | 21 => .val (.bool true) | _ => .val undef) (by kernel_rfl) rfl (by kernel_rfl) (fun i hi => by show (if i = 21 then 6 else 43 + i) < 64; (repeat' split) <;> omega) (fun i j hi hj => by show (if i = 21 then 6 else 43 + i) = (if j = 21 then 6 else 43 + j) → i = j; (repeat' split) <;> omega) ?step ?fin
  case step =>
    intro listed A_ w3 ix op_ hI ho hdep
    have hi : ix < 22 := (Array.getElem?_eq_some_iff.1 ho).1
    have hcase : ix = 0 ∨ ix = 1 ∨ ix = 2 ∨ ix = 3 ∨ ix = 4 ∨ ix = 5 ∨ ix = 6 ∨ ix = 7 ∨ ix = 8 ∨ ix = 9 ∨ ix = 10 ∨ ix = 11 ∨ ix = 12 ∨ ix = 13 ∨ ix = 14 ∨ ix = 15 ∨ ix = 16 ∨ ix = 17 ∨ ix = 18 ∨ ix = 19 ∨ ix = 20 ∨ ix = 21 := by omega
    have hh := hI.held
    clear hi
    rcases hcase with rfl | rfl | rfl | rfl | rfl | rfl | rfl | rfl | rfl | rfl | rfl | rfl | rfl | rfl | rfl | rfl | rfl | rfl | rfl | rfl | rfl | rfl
    · simp only [List.getElem?_toArray, List.getElem?_cons_zero, Option.some.injEq] at ho
      subst ho
      refine ⟨rfl, ?_⟩
      have e3 : A_.tmps[3]?.getD undef = .pointer (some ⟨w.heap.size, 0, none⟩) := by rw [hI.low 3 (by decide)]; rfl
      clear hI hdep
      obtain ⟨⟨dx0, dx1, dx2, dx3, dx4⟩, ⟨dy0, dy1, dy2, dy3, dy4⟩, dz0, dz1, dz2, dz3, dz4⟩ := HK.out w3 hh
      exact .run rfl (.agg #[.int .i64 c, .int .i64 h, .int .i64 t, .int .i64 i, .int .i64 p]) w3 (by simp [execOp, go_sem, Act.eval, *]) (Below.refl _ _) rfl
    · simp only [List.getElem?_toArray, List.getElem?_cons_succ, List.getElem?_cons_zero, Option.some.injEq] at ho
      subst ho
      refine ⟨rfl, ?_⟩
      have e4 : A_.tmps[4]?.getD undef = .pointer (some ⟨w.heap.size + 1, 0, none⟩) := by rw [hI.low 4 (by decide)]; rfl
      clear hI hdep
      obtain ⟨⟨dx0, dx1, dx2, dx3, dx4⟩, ⟨dy0, dy1, dy2, dy3, dy4⟩, dz0, dz1, dz2, dz3, dz4⟩ := HK.out w3 hh
      exact .run rfl (.agg #[.int .i64 c2, .int .i64 h2, .int .i64 t2, .int .i64 i2, .int .i64 p2]) w3 (by simp [execOp, go_sem, Act.eval, *]) (Below.refl _ _) rfl
    · simp only [List.getElem?_toArray, List.getElem?_cons_succ, List.getElem?_cons_zero, Option.some.injEq] at ho
      subst ho
      refine ⟨rfl, ?_⟩
      have e43 : A_.tmps[43]?.getD undef = .agg #[.int .i64 c, .int .i64 h, .int .i64 t, .int .i64 i, .int .i64 p] := getD_of (hI.val_ (i := 0) rfl rfl (by decide) (hdep ⟨0, .data⟩ (by simp) rfl))
      have e44 : A_.tmps[44]?.getD undef = .agg #[.int .i64 c2, .int .i64 h2, .int .i64 t2, .int .i64 i2, .int .i64 p2] := getD_of (hI.val_ (i := 1) rfl rfl (by decide) (hdep ⟨1, .data⟩ (by simp) rfl))
      clear hI hdep
      exact .call rfl 11 #[.agg #[.int .i64 c, .int .i64 h, .int .i64 t, .int .i64 i, .int .i64 p], .agg #[.int .i64 c2, .int .i64 h2, .int .i64 t2, .int .i64 i2, .int .i64 p2]] (.int .i64 R1) (by simp [go_sem, Act.eval, e43, e44]) rfl (HC1.out w3)
    · simp only [List.getElem?_toArray, List.getElem?_cons_succ, List.getElem?_cons_zero, Option.some.injEq] at ho
      subst ho
      refine ⟨rfl, ?_⟩
      have e8 : A_.tmps[8]?.getD undef = .slice (some ⟨g8, 0, none⟩) 5 5 := by rw [hI.low 8 (by decide)]; rfl
      clear hI hdep
      exact .run rfl (.slice (some ⟨g8, 0, none⟩) 5 5) w3 (by simp [execOp, go_sem, Act.eval, e8]) (Below.refl _ _) rfl
    · simp only [List.getElem?_toArray, List.getElem?_cons_succ, List.getElem?_cons_zero, Option.some.injEq] at ho
      subst ho
      refine ⟨rfl, ?_⟩
      have e4 : A_.tmps[4]?.getD undef = .pointer (some ⟨w.heap.size + 1, 0, none⟩) := by rw [hI.low 4 (by decide)]; rfl
      clear hI hdep
      obtain ⟨⟨dx0, dx1, dx2, dx3, dx4⟩, ⟨dy0, dy1, dy2, dy3, dy4⟩, dz0, dz1, dz2, dz3, dz4⟩ := HK.out w3 hh
      exact .run rfl (.agg #[.int .i64 c2, .int .i64 h2, .int .i64 t2, .int .i64 i2, .int .i64 p2]) w3 (by simp [execOp, go_sem, Act.eval, *]) (Below.refl _ _) rfl
    · simp only [List.getElem?_toArray, List.getElem?_cons_succ, List.getElem?_cons_zero, Option.some.injEq] at ho
      subst ho
      refine ⟨rfl, ?_⟩
      have e47 : A_.tmps[47]?.getD undef = .agg #[.int .i64 c2, .int .i64 h2, .int .i64 t2, .int .i64 i2, .int .i64 p2] := getD_of (hI.val_ (i := 4) rfl rfl (by decide) (hdep ⟨4, .data⟩ (by simp) rfl))
      clear hI hdep
      exact .callr rfl 10 #[.agg #[.int .i64 c2, .int .i64 h2, .int .i64 t2, .int .i64 i2, .int .i64 p2]] (by simp [go_sem, Act.eval, e47]) (key_row _ _ _ _ _ w3)
    · simp only [List.getElem?_toArray, List.getElem?_cons_succ, List.getElem?_cons_zero, Option.some.injEq] at ho
      subst ho
      refine ⟨rfl, ?_⟩
      have e46 : A_.tmps[46]?.getD undef = .slice (some ⟨g8, 0, none⟩) 5 5 := getD_of (hI.val_ (i := 3) rfl rfl (by decide) (hdep ⟨3, .data⟩ (by simp) rfl))
      obtain ⟨g48, e48, r48⟩ := hI.row_ (i := 5) (j := 48) rfl rfl (by decide) (hdep ⟨5, .data⟩ (by simp) rfl)
      clear hI hdep
      exact .call rfl 12 #[.slice (some ⟨g8, 0, none⟩) 5 5, .slice (some ⟨g48, 0, none⟩) 5 5] (.int .i64 R1) (by simp [go_sem, Act.eval, e46, e48]) rfl (HR1.out w3 g8 g48 (H8.out w3 hh) r48)
    · simp only [List.getElem?_toArray, List.getElem?_cons_succ, List.getElem?_cons_zero, Option.some.injEq] at ho
      subst ho
      refine ⟨rfl, ?_⟩
      have e45 : A_.tmps[45]?.getD undef = .int .i64 R1 := getD_of (hI.val_ (i := 2) rfl rfl (by decide) (hdep ⟨2, .data⟩ (by simp) rfl))
      have e49 : A_.tmps[49]?.getD undef = .int .i64 R1 := getD_of (hI.val_ (i := 6) rfl rfl (by decide) (hdep ⟨6, .data⟩ (by simp) rfl))
      clear hI hdep
      exact .run rfl (.bool true) w3 (by simp [execOp, go_sem, Act.eval, *]) (Below.refl _ _) rfl
    · simp only [List.getElem?_toArray, List.getElem?_cons_succ, List.getElem?_cons_zero, Option.some.injEq] at ho
      subst ho
      refine ⟨rfl, ?_⟩
      have e50 : A_.tmps[50]?.getD undef = .bool true := getD_of (hI.val_ (i := 7) rfl rfl (by decide) (hdep ⟨7, .data⟩ (by simp) rfl))
      clear hI hdep
      exact .run rfl (.bool true) w3 (by simp [execOp, go_sem, Act.eval, e50]) (Below.refl _ _) rfl
    · simp only [List.getElem?_toArray, List.getElem?_cons_succ, List.getElem?_cons_zero, Option.some.injEq] at ho
      subst ho
      refine ⟨rfl, ?_⟩
      have q51 : A_.tmps[51]? = some (.bool true) := hI.val_ (i := 8) rfl rfl (by decide) (hdep ⟨8, .guard⟩ (by simp) rfl)
      have e3 : A_.tmps[3]?.getD undef = .pointer (some ⟨w.heap.size, 0, none⟩) := by rw [hI.low 3 (by decide)]; rfl
      clear hI hdep
      obtain ⟨⟨dx0, dx1, dx2, dx3, dx4⟩, ⟨dy0, dy1, dy2, dy3, dy4⟩, dz0, dz1, dz2, dz3, dz4⟩ := HK.out w3 hh
      exact .run ((wanted_some rfl rfl q51).trans rfl) (.agg #[.int .i64 c, .int .i64 h, .int .i64 t, .int .i64 i, .int .i64 p]) w3 (by simp [execOp, go_sem, Act.eval, *]) (Below.refl _ _) rfl
    · simp only [List.getElem?_toArray, List.getElem?_cons_succ, List.getElem?_cons_zero, Option.some.injEq] at ho
      subst ho
      refine ⟨rfl, ?_⟩
      have q51 : A_.tmps[51]? = some (.bool true) := hI.val_ (i := 8) rfl rfl (by decide) (hdep ⟨8, .guard⟩ (by simp) rfl)
      have e7 : A_.tmps[7]?.getD undef = .pointer (some ⟨U.heap.size, 0, none⟩) := by rw [hI.low 7 (by decide)]; rfl
      clear hI hdep
      obtain ⟨⟨dx0, dx1, dx2, dx3, dx4⟩, ⟨dy0, dy1, dy2, dy3, dy4⟩, dz0, dz1, dz2, dz3, dz4⟩ := HK.out w3 hh
      exact .run ((wanted_some rfl rfl q51).trans rfl) (.agg #[.int .i64 c, .int .i64 h, .int .i64 t2, .int .i64 i, .int .i64 p]) w3 (by simp [execOp, go_sem, Act.eval, *]) (Below.refl _ _) rfl
    · simp only [List.getElem?_toArray, List.getElem?_cons_succ, List.getElem?_cons_zero, Option.some.injEq] at ho
      subst ho
      refine ⟨rfl, ?_⟩
      have q51 : A_.tmps[51]? = some (.bool true) := hI.val_ (i := 8) rfl rfl (by decide) (hdep ⟨8, .guard⟩ (by simp) rfl)
      have e52 : A_.tmps[52]?.getD undef = .agg #[.int .i64 c, .int .i64 h, .int .i64 t, .int .i64 i, .int .i64 p] := getD_of (hI.val_ (i := 9) rfl rfl (by decide) (hdep ⟨9, .data⟩ (by simp) rfl))
      have e53 : A_.tmps[53]?.getD undef = .agg #[.int .i64 c, .int .i64 h, .int .i64 t2, .int .i64 i, .int .i64 p] := getD_of (hI.val_ (i := 10) rfl rfl (by decide) (hdep ⟨10, .data⟩ (by simp) rfl))
      clear hI hdep
      exact .call ((wanted_some rfl rfl q51).trans rfl) 11 #[.agg #[.int .i64 c, .int .i64 h, .int .i64 t, .int .i64 i, .int .i64 p], .agg #[.int .i64 c, .int .i64 h, .int .i64 t2, .int .i64 i, .int .i64 p]] (.int .i64 R2) (by simp [go_sem, Act.eval, e52, e53]) rfl (HC2.out w3)
    · simp only [List.getElem?_toArray, List.getElem?_cons_succ, List.getElem?_cons_zero, Option.some.injEq] at ho
      subst ho
      refine ⟨rfl, ?_⟩
      have q51 : A_.tmps[51]? = some (.bool true) := hI.val_ (i := 8) rfl rfl (by decide) (hdep ⟨8, .guard⟩ (by simp) rfl)
      have e8 : A_.tmps[8]?.getD undef = .slice (some ⟨g8, 0, none⟩) 5 5 := by rw [hI.low 8 (by decide)]; rfl
      clear hI hdep
      exact .run ((wanted_some rfl rfl q51).trans rfl) (.slice (some ⟨g8, 0, none⟩) 5 5) w3 (by simp [execOp, go_sem, Act.eval, e8]) (Below.refl _ _) rfl
    · simp only [List.getElem?_toArray, List.getElem?_cons_succ, List.getElem?_cons_zero, Option.some.injEq] at ho
      subst ho
      refine ⟨rfl, ?_⟩
      have q51 : A_.tmps[51]? = some (.bool true) := hI.val_ (i := 8) rfl rfl (by decide) (hdep ⟨8, .guard⟩ (by simp) rfl)
      have e7 : A_.tmps[7]?.getD undef = .pointer (some ⟨U.heap.size, 0, none⟩) := by rw [hI.low 7 (by decide)]; rfl
      clear hI hdep
      obtain ⟨⟨dx0, dx1, dx2, dx3, dx4⟩, ⟨dy0, dy1, dy2, dy3, dy4⟩, dz0, dz1, dz2, dz3, dz4⟩ := HK.out w3 hh
      exact .run ((wanted_some rfl rfl q51).trans rfl) (.agg #[.int .i64 c, .int .i64 h, .int .i64 t2, .int .i64 i, .int .i64 p]) w3 (by simp [execOp, go_sem, Act.eval, *]) (Below.refl _ _) rfl
    · simp only [List.getElem?_toArray, List.getElem?_cons_succ, List.getElem?_cons_zero, Option.some.injEq] at ho
      subst ho
      refine ⟨rfl, ?_⟩
      have q51 : A_.tmps[51]? = some (.bool true) := hI.val_ (i := 8) rfl rfl (by decide) (hdep ⟨8, .guard⟩ (by simp) rfl)
      have e56 : A_.tmps[56]?.getD undef = .agg #[.int .i64 c, .int .i64 h, .int .i64 t2, .int .i64 i, .int .i64 p] := getD_of (hI.val_ (i := 13) rfl rfl (by decide) (hdep ⟨13, .data⟩ (by simp) rfl))
      clear hI hdep
      exact .callr ((wanted_some rfl rfl q51).trans rfl) 10 #[.agg #[.int .i64 c, .int .i64 h, .int .i64 t2, .int .i64 i, .int .i64 p]] (by simp [go_sem, Act.eval, e56]) (key_row _ _ _ _ _ w3)
    · simp only [List.getElem?_toArray, List.getElem?_cons_succ, List.getElem?_cons_zero, Option.some.injEq] at ho
      subst ho
      refine ⟨rfl, ?_⟩
      have q51 : A_.tmps[51]? = some (.bool true) := hI.val_ (i := 8) rfl rfl (by decide) (hdep ⟨8, .guard⟩ (by simp) rfl)
      have e55 : A_.tmps[55]?.getD undef = .slice (some ⟨g8, 0, none⟩) 5 5 := getD_of (hI.val_ (i := 12) rfl rfl (by decide) (hdep ⟨12, .data⟩ (by simp) rfl))
      obtain ⟨g57, e57, r57⟩ := hI.row_ (i := 14) (j := 57) rfl rfl (by decide) (hdep ⟨14, .data⟩ (by simp) rfl)
      clear hI hdep
      exact .call ((wanted_some rfl rfl q51).trans rfl) 12 #[.slice (some ⟨g8, 0, none⟩) 5 5, .slice (some ⟨g57, 0, none⟩) 5 5] (.int .i64 R2) (by simp [go_sem, Act.eval, e55, e57]) rfl (HR2.out w3 g8 g57 (H8.out w3 hh) r57)
    · simp only [List.getElem?_toArray, List.getElem?_cons_succ, List.getElem?_cons_zero, Option.some.injEq] at ho
      subst ho
      refine ⟨rfl, ?_⟩
      have q51 : A_.tmps[51]? = some (.bool true) := hI.val_ (i := 8) rfl rfl (by decide) (hdep ⟨8, .guard⟩ (by simp) rfl)
      have e54 : A_.tmps[54]?.getD undef = .int .i64 R2 := getD_of (hI.val_ (i := 11) rfl rfl (by decide) (hdep ⟨11, .data⟩ (by simp) rfl))
      have e58 : A_.tmps[58]?.getD undef = .int .i64 R2 := getD_of (hI.val_ (i := 15) rfl rfl (by decide) (hdep ⟨15, .data⟩ (by simp) rfl))
      clear hI hdep
      exact .run ((wanted_some rfl rfl q51).trans rfl) (.bool true) w3 (by simp [execOp, go_sem, Act.eval, *]) (Below.refl _ _) rfl
    · simp only [List.getElem?_toArray, List.getElem?_cons_succ, List.getElem?_cons_zero, Option.some.injEq] at ho
      subst ho
      refine ⟨rfl, ?_⟩
      have e51 : A_.tmps[51]?.getD undef = .bool true := getD_of (hI.val_ (i := 8) rfl rfl (by decide) (hdep ⟨8, .data⟩ (by simp) rfl))
      have e59 : A_.tmps[59]?.getD undef = .bool true := getD_of (hI.val_ (i := 16) rfl rfl (by decide) (hdep ⟨16, .data⟩ (by simp) rfl))
      clear hI hdep
      exact .run rfl (.bool true) w3 (by simp [execOp, go_sem, Act.eval, e51, e59]) (Below.refl _ _) rfl
    · simp only [List.getElem?_toArray, List.getElem?_cons_succ, List.getElem?_cons_zero, Option.some.injEq] at ho
      subst ho
      refine ⟨rfl, ?_⟩
      have e60 : A_.tmps[60]?.getD undef = .bool true := getD_of (hI.val_ (i := 17) rfl rfl (by decide) (hdep ⟨17, .data⟩ (by simp) rfl))
      clear hI hdep
      exact .run rfl (.bool true) w3 (by simp [execOp, go_sem, Act.eval, e60]) (Below.refl _ _) rfl
    · simp only [List.getElem?_toArray, List.getElem?_cons_succ, List.getElem?_cons_zero, Option.some.injEq] at ho
      subst ho
      refine ⟨rfl, ?_⟩
      have q61 : A_.tmps[61]? = some (.bool true) := hI.val_ (i := 18) rfl rfl (by decide) (hdep ⟨18, .guard⟩ (by simp) rfl)
      clear hI hdep
      exact .call ((wanted_some rfl rfl q61).trans rfl) 13 #[] (.bool true) (by simp [go_sem]) rfl (HL.out w3 (HB.out.trans (hh.mono HB.out.size)))
    · simp only [List.getElem?_toArray, List.getElem?_cons_succ, List.getElem?_cons_zero, Option.some.injEq] at ho
      subst ho
      refine ⟨rfl, ?_⟩
      have e61 : A_.tmps[61]?.getD undef = .bool true := getD_of (hI.val_ (i := 18) rfl rfl (by decide) (hdep ⟨18, .data⟩ (by simp) rfl))
      have e62 : A_.tmps[62]?.getD undef = .bool true := getD_of (hI.val_ (i := 19) rfl rfl (by decide) (hdep ⟨19, .data⟩ (by simp) rfl))
      clear hI hdep
      exact .run rfl (.bool true) w3 (by simp [execOp, go_sem, Act.eval, e61, e62]) (Below.refl _ _) rfl
    · simp only [List.getElem?_toArray, List.getElem?_cons_succ, List.getElem?_cons_zero, Option.some.injEq] at ho
      subst ho
      refine ⟨rfl, ?_⟩
      have e63 : A_.tmps[63]?.getD undef = .bool true := getD_of (hI.val_ (i := 20) rfl rfl (by decide) (hdep ⟨20, .data⟩ (by simp) rfl))
      clear hI hdep
      exact .run rfl (.bool true) w3 (by simp [execOp, go_sem, Act.eval, e63]) (Below.refl _ _) rfl
  case fin =>
  intro A_ w3 hs hd hlow hS hok
  obtain ⟨y48, hy48⟩ := RgQ.row_at (hok 5 48 _ (by decide) rfl rfl)
  obtain ⟨y57, hy57⟩ := RgQ.row_at (hok 14 57 _ (by decide) rfl rfl)
  obtain rfl : A_ = ⟨#[.agg #[.int .i64 c, .int .i64 h, .int .i64 t, .int .i64 i, .int .i64 p], .agg #[.int .i64 c2, .int .i64 h2, .int .i64 t2, .int .i64 i2, .int .i64 p2], .int .i64 n, .pointer (some ⟨w.heap.size, 0, none⟩), .pointer (some ⟨w.heap.size + 1, 0, none⟩), undef, .bool true, .pointer (some ⟨U.heap.size, 0, none⟩), .slice (some ⟨g8, 0, none⟩) 5 5, .agg #[.int .i64 c, .int .i64 h, .int .i64 t, .int .i64 i, .int .i64 p], .int .i64 n, .int .i64 2, undef, undef, undef, .bool false, .bool false, undef, undef, undef, undef, undef, .bool false, .bool false, undef, undef, undef, undef, undef, .bool true, .bool true, .pointer (some ⟨w.heap.size + 1, 0, none⟩), .pointer (some ⟨w.heap.size + 1, 2, none⟩), .int .i64 t2, .pointer (some ⟨U.heap.size, 0, none⟩), .pointer (some ⟨U.heap.size, 2, none⟩), undef, undef, undef, undef, undef, .agg #[.int .i64 c, .int .i64 h, .int .i64 t, .int .i64 i, .int .i64 p], .slice (some ⟨g8, 0, none⟩) 5 5, .agg #[.int .i64 c, .int .i64 h, .int .i64 t, .int .i64 i, .int .i64 p], .agg #[.int .i64 c2, .int .i64 h2, .int .i64 t2, .int .i64 i2, .int .i64 p2], .int .i64 R1, .slice (some ⟨g8, 0, none⟩) 5 5, .agg #[.int .i64 c2, .int .i64 h2, .int .i64 t2, .int .i64 i2, .int .i64 p2], y48, .int .i64 R1, .bool true, .bool true, .agg #[.int .i64 c, .int .i64 h, .int .i64 t, .int .i64 i, .int .i64 p], .agg #[.int .i64 c, .int .i64 h, .int .i64 t2, .int .i64 i, .int .i64 p], .int .i64 R2, .slice (some ⟨g8, 0, none⟩) 5 5, .agg #[.int .i64 c, .int .i64 h, .int .i64 t2, .int .i64 i, .int .i64 p], y57, .int .i64 R2, .bool true, .bool true, .bool true, .bool true, .bool true], []⟩ := act_ext hd hs (fun j hj => match j, hj with | 0, _ => (hlow 0 (by decide)).trans rfl | 1, _ => (hlow 1 (by decide)).trans rfl | 2, _ => (hlow 2 (by decide)).trans rfl | 3, _ => (hlow 3 (by decide)).trans rfl | 4, _ => (hlow 4 (by decide)).trans rfl | 5, _ => (hlow 5 (by decide)).trans rfl | 6, _ => RgQ.val_at (hok 21 6 _ (by decide) rfl rfl) | 7, _ => (hlow 7 (by decide)).trans rfl | 8, _ => (hlow 8 (by decide)).trans rfl | 9, _ => (hlow 9 (by decide)).trans rfl | 10, _ => (hlow 10 (by decide)).trans rfl | 11, _ => (hlow 11 (by decide)).trans rfl | 12, _ => (hlow 12 (by decide)).trans rfl | 13, _ => (hlow 13 (by decide)).trans rfl | 14, _ => (hlow 14 (by decide)).trans rfl | 15, _ => (hlow 15 (by decide)).trans rfl | 16, _ => (hlow 16 (by decide)).trans rfl | 17, _ => (hlow 17 (by decide)).trans rfl | 18, _ => (hlow 18 (by decide)).trans rfl | 19, _ => (hlow 19 (by decide)).trans rfl | 20, _ => (hlow 20 (by decide)).trans rfl | 21, _ => (hlow 21 (by decide)).trans rfl | 22, _ => (hlow 22 (by decide)).trans rfl | 23, _ => (hlow 23 (by decide)).trans rfl | 24, _ => (hlow 24 (by decide)).trans rfl | 25, _ => (hlow 25 (by decide)).trans rfl | 26, _ => (hlow 26 (by decide)).trans rfl | 27, _ => (hlow 27 (by decide)).trans rfl | 28, _ => (hlow 28 (by decide)).trans rfl | 29, _ => (hlow 29 (by decide)).trans rfl | 30, _ => (hlow 30 (by decide)).trans rfl | 31, _ => (hlow 31 (by decide)).trans rfl | 32, _ => (hlow 32 (by decide)).trans rfl | 33, _ => (hlow 33 (by decide)).trans rfl | 34, _ => (hlow 34 (by decide)).trans rfl | 35, _ => (hlow 35 (by decide)).trans rfl | 36, _ => (hlow 36 (by decide)).trans rfl | 37, _ => (hlow 37 (by decide)).trans rfl | 38, _ => (hlow 38 (by decide)).trans rfl | 39, _ => (hlow 39 (by decide)).trans rfl | 40, _ => (hlow 40 (by decide)).trans rfl | 41, _ => (hlow 41 (by decide)).trans rfl | 42, _ => (hlow 42 (by decide)).trans rfl | 43, _ => RgQ.val_at (hok 0 43 _ (by decide) rfl rfl) | 44, _ => RgQ.val_at (hok 1 44 _ (by decide) rfl rfl) | 45, _ => RgQ.val_at (hok 2 45 _ (by decide) rfl rfl) | 46, _ => RgQ.val_at (hok 3 46 _ (by decide) rfl rfl) | 47, _ => RgQ.val_at (hok 4 47 _ (by decide) rfl rfl) | 48, _ => hy48 | 49, _ => RgQ.val_at (hok 6 49 _ (by decide) rfl rfl) | 50, _ => RgQ.val_at (hok 7 50 _ (by decide) rfl rfl) | 51, _ => RgQ.val_at (hok 8 51 _ (by decide) rfl rfl) | 52, _ => RgQ.val_at (hok 9 52 _ (by decide) rfl rfl) | 53, _ => RgQ.val_at (hok 10 53 _ (by decide) rfl rfl) | 54, _ => RgQ.val_at (hok 11 54 _ (by decide) rfl rfl) | 55, _ => RgQ.val_at (hok 12 55 _ (by decide) rfl rfl) | 56, _ => RgQ.val_at (hok 13 56 _ (by decide) rfl rfl) | 57, _ => hy57 | 58, _ => RgQ.val_at (hok 15 58 _ (by decide) rfl rfl) | 59, _ => RgQ.val_at (hok 16 59 _ (by decide) rfl rfl) | 60, _ => RgQ.val_at (hok 17 60 _ (by decide) rfl rfl) | 61, _ => RgQ.val_at (hok 18 61 _ (by decide) rfl rfl) | 62, _ => RgQ.val_at (hok 19 62 _ (by decide) rfl rfl) | 63, _ => RgQ.val_at (hok 20 63 _ (by decide) rfl rfl) | n + 64, h => absurd h (by show ¬ n + 64 < 64; omega))
  clear hs hd hlow hok hy48 hy57
  go_wp2_with fail
  go_ret
  exact ⟨rfl, HB.out.trans (hS.mono HB.out.size)⟩
set_option maxHeartbeats 4000000 in
set_option maxRecDepth 100000 in
theorem walk_3 (c h t i p c2 h2 t2 i2 p2 n R1 R2 : Int) (w : World)
    (HA : Hid (∀ V, Calls Tryd.prog 9 #[.int .i64 n, .int .i64 5] V fun e w' => e = .returned (.int .i64 3) ∧ V = w'))
    (HC1 : Hid (∀ V, Calls Tryd.prog 11 #[.agg #[.int .i64 c, .int .i64 h, .int .i64 t, .int .i64 i, .int .i64 p], .agg #[.int .i64 c2, .int .i64 h2, .int .i64 t2, .int .i64 i2, .int .i64 p2]] V fun e w' => e = .returned (.int .i64 R1) ∧ Below V.heap.size V w'))
    (HC2 : Hid (∀ V, Calls Tryd.prog 11 #[.agg #[.int .i64 c, .int .i64 h, .int .i64 t, .int .i64 i, .int .i64 p], .agg #[.int .i64 c, .int .i64 h, .int .i64 t, .int .i64 i2, .int .i64 p]] V fun e w' => e = .returned (.int .i64 R2) ∧ Below V.heap.size V w'))
    (HR1 : Hid (∀ (V : World) (g1 g2 : Nat), V.heap[g1]? = some (.cells #[.int .i64 c, .int .i64 h, .int .i64 t, .int .i64 i, .int .i64 p] 3 (0, 0)) → V.heap[g2]? = some (.cells #[.int .i64 c2, .int .i64 h2, .int .i64 t2, .int .i64 i2, .int .i64 p2] 3 (0, 0)) → Calls Tryd.prog 12 #[.slice (some ⟨g1, 0, none⟩) 5 5, .slice (some ⟨g2, 0, none⟩) 5 5] V fun e w' => e = .returned (.int .i64 R1) ∧ Below V.heap.size V w'))
    (HR2 : Hid (∀ (V : World) (g1 g2 : Nat), V.heap[g1]? = some (.cells #[.int .i64 c, .int .i64 h, .int .i64 t, .int .i64 i, .int .i64 p] 3 (0, 0)) → V.heap[g2]? = some (.cells #[.int .i64 c, .int .i64 h, .int .i64 t, .int .i64 i2, .int .i64 p] 3 (0, 0)) → Calls Tryd.prog 12 #[.slice (some ⟨g1, 0, none⟩) 5 5, .slice (some ⟨g2, 0, none⟩) 5 5] V fun e w' => e = .returned (.int .i64 R2) ∧ Below V.heap.size V w'))
    (HL : Hid (∀ V, Below w.heap.size w V → Calls Tryd.prog 13 #[] V fun e w' => e = .returned (.bool true) ∧ Below V.heap.size V w')) :
    Calls Tryd.prog 3 #[.agg #[.int .i64 c, .int .i64 h, .int .i64 t, .int .i64 i, .int .i64 p], .agg #[.int .i64 c2, .int .i64 h2, .int .i64 t2, .int .i64 i2, .int .i64 p2], .int .i64 n] w fun e w' => e = .returned (.bool true) ∧ Below w.heap.size w w' := by
  obtain ⟨U, hU, hb0, kx, ky, hlt0⟩ := two_boxes w (.cells #[.int .i64 c, .int .i64 h, .int .i64 t, .int .i64 i, .int .i64 p] 25) (.cells #[.int .i64 c2, .int .i64 h2, .int .i64 t2, .int .i64 i2, .int .i64 p2] 25)
  obtain ⟨U2, hU2⟩ : ∃ V, U.alloc (.cells #[.int .i64 c, .int .i64 h, .int .i64 t, .int .i64 i, .int .i64 p] 25) = V := ⟨_, rfl⟩
  have hb2 : Below U.heap.size U U2 := hU2 ▸ one_box U _
  have hz2 : U.heap.size < U2.heap.size := by rw [← hU2]; simp
  have kz2 : U2.heap[U.heap.size]? = some (.cells #[.int .i64 c, .int .i64 h, .int .i64 t, .int .i64 i, .int .i64 p] 25 (0, 0)) := by rw [← hU2]; exact new_at rfl
  have kx2 := (hb2.block _ (by omega)).trans kx
  have ky2 := (hb2.block _ hlt0).trans ky
  have kx3 : (U2.setCell ⟨U.heap.size, 3, none⟩ (.int .i64 i2)).heap[w.heap.size]? = some (.cells #[.int .i64 c, .int .i64 h, .int .i64 t, .int .i64 i, .int .i64 p] 25 (0, 0)) := (other_set (by omega)).trans kx2
  have ky3 : (U2.setCell ⟨U.heap.size, 3, none⟩ (.int .i64 i2)).heap[w.heap.size + 1]? = some (.cells #[.int .i64 c2, .int .i64 h2, .int .i64 t2, .int .i64 i2, .int .i64 p2] 25 (0, 0)) := (other_set (by omega)).trans ky2
  have kz3 : (U2.setCell ⟨U.heap.size, 3, none⟩ (.int .i64 i2)).heap[U.heap.size]? = some (.cells #[.int .i64 c, .int .i64 h, .int .i64 t, .int .i64 i2, .int .i64 p] 25 (0, 0)) := cell_set kz2
  have hb3 : Below w.heap.size w (U2.setCell ⟨U.heap.size, 3, none⟩ (.int .i64 i2)) := (hb0.trans (hb2.mono hb0.size)).trans ((Below.refl _ U2).setCell (by have := hb0.size; omega) _)
  have hs3 : U2.heap.size = (U2.setCell ⟨U.heap.size, 3, none⟩ (.int .i64 i2)).heap.size := by simp [World.setCell]
  have HX3 := Lib.hid (And.intro kx3 (And.intro ky3 (And.intro kz3 hb3)))
  have HLT := Lib.hid (And.intro hlt0 (And.intro hz2 hs3))
  obtain ⟨u0, u1, u2, u3, u4⟩ := row5 kx
  obtain ⟨dx0, dx1, dx2, dx3, dx4⟩ := row5 kx2
  obtain ⟨dy0, dy1, dy2, dy3, dy4⟩ := row5 ky2
  obtain ⟨dz0, dz1, dz2, dz3, dz4⟩ := row5 kz2
  obtain ⟨v0, v1, v2, v3, v4⟩ := row5 kx3
  have fz := froz kz2 3
  clear kx ky kx2 ky2 kz2 kx3 ky3 kz3 hb0 hb2 hb3 hs3
  go_enter Tryd.func3, Tryd.ntmps3
  go_wp2_with (go_at_call 9; refine (HA.out _).mono ?_; rintro e w1 ⟨rfl, rfl⟩)
  clear hU hU2 u0 u1 u2 u3 u4 dx0 dx1 dx2 dx3 dx4 dy0 dy1 dy2 dy3 dy4 dz0 dz1 dz2 dz3 dz4 v0 v1 v2 v3 v4 fz
  obtain ⟨kx3, ky3, kz3, hb3⟩ := HX3.out
  obtain ⟨hlt0, hz2, hs3⟩ := HLT.out
  obtain ⟨V8, hV8⟩ : ∃ V, (U2.setCell ⟨U.heap.size, 3, none⟩ (.int .i64 i2)) = V := ⟨_, rfl⟩
  clear HX3 HLT
  rw [hV8] at kx3 ky3 kz3 hb3 hs3 ⊢
  clear hV8
  refine (msgKey_any _ _ _ _ _ _).mono ?_
  rintro e w9 ⟨⟨g8, rfl, k8⟩, hb9⟩
  have HB := Lib.hid (hb3.trans (hb9.mono hb3.size))
  have HK := Lib.hid (fun (V : World) (hV : Below w9.heap.size w9 V) => And.intro (row5 ((hV.block _ (by have := hb9.size; omega)).trans ((hb9.block _ (by omega)).trans kx3))) (And.intro (row5 ((hV.block _ (by have := hb9.size; omega)).trans ((hb9.block _ (by omega)).trans ky3))) (row5 ((hV.block _ (by have := hb9.size; omega)).trans ((hb9.block _ (by omega)).trans kz3)))))
  have H8 := Lib.hid (fun (V : World) (hV : Below w9.heap.size w9 V) => (hV.block _ (heap_lt k8)).trans k8)
  clear kx3 ky3 kz3 hb3 k8 hb9 hlt0 hz2 hs3
  go_wp2_with fail
  refine RgQ.region_specs 22 (fun i => (if i = 21 then 6 else 43 + i)) (fun ix_ => match ix_ with | 0 => .val (.agg #[.int .i64 c, .int .i64 h, .int .i64 t, .int .i64 i, .int .i64 p]) | 1 => .val (.agg #[.int .i64 c2, .int .i64 h2, .int .i64 t2, .int .i64 i2, .int .i64 p2]) | 2 => .val (.int .i64 R1) | 3 => .val (.slice (some ⟨g8, 0, none⟩) 5 5) | 4 => .val (.agg #[.int .i64 c2, .int .i64 h2, .int .i64 t2, .int .i64 i2, .int .i64 p2]) | 5 => .row #[.int .i64 c2, .int .i64 h2, .int .i64 t2, .int .i64 i2, .int .i64 p2] 3 5 | 6 => .val (.int .i64 R1) | 7 => .val (.bool true) | 8 => .val (.bool true) | 9 => .val (.agg #[.int .i64 c, .int .i64 h, .int .i64 t, .int .i64 i, .int .i64 p]) | 10 => .val (.agg #[.int .i64 c, .int .i64 h, .int .i64 t, .int .i64 i2, .int .i64 p]) | 11 => .val (.int .i64 R2) | 12 => .val (.slice (some ⟨g8, 0, none⟩) 5 5) | 13 => .val (.agg #[.int .i64 c, .int .i64 h, .int .i64 t, .int .i64 i2, .int .i64 p]) | 14 => .row #[.int .i64 c, .int .i64 h, .int .i64 t, .int .i64 i2, .int .i64 p] 3 5 | 15 => .val (.int .i64 R2) | 16 => .val (.bool true) | 17 => .val (.bool true) | 18 => .val (.bool true) | 19 => .val (.bool true) | 20 => .val (.bool true) | 21 => .val (.bool true) | _ => .val undef) (by kernel_rfl) rfl (by kernel_rfl) (fun i hi => by show (if i = 21 then 6 else 43 + i) < 64; (repeat' split) <;> omega) (fun i j hi hj => by show (if i = 21 then 6 else 43 + i) = (if j = 21 then 6 else 43 + j) → i = j; (repeat' split) <;> omega) ?step ?fin
  case step =>
    intro listed A_ w3 ix op_ hI ho hdep
    have hi : ix < 22 := (Array.getElem?_eq_some_iff.1 ho).1
    have hcase : ix = 0 ∨ ix = 1 ∨ ix = 2 ∨ ix = 3 ∨ ix = 4 ∨ ix = 5 ∨ ix = 6 ∨ ix = 7 ∨ ix = 8 ∨ ix = 9 ∨ ix = 10 ∨ ix = 11 ∨ ix = 12 ∨ ix = 13 ∨ ix = 14 ∨ ix = 15 ∨ ix = 16 ∨ ix = 17 ∨ ix = 18 ∨ ix = 19 ∨ ix = 20 ∨ ix = 21 := by omega
    have hh := hI.held
    clear hi
    rcases hcase with rfl | rfl | rfl | rfl | rfl | rfl | rfl | rfl | rfl | rfl | rfl | rfl | rfl | rfl | rfl | rfl | rfl | rfl | rfl | rfl | rfl | rfl
    · simp only [List.getElem?_toArray, List.getElem?_cons_zero, Option.some.injEq] at ho
      subst ho
      refine ⟨rfl, ?_⟩
      have e3 : A_.tmps[3]?.getD undef = .pointer (some ⟨w.heap.size, 0, none⟩) := by rw [hI.low 3 (by decide)]; rfl
      clear hI hdep
      obtain ⟨⟨dx0, dx1, dx2, dx3, dx4⟩, ⟨dy0, dy1, dy2, dy3, dy4⟩, dz0, dz1, dz2, dz3, dz4⟩ := HK.out w3 hh
      exact .run rfl (.agg #[.int .i64 c, .int .i64 h, .int .i64 t, .int .i64 i, .int .i64 p]) w3 (by simp [execOp, go_sem, Act.eval, *]) (Below.refl _ _) rfl
    · simp only [List.getElem?_toArray, List.getElem?_cons_succ, List.getElem?_cons_zero, Option.some.injEq] at ho
      subst ho
      refine ⟨rfl, ?_⟩
      have e4 : A_.tmps[4]?.getD undef = .pointer (some ⟨w.heap.size + 1, 0, none⟩) := by rw [hI.low 4 (by decide)]; rfl
      clear hI hdep
      obtain ⟨⟨dx0, dx1, dx2, dx3, dx4⟩, ⟨dy0, dy1, dy2, dy3, dy4⟩, dz0, dz1, dz2, dz3, dz4⟩ := HK.out w3 hh
      exact .run rfl (.agg #[.int .i64 c2, .int .i64 h2, .int .i64 t2, .int .i64 i2, .int .i64 p2]) w3 (by simp [execOp, go_sem, Act.eval, *]) (Below.refl _ _) rfl
    · simp only [List.getElem?_toArray, List.getElem?_cons_succ, List.getElem?_cons_zero, Option.some.injEq] at ho
      subst ho
      refine ⟨rfl, ?_⟩
      have e43 : A_.tmps[43]?.getD undef = .agg #[.int .i64 c, .int .i64 h, .int .i64 t, .int .i64 i, .int .i64 p] := getD_of (hI.val_ (i := 0) rfl rfl (by decide) (hdep ⟨0, .data⟩ (by simp) rfl))
      have e44 : A_.tmps[44]?.getD undef = .agg #[.int .i64 c2, .int .i64 h2, .int .i64 t2, .int .i64 i2, .int .i64 p2] := getD_of (hI.val_ (i := 1) rfl rfl (by decide) (hdep ⟨1, .data⟩ (by simp) rfl))
      clear hI hdep
      exact .call rfl 11 #[.agg #[.int .i64 c, .int .i64 h, .int .i64 t, .int .i64 i, .int .i64 p], .agg #[.int .i64 c2, .int .i64 h2, .int .i64 t2, .int .i64 i2, .int .i64 p2]] (.int .i64 R1) (by simp [go_sem, Act.eval, e43, e44]) rfl (HC1.out w3)
    · simp only [List.getElem?_toArray, List.getElem?_cons_succ, List.getElem?_cons_zero, Option.some.injEq] at ho
      subst ho
      refine ⟨rfl, ?_⟩
      have e8 : A_.tmps[8]?.getD undef = .slice (some ⟨g8, 0, none⟩) 5 5 := by rw [hI.low 8 (by decide)]; rfl
      clear hI hdep
      exact .run rfl (.slice (some ⟨g8, 0, none⟩) 5 5) w3 (by simp [execOp, go_sem, Act.eval, e8]) (Below.refl _ _) rfl
    · simp only [List.getElem?_toArray, List.getElem?_cons_succ, List.getElem?_cons_zero, Option.some.injEq] at ho
      subst ho
      refine ⟨rfl, ?_⟩
      have e4 : A_.tmps[4]?.getD undef = .pointer (some ⟨w.heap.size + 1, 0, none⟩) := by rw [hI.low 4 (by decide)]; rfl
      clear hI hdep
      obtain ⟨⟨dx0, dx1, dx2, dx3, dx4⟩, ⟨dy0, dy1, dy2, dy3, dy4⟩, dz0, dz1, dz2, dz3, dz4⟩ := HK.out w3 hh
      exact .run rfl (.agg #[.int .i64 c2, .int .i64 h2, .int .i64 t2, .int .i64 i2, .int .i64 p2]) w3 (by simp [execOp, go_sem, Act.eval, *]) (Below.refl _ _) rfl
    · simp only [List.getElem?_toArray, List.getElem?_cons_succ, List.getElem?_cons_zero, Option.some.injEq] at ho
      subst ho
      refine ⟨rfl, ?_⟩
      have e47 : A_.tmps[47]?.getD undef = .agg #[.int .i64 c2, .int .i64 h2, .int .i64 t2, .int .i64 i2, .int .i64 p2] := getD_of (hI.val_ (i := 4) rfl rfl (by decide) (hdep ⟨4, .data⟩ (by simp) rfl))
      clear hI hdep
      exact .callr rfl 10 #[.agg #[.int .i64 c2, .int .i64 h2, .int .i64 t2, .int .i64 i2, .int .i64 p2]] (by simp [go_sem, Act.eval, e47]) (key_row _ _ _ _ _ w3)
    · simp only [List.getElem?_toArray, List.getElem?_cons_succ, List.getElem?_cons_zero, Option.some.injEq] at ho
      subst ho
      refine ⟨rfl, ?_⟩
      have e46 : A_.tmps[46]?.getD undef = .slice (some ⟨g8, 0, none⟩) 5 5 := getD_of (hI.val_ (i := 3) rfl rfl (by decide) (hdep ⟨3, .data⟩ (by simp) rfl))
      obtain ⟨g48, e48, r48⟩ := hI.row_ (i := 5) (j := 48) rfl rfl (by decide) (hdep ⟨5, .data⟩ (by simp) rfl)
      clear hI hdep
      exact .call rfl 12 #[.slice (some ⟨g8, 0, none⟩) 5 5, .slice (some ⟨g48, 0, none⟩) 5 5] (.int .i64 R1) (by simp [go_sem, Act.eval, e46, e48]) rfl (HR1.out w3 g8 g48 (H8.out w3 hh) r48)
    · simp only [List.getElem?_toArray, List.getElem?_cons_succ, List.getElem?_cons_zero, Option.some.injEq] at ho
      subst ho
      refine ⟨rfl, ?_⟩
      have e45 : A_.tmps[45]?.getD undef = .int .i64 R1 := getD_of (hI.val_ (i := 2) rfl rfl (by decide) (hdep ⟨2, .data⟩ (by simp) rfl))
      have e49 : A_.tmps[49]?.getD undef = .int .i64 R1 := getD_of (hI.val_ (i := 6) rfl rfl (by decide) (hdep ⟨6, .data⟩ (by simp) rfl))
      clear hI hdep
      exact .run rfl (.bool true) w3 (by simp [execOp, go_sem, Act.eval, *]) (Below.refl _ _) rfl
    · simp only [List.getElem?_toArray, List.getElem?_cons_succ, List.getElem?_cons_zero, Option.some.injEq] at ho
      subst ho
      refine ⟨rfl, ?_⟩
      have e50 : A_.tmps[50]?.getD undef = .bool true := getD_of (hI.val_ (i := 7) rfl rfl (by decide) (hdep ⟨7, .data⟩ (by simp) rfl))
      clear hI hdep
      exact .run rfl (.bool true) w3 (by simp [execOp, go_sem, Act.eval, e50]) (Below.refl _ _) rfl
    · simp only [List.getElem?_toArray, List.getElem?_cons_succ, List.getElem?_cons_zero, Option.some.injEq] at ho
      subst ho
      refine ⟨rfl, ?_⟩
      have q51 : A_.tmps[51]? = some (.bool true) := hI.val_ (i := 8) rfl rfl (by decide) (hdep ⟨8, .guard⟩ (by simp) rfl)
      have e3 : A_.tmps[3]?.getD undef = .pointer (some ⟨w.heap.size, 0, none⟩) := by rw [hI.low 3 (by decide)]; rfl
      clear hI hdep
      obtain ⟨⟨dx0, dx1, dx2, dx3, dx4⟩, ⟨dy0, dy1, dy2, dy3, dy4⟩, dz0, dz1, dz2, dz3, dz4⟩ := HK.out w3 hh
      exact .run ((wanted_some rfl rfl q51).trans rfl) (.agg #[.int .i64 c, .int .i64 h, .int .i64 t, .int .i64 i, .int .i64 p]) w3 (by simp [execOp, go_sem, Act.eval, *]) (Below.refl _ _) rfl
    · simp only [List.getElem?_toArray, List.getElem?_cons_succ, List.getElem?_cons_zero, Option.some.injEq] at ho
      subst ho
      refine ⟨rfl, ?_⟩
      have q51 : A_.tmps[51]? = some (.bool true) := hI.val_ (i := 8) rfl rfl (by decide) (hdep ⟨8, .guard⟩ (by simp) rfl)
      have e7 : A_.tmps[7]?.getD undef = .pointer (some ⟨U.heap.size, 0, none⟩) := by rw [hI.low 7 (by decide)]; rfl
      clear hI hdep
      obtain ⟨⟨dx0, dx1, dx2, dx3, dx4⟩, ⟨dy0, dy1, dy2, dy3, dy4⟩, dz0, dz1, dz2, dz3, dz4⟩ := HK.out w3 hh
      exact .run ((wanted_some rfl rfl q51).trans rfl) (.agg #[.int .i64 c, .int .i64 h, .int .i64 t, .int .i64 i2, .int .i64 p]) w3 (by simp [execOp, go_sem, Act.eval, *]) (Below.refl _ _) rfl
    · simp only [List.getElem?_toArray, List.getElem?_cons_succ, List.getElem?_cons_zero, Option.some.injEq] at ho
      subst ho
      refine ⟨rfl, ?_⟩
      have q51 : A_.tmps[51]? = some (.bool true) := hI.val_ (i := 8) rfl rfl (by decide) (hdep ⟨8, .guard⟩ (by simp) rfl)
      have e52 : A_.tmps[52]?.getD undef = .agg #[.int .i64 c, .int .i64 h, .int .i64 t, .int .i64 i, .int .i64 p] := getD_of (hI.val_ (i := 9) rfl rfl (by decide) (hdep ⟨9, .data⟩ (by simp) rfl))
      have e53 : A_.tmps[53]?.getD undef = .agg #[.int .i64 c, .int .i64 h, .int .i64 t, .int .i64 i2, .int .i64 p] := getD_of (hI.val_ (i := 10) rfl rfl (by decide) (hdep ⟨10, .data⟩ (by simp) rfl))
      clear hI hdep
      exact .call ((wanted_some rfl rfl q51).trans rfl) 11 #[.agg #[.int .i64 c, .int .i64 h, .int .i64 t, .int .i64 i, .int .i64 p], .agg #[.int .i64 c, .int .i64 h, .int .i64 t, .int .i64 i2, .int .i64 p]] (.int .i64 R2) (by simp [go_sem, Act.eval, e52, e53]) rfl (HC2.out w3)
    · simp only [List.getElem?_toArray, List.getElem?_cons_succ, List.getElem?_cons_zero, Option.some.injEq] at ho
      subst ho
      refine ⟨rfl, ?_⟩
      have q51 : A_.tmps[51]? = some (.bool true) := hI.val_ (i := 8) rfl rfl (by decide) (hdep ⟨8, .guard⟩ (by simp) rfl)
      have e8 : A_.tmps[8]?.getD undef = .slice (some ⟨g8, 0, none⟩) 5 5 := by rw [hI.low 8 (by decide)]; rfl
      clear hI hdep
      exact .run ((wanted_some rfl rfl q51).trans rfl) (.slice (some ⟨g8, 0, none⟩) 5 5) w3 (by simp [execOp, go_sem, Act.eval, e8]) (Below.refl _ _) rfl
    · simp only [List.getElem?_toArray, List.getElem?_cons_succ, List.getElem?_cons_zero, Option.some.injEq] at ho
      subst ho
      refine ⟨rfl, ?_⟩
      have q51 : A_.tmps[51]? = some (.bool true) := hI.val_ (i := 8) rfl rfl (by decide) (hdep ⟨8, .guard⟩ (by simp) rfl)
      have e7 : A_.tmps[7]?.getD undef = .pointer (some ⟨U.heap.size, 0, none⟩) := by rw [hI.low 7 (by decide)]; rfl
      clear hI hdep
      obtain ⟨⟨dx0, dx1, dx2, dx3, dx4⟩, ⟨dy0, dy1, dy2, dy3, dy4⟩, dz0, dz1, dz2, dz3, dz4⟩ := HK.out w3 hh
      exact .run ((wanted_some rfl rfl q51).trans rfl) (.agg #[.int .i64 c, .int .i64 h, .int .i64 t, .int .i64 i2, .int .i64 p]) w3 (by simp [execOp, go_sem, Act.eval, *]) (Below.refl _ _) rfl
    · simp only [List.getElem?_toArray, List.getElem?_cons_succ, List.getElem?_cons_zero, Option.some.injEq] at ho
      subst ho
      refine ⟨rfl, ?_⟩
      have q51 : A_.tmps[51]? = some (.bool true) := hI.val_ (i := 8) rfl rfl (by decide) (hdep ⟨8, .guard⟩ (by simp) rfl)
      have e56 : A_.tmps[56]?.getD undef = .agg #[.int .i64 c, .int .i64 h, .int .i64 t, .int .i64 i2, .int .i64 p] := getD_of (hI.val_ (i := 13) rfl rfl (by decide) (hdep ⟨13, .data⟩ (by simp) rfl))
      clear hI hdep
      exact .callr ((wanted_some rfl rfl q51).trans rfl) 10 #[.agg #[.int .i64 c, .int .i64 h, .int .i64 t, .int .i64 i2, .int .i64 p]] (by simp [go_sem, Act.eval, e56]) (key_row _ _ _ _ _ w3)
    · simp only [List.getElem?_toArray, List.getElem?_cons_succ, List.getElem?_cons_zero, Option.some.injEq] at ho
      subst ho
      refine ⟨rfl, ?_⟩
      have q51 : A_.tmps[51]? = some (.bool true) := hI.val_ (i := 8) rfl rfl (by decide) (hdep ⟨8, .guard⟩ (by simp) rfl)
      have e55 : A_.tmps[55]?.getD undef = .slice (some ⟨g8, 0, none⟩) 5 5 := getD_of (hI.val_ (i := 12) rfl rfl (by decide) (hdep ⟨12, .data⟩ (by simp) rfl))
      obtain ⟨g57, e57, r57⟩ := hI.row_ (i := 14) (j := 57) rfl rfl (by decide) (hdep ⟨14, .data⟩ (by simp) rfl)
      clear hI hdep
      exact .call ((wanted_some rfl rfl q51).trans rfl) 12 #[.slice (some ⟨g8, 0, none⟩) 5 5, .slice (some ⟨g57, 0, none⟩) 5 5] (.int .i64 R2) (by simp [go_sem, Act.eval, e55, e57]) rfl (HR2.out w3 g8 g57 (H8.out w3 hh) r57)
    · simp only [List.getElem?_toArray, List.getElem?_cons_succ, List.getElem?_cons_zero, Option.some.injEq] at ho
      subst ho
      refine ⟨rfl, ?_⟩
      have q51 : A_.tmps[51]? = some (.bool true) := hI.val_ (i := 8) rfl rfl (by decide) (hdep ⟨8, .guard⟩ (by simp) rfl)
      have e54 : A_.tmps[54]?.getD undef = .int .i64 R2 := getD_of (hI.val_ (i := 11) rfl rfl (by decide) (hdep ⟨11, .data⟩ (by simp) rfl))
      have e58 : A_.tmps[58]?.getD undef = .int .i64 R2 := getD_of (hI.val_ (i := 15) rfl rfl (by decide) (hdep ⟨15, .data⟩ (by simp) rfl))
      clear hI hdep
      exact .run ((wanted_some rfl rfl q51).trans rfl) (.bool true) w3 (by simp [execOp, go_sem, Act.eval, *]) (Below.refl _ _) rfl
    · simp only [List.getElem?_toArray, List.getElem?_cons_succ, List.getElem?_cons_zero, Option.some.injEq] at ho
      subst ho
      refine ⟨rfl, ?_⟩
      have e51 : A_.tmps[51]?.getD undef = .bool true := getD_of (hI.val_ (i := 8) rfl rfl (by decide) (hdep ⟨8, .data⟩ (by simp) rfl))
      have e59 : A_.tmps[59]?.getD undef = .bool true := getD_of (hI.val_ (i := 16) rfl rfl (by decide) (hdep ⟨16, .data⟩ (by simp) rfl))
      clear hI hdep
      exact .run rfl (.bool true) w3 (by simp [execOp, go_sem, Act.eval, e51, e59]) (Below.refl _ _) rfl
    · simp only [List.getElem?_toArray, List.getElem?_cons_succ, List.getElem?_cons_zero, Option.some.injEq] at ho
      subst ho
      refine ⟨rfl, ?_⟩
      have e60 : A_.tmps[60]?.getD undef = .bool true := getD_of (hI.val_ (i := 17) rfl rfl (by decide) (hdep ⟨17, .data⟩ (by simp) rfl))
      clear hI hdep
      exact .run rfl (.bool true) w3 (by simp [execOp, go_sem, Act.eval, e60]) (Below.refl _ _) rfl
    · simp only [List.getElem?_toArray, List.getElem?_cons_succ, List.getElem?_cons_zero, Option.some.injEq] at ho
      subst ho
      refine ⟨rfl, ?_⟩
      have q61 : A_.tmps[61]? = some (.bool true) := hI.val_ (i := 18) rfl rfl (by decide) (hdep ⟨18, .guard⟩ (by simp) rfl)
      clear hI hdep
      exact .call ((wanted_some rfl rfl q61).trans rfl) 13 #[] (.bool true) (by simp [go_sem]) rfl (HL.out w3 (HB.out.trans (hh.mono HB.out.size)))
    · simp only [List.getElem?_toArray, List.getElem?_cons_succ, List.getElem?_cons_zero, Option.some.injEq] at ho
      subst ho
      refine ⟨rfl, ?_⟩
      have e61 : A_.tmps[61]?.getD undef = .bool true := getD_of (hI.val_ (i := 18) rfl rfl (by decide) (hdep ⟨18, .data⟩ (by simp) rfl))
      have e62 : A_.tmps[62]?.getD undef = .bool true := getD_of (hI.val_ (i := 19) rfl rfl (by decide) (hdep ⟨19, .data⟩ (by simp) rfl))
      clear hI hdep
      exact .run rfl (.bool true) w3 (by simp [execOp, go_sem, Act.eval, e61, e62]) (Below.refl _ _) rfl
    · simp only [List.getElem?_toArray, List.getElem?_cons_succ, List.getElem?_cons_zero, Option.some.injEq] at ho
      subst ho
      refine ⟨rfl, ?_⟩
      have e63 : A_.tmps[63]?.getD undef = .bool true := getD_of (hI.val_ (i := 20) rfl rfl (by decide) (hdep ⟨20, .data⟩ (by simp) rfl))
      clear hI hdep
      exact .run rfl (.bool true) w3 (by simp [execOp, go_sem, Act.eval, e63]) (Below.refl _ _) rfl
  case fin =>
  intro A_ w3 hs hd hlow hS hok
  obtain ⟨y48, hy48⟩ := RgQ.row_at (hok 5 48 _ (by decide) rfl rfl)
  obtain ⟨y57, hy57⟩ := RgQ.row_at (hok 14 57 _ (by decide) rfl rfl)
  obtain rfl : A_ = ⟨#[.agg #[.int .i64 c, .int .i64 h, .int .i64 t, .int .i64 i, .int .i64 p], .agg #[.int .i64 c2, .int .i64 h2, .int .i64 t2, .int .i64 i2, .int .i64 p2], .int .i64 n, .pointer (some ⟨w.heap.size, 0, none⟩), .pointer (some ⟨w.heap.size + 1, 0, none⟩), undef, .bool true, .pointer (some ⟨U.heap.size, 0, none⟩), .slice (some ⟨g8, 0, none⟩) 5 5, .agg #[.int .i64 c, .int .i64 h, .int .i64 t, .int .i64 i, .int .i64 p], .int .i64 n, .int .i64 3, undef, undef, undef, .bool false, .bool false, undef, undef, undef, undef, undef, .bool false, .bool false, undef, undef, undef, undef, undef, .bool false, .bool false, undef, undef, undef, undef, undef, .bool true, .bool true, .pointer (some ⟨w.heap.size + 1, 3, none⟩), .int .i64 i2, .pointer (some ⟨U.heap.size, 3, none⟩), .agg #[.int .i64 c, .int .i64 h, .int .i64 t, .int .i64 i, .int .i64 p], .slice (some ⟨g8, 0, none⟩) 5 5, .agg #[.int .i64 c, .int .i64 h, .int .i64 t, .int .i64 i, .int .i64 p], .agg #[.int .i64 c2, .int .i64 h2, .int .i64 t2, .int .i64 i2, .int .i64 p2], .int .i64 R1, .slice (some ⟨g8, 0, none⟩) 5 5, .agg #[.int .i64 c2, .int .i64 h2, .int .i64 t2, .int .i64 i2, .int .i64 p2], y48, .int .i64 R1, .bool true, .bool true, .agg #[.int .i64 c, .int .i64 h, .int .i64 t, .int .i64 i, .int .i64 p], .agg #[.int .i64 c, .int .i64 h, .int .i64 t, .int .i64 i2, .int .i64 p], .int .i64 R2, .slice (some ⟨g8, 0, none⟩) 5 5, .agg #[.int .i64 c, .int .i64 h, .int .i64 t, .int .i64 i2, .int .i64 p], y57, .int .i64 R2, .bool true, .bool true, .bool true, .bool true, .bool true], []⟩ := act_ext hd hs (fun j hj => match j, hj with | 0, _ => (hlow 0 (by decide)).trans rfl | 1, _ => (hlow 1 (by decide)).trans rfl | 2, _ => (hlow 2 (by decide)).trans rfl | 3, _ => (hlow 3 (by decide)).trans rfl | 4, _ => (hlow 4 (by decide)).trans rfl | 5, _ => (hlow 5 (by decide)).trans rfl | 6, _ => RgQ.val_at (hok 21 6 _ (by decide) rfl rfl) | 7, _ => (hlow 7 (by decide)).trans rfl | 8, _ => (hlow 8 (by decide)).trans rfl | 9, _ => (hlow 9 (by decide)).trans rfl | 10, _ => (hlow 10 (by decide)).trans rfl | 11, _ => (hlow 11 (by decide)).trans rfl | 12, _ => (hlow 12 (by decide)).trans rfl | 13, _ => (hlow 13 (by decide)).trans rfl | 14, _ => (hlow 14 (by decide)).trans rfl | 15, _ => (hlow 15 (by decide)).trans rfl | 16, _ => (hlow 16 (by decide)).trans rfl | 17, _ => (hlow 17 (by decide)).trans rfl | 18, _ => (hlow 18 (by decide)).trans rfl | 19, _ => (hlow 19 (by decide)).trans rfl | 20, _ => (hlow 20 (by decide)).trans rfl | 21, _ => (hlow 21 (by decide)).trans rfl | 22, _ => (hlow 22 (by decide)).trans rfl | 23, _ => (hlow 23 (by decide)).trans rfl | 24, _ => (hlow 24 (by decide)).trans rfl | 25, _ => (hlow 25 (by decide)).trans rfl | 26, _ => (hlow 26 (by decide)).trans rfl | 27, _ => (hlow 27 (by decide)).trans rfl | 28, _ => (hlow 28 (by decide)).trans rfl | 29, _ => (hlow 29 (by decide)).trans rfl | 30, _ => (hlow 30 (by decide)).trans rfl | 31, _ => (hlow 31 (by decide)).trans rfl | 32, _ => (hlow 32 (by decide)).trans rfl | 33, _ => (hlow 33 (by decide)).trans rfl | 34, _ => (hlow 34 (by decide)).trans rfl | 35, _ => (hlow 35 (by decide)).trans rfl | 36, _ => (hlow 36 (by decide)).trans rfl | 37, _ => (hlow 37 (by decide)).trans rfl | 38, _ => (hlow 38 (by decide)).trans rfl | 39, _ => (hlow 39 (by decide)).trans rfl | 40, _ => (hlow 40 (by decide)).trans rfl | 41, _ => (hlow 41 (by decide)).trans rfl | 42, _ => (hlow 42 (by decide)).trans rfl | 43, _ => RgQ.val_at (hok 0 43 _ (by decide) rfl rfl) | 44, _ => RgQ.val_at (hok 1 44 _ (by decide) rfl rfl) | 45, _ => RgQ.val_at (hok 2 45 _ (by decide) rfl rfl) | 46, _ => RgQ.val_at (hok 3 46 _ (by decide) rfl rfl) | 47, _ => RgQ.val_at (hok 4 47 _ (by decide) rfl rfl) | 48, _ => hy48 | 49, _ => RgQ.val_at (hok 6 49 _ (by decide) rfl rfl) | 50, _ => RgQ.val_at (hok 7 50 _ (by decide) rfl rfl) | 51, _ => RgQ.val_at (hok 8 51 _ (by decide) rfl rfl) | 52, _ => RgQ.val_at (hok 9 52 _ (by decide) rfl rfl) | 53, _ => RgQ.val_at (hok 10 53 _ (by decide) rfl rfl) | 54, _ => RgQ.val_at (hok 11 54 _ (by decide) rfl rfl) | 55, _ => RgQ.val_at (hok 12 55 _ (by decide) rfl rfl) | 56, _ => RgQ.val_at (hok 13 56 _ (by decide) rfl rfl) | 57, _ => hy57 | 58, _ => RgQ.val_at (hok 15 58 _ (by decide) rfl rfl) | 59, _ => RgQ.val_at (hok 16 59 _ (by decide) rfl rfl) | 60, _ => RgQ.val_at (hok 17 60 _ (by decide) rfl rfl) | 61, _ => RgQ.val_at (hok 18 61 _ (by decide) rfl rfl) | 62, _ => RgQ.val_at (hok 19 62 _ (by decide) rfl rfl) | 63, _ => RgQ.val_at (hok 20 63 _ (by decide) rfl rfl) | n + 64, h => absurd h (by show ¬ n + 64 < 64; omega))
  clear hs hd hlow hok hy48 hy57
  go_wp2_with fail
  go_ret
  exact ⟨rfl, HB.out.trans (hS.mono HB.out.size)⟩
set_option maxHeartbeats 4000000 in
set_option maxRecDepth 100000 in
theorem walk_4 (c h t i p c2 h2 t2 i2 p2 n R1 R2 : Int) (w : World)
    (HA : Hid (∀ V, Calls Tryd.prog 9 #[.int .i64 n, .int .i64 5] V fun e w' => e = .returned (.int .i64 4) ∧ V = w'))
    (HC1 : Hid (∀ V, Calls Tryd.prog 11 #[.agg #[.int .i64 c, .int .i64 h, .int .i64 t, .int .i64 i, .int .i64 p], .agg #[.int .i64 c2, .int .i64 h2, .int .i64 t2, .int .i64 i2, .int .i64 p2]] V fun e w' => e = .returned (.int .i64 R1) ∧ Below V.heap.size V w'))
    (HC2 : Hid (∀ V, Calls Tryd.prog 11 #[.agg #[.int .i64 c, .int .i64 h, .int .i64 t, .int .i64 i, .int .i64 p], .agg #[.int .i64 c, .int .i64 h, .int .i64 t, .int .i64 i, .int .i64 p2]] V fun e w' => e = .returned (.int .i64 R2) ∧ Below V.heap.size V w'))
    (HR1 : Hid (∀ (V : World) (g1 g2 : Nat), V.heap[g1]? = some (.cells #[.int .i64 c, .int .i64 h, .int .i64 t, .int .i64 i, .int .i64 p] 3 (0, 0)) → V.heap[g2]? = some (.cells #[.int .i64 c2, .int .i64 h2, .int .i64 t2, .int .i64 i2, .int .i64 p2] 3 (0, 0)) → Calls Tryd.prog 12 #[.slice (some ⟨g1, 0, none⟩) 5 5, .slice (some ⟨g2, 0, none⟩) 5 5] V fun e w' => e = .returned (.int .i64 R1) ∧ Below V.heap.size V w'))
    (HR2 : Hid (∀ (V : World) (g1 g2 : Nat), V.heap[g1]? = some (.cells #[.int .i64 c, .int .i64 h, .int .i64 t, .int .i64 i, .int .i64 p] 3 (0, 0)) → V.heap[g2]? = some (.cells #[.int .i64 c, .int .i64 h, .int .i64 t, .int .i64 i, .int .i64 p2] 3 (0, 0)) → Calls Tryd.prog 12 #[.slice (some ⟨g1, 0, none⟩) 5 5, .slice (some ⟨g2, 0, none⟩) 5 5] V fun e w' => e = .returned (.int .i64 R2) ∧ Below V.heap.size V w'))
    (HL : Hid (∀ V, Below w.heap.size w V → Calls Tryd.prog 13 #[] V fun e w' => e = .returned (.bool true) ∧ Below V.heap.size V w')) :
    Calls Tryd.prog 3 #[.agg #[.int .i64 c, .int .i64 h, .int .i64 t, .int .i64 i, .int .i64 p], .agg #[.int .i64 c2, .int .i64 h2, .int .i64 t2, .int .i64 i2, .int .i64 p2], .int .i64 n] w fun e w' => e = .returned (.bool true) ∧ Below w.heap.size w w' := by
  obtain ⟨U, hU, hb0, kx, ky, hlt0⟩ := two_boxes w (.cells #[.int .i64 c, .int .i64 h, .int .i64 t, .int .i64 i, .int .i64 p] 25) (.cells #[.int .i64 c2, .int .i64 h2, .int .i64 t2, .int .i64 i2, .int .i64 p2] 25)
  obtain ⟨U2, hU2⟩ : ∃ V, U.alloc (.cells #[.int .i64 c, .int .i64 h, .int .i64 t, .int .i64 i, .int .i64 p] 25) = V := ⟨_, rfl⟩
  have hb2 : Below U.heap.size U U2 := hU2 ▸ one_box U _
  have hz2 : U.heap.size < U2.heap.size := by rw [← hU2]; simp
  have kz2 : U2.heap[U.heap.size]? = some (.cells #[.int .i64 c, .int .i64 h, .int .i64 t, .int .i64 i, .int .i64 p] 25 (0, 0)) := by rw [← hU2]; exact new_at rfl
  have kx2 := (hb2.block _ (by omega)).trans kx
  have ky2 := (hb2.block _ hlt0).trans ky
  have kx3 : (U2.setCell ⟨U.heap.size, 4, none⟩ (.int .i64 p2)).heap[w.heap.size]? = some (.cells #[.int .i64 c, .int .i64 h, .int .i64 t, .int .i64 i, .int .i64 p] 25 (0, 0)) := (other_set (by omega)).trans kx2
  have ky3 : (U2.setCell ⟨U.heap.size, 4, none⟩ (.int .i64 p2)).heap[w.heap.size + 1]? = some (.cells #[.int .i64 c2, .int .i64 h2, .int .i64 t2, .int .i64 i2, .int .i64 p2] 25 (0, 0)) := (other_set (by omega)).trans ky2
  have kz3 : (U2.setCell ⟨U.heap.size, 4, none⟩ (.int .i64 p2)).heap[U.heap.size]? = some (.cells #[.int .i64 c, .int .i64 h, .int .i64 t, .int .i64 i, .int .i64 p2] 25 (0, 0)) := cell_set kz2
  have hb3 : Below w.heap.size w (U2.setCell ⟨U.heap.size, 4, none⟩ (.int .i64 p2)) := (hb0.trans (hb2.mono hb0.size)).trans ((Below.refl _ U2).setCell (by have := hb0.size; omega) _)
  have hs3 : U2.heap.size = (U2.setCell ⟨U.heap.size, 4, none⟩ (.int .i64 p2)).heap.size := by simp [World.setCell]
  have HX3 := Lib.hid (And.intro kx3 (And.intro ky3 (And.intro kz3 hb3)))
  have HLT := Lib.hid (And.intro hlt0 (And.intro hz2 hs3))
  obtain ⟨u0, u1, u2, u3, u4⟩ := row5 kx
  obtain ⟨dx0, dx1, dx2, dx3, dx4⟩ := row5 kx2
  obtain ⟨dy0, dy1, dy2, dy3, dy4⟩ := row5 ky2
  obtain ⟨dz0, dz1, dz2, dz3, dz4⟩ := row5 kz2
  obtain ⟨v0, v1, v2, v3, v4⟩ := row5 kx3
  have fz := froz kz2 4
  clear kx ky kx2 ky2 kz2 kx3 ky3 kz3 hb0 hb2 hb3 hs3
  go_enter Tryd.func3, Tryd.ntmps3
  go_wp2_with (go_at_call 9; refine (HA.out _).mono ?_; rintro e w1 ⟨rfl, rfl⟩)
  clear hU hU2 u0 u1 u2 u3 u4 dx0 dx1 dx2 dx3 dx4 dy0 dy1 dy2 dy3 dy4 dz0 dz1 dz2 dz3 dz4 v0 v1 v2 v3 v4 fz
  obtain ⟨kx3, ky3, kz3, hb3⟩ := HX3.out
  obtain ⟨hlt0, hz2, hs3⟩ := HLT.out
  obtain ⟨V8, hV8⟩ : ∃ V, (U2.setCell ⟨U.heap.size, 4, none⟩ (.int .i64 p2)) = V := ⟨_, rfl⟩
  clear HX3 HLT
  rw [hV8] at kx3 ky3 kz3 hb3 hs3 ⊢
  clear hV8
  refine (msgKey_any _ _ _ _ _ _).mono ?_
  rintro e w9 ⟨⟨g8, rfl, k8⟩, hb9⟩
  have HB := Lib.hid (hb3.trans (hb9.mono hb3.size))
  have HK := Lib.hid (fun (V : World) (hV : Below w9.heap.size w9 V) => And.intro (row5 ((hV.block _ (by have := hb9.size; omega)).trans ((hb9.block _ (by omega)).trans kx3))) (And.intro (row5 ((hV.block _ (by have := hb9.size; omega)).trans ((hb9.block _ (by omega)).trans ky3))) (row5 ((hV.block _ (by have := hb9.size; omega)).trans ((hb9.block _ (by omega)).trans kz3)))))
  have H8 := Lib.hid (fun (V : World) (hV : Below w9.heap.size w9 V) => (hV.block _ (heap_lt k8)).trans k8)
  clear kx3 ky3 kz3 hb3 k8 hb9 hlt0 hz2 hs3
  go_wp2_with fail
  refine RgQ.region_specs 22 (fun i => (if i = 21 then 6 else 43 + i)) (fun ix_ => match ix_ with | 0 => .val (.agg #[.int .i64 c, .int .i64 h, .int .i64 t, .int .i64 i, .int .i64 p]) | 1 => .val (.agg #[.int .i64 c2, .int .i64 h2, .int .i64 t2, .int .i64 i2, .int .i64 p2]) | 2 => .val (.int .i64 R1) | 3 => .val (.slice (some ⟨g8, 0, none⟩) 5 5) | 4 => .val (.agg #[.int .i64 c2, .int .i64 h2, .int .i64 t2, .int .i64 i2, .int .i64 p2]) | 5 => .row #[.int .i64 c2, .int .i64 h2, .int .i64 t2, .int .i64 i2, .int .i64 p2] 3 5 | 6 => .val (.int .i64 R1) | 7 => .val (.bool true) | 8 => .val (.bool true) | 9 => .val (.agg #[.int .i64 c, .int .i64 h, .int .i64 t, .int .i64 i, .int .i64 p]) | 10 => .val (.agg #[.int .i64 c, .int .i64 h, .int .i64 t, .int .i64 i, .int .i64 p2]) | 11 => .val (.int .i64 R2) | 12 => .val (.slice (some ⟨g8, 0, none⟩) 5 5) | 13 => .val (.agg #[.int .i64 c, .int .i64 h, .int .i64 t, .int .i64 i, .int .i64 p2]) | 14 => .row #[.int .i64 c, .int .i64 h, .int .i64 t, .int .i64 i, .int .i64 p2] 3 5 | 15 => .val (.int .i64 R2) | 16 => .val (.bool true) | 17 => .val (.bool true) | 18 => .val (.bool true) | 19 => .val (.bool true) | 20 => .val (.bool true) | 21 => .val (.bool true) | _ => .val undef) (by kernel_rfl) rfl (by kernel_rfl) (fun i hi => by show (if i = 21 then 6 else 43 + i) < 64; (repeat' split) <;> omega) (fun i j hi hj => by show (if i = 21 then 6 else 43 + i) = (if j = 21 then 6 else 43 + j) → i = j; (repeat' split) <;> omega) ?step ?fin
  case step =>
    intro listed A_ w3 ix op_ hI ho hdep
    have hi : ix < 22 := (Array.getElem?_eq_some_iff.1 ho).1
    have hcase : ix = 0 ∨ ix = 1 ∨ ix = 2 ∨ ix = 3 ∨ ix = 4 ∨ ix = 5 ∨ ix = 6 ∨ ix = 7 ∨ ix = 8 ∨ ix = 9 ∨ ix = 10 ∨ ix = 11 ∨ ix = 12 ∨ ix = 13 ∨ ix = 14 ∨ ix = 15 ∨ ix = 16 ∨ ix = 17 ∨ ix = 18 ∨ ix = 19 ∨ ix = 20 ∨ ix = 21 := by omega
    have hh := hI.held
    clear hi
    rcases hcase with rfl | rfl | rfl | rfl | rfl | rfl | rfl | rfl | rfl | rfl | rfl | rfl | rfl | rfl | rfl | rfl | rfl | rfl | rfl | rfl | rfl | rfl
    · simp only [List.getElem?_toArray, List.getElem?_cons_zero, Option.some.injEq] at ho
      subst ho
      refine ⟨rfl, ?_⟩
      have e3 : A_.tmps[3]?.getD undef = .pointer (some ⟨w.heap.size, 0, none⟩) := by rw [hI.low 3 (by decide)]; rfl
      clear hI hdep
      obtain ⟨⟨dx0, dx1, dx2, dx3, dx4⟩, ⟨dy0, dy1, dy2, dy3, dy4⟩, dz0, dz1, dz2, dz3, dz4⟩ := HK.out w3 hh
      exact .run rfl (.agg #[.int .i64 c, .int .i64 h, .int .i64 t, .int .i64 i, .int .i64 p]) w3 (by simp [execOp, go_sem, Act.eval, *]) (Below.refl _ _) rfl
    · simp only [List.getElem?_toArray, List.getElem?_cons_succ, List.getElem?_cons_zero, Option.some.injEq] at ho
      subst ho
      refine ⟨rfl, ?_⟩
      have e4 : A_.tmps[4]?.getD undef = .pointer (some ⟨w.heap.size + 1, 0, none⟩) := by rw [hI.low 4 (by decide)]; rfl
      clear hI hdep
      obtain ⟨⟨dx0, dx1, dx2, dx3, dx4⟩, ⟨dy0, dy1, dy2, dy3, dy4⟩, dz0, dz1, dz2, dz3, dz4⟩ := HK.out w3 hh
      exact .run rfl (.agg #[.int .i64 c2, .int .i64 h2, .int .i64 t2, .int .i64 i2, .int .i64 p2]) w3 (by simp [execOp, go_sem, Act.eval, *]) (Below.refl _ _) rfl
    · simp only [List.getElem?_toArray, List.getElem?_cons_succ, List.getElem?_cons_zero, Option.some.injEq] at ho
      subst ho
      refine ⟨rfl, ?_⟩
      have e43 : A_.tmps[43]?.getD undef = .agg #[.int .i64 c, .int .i64 h, .int .i64 t, .int .i64 i, .int .i64 p] := getD_of (hI.val_ (i := 0) rfl rfl (by decide) (hdep ⟨0, .data⟩ (by simp) rfl))
      have e44 : A_.tmps[44]?.getD undef = .agg #[.int .i64 c2, .int .i64 h2, .int .i64 t2, .int .i64 i2, .int .i64 p2] := getD_of (hI.val_ (i := 1) rfl rfl (by decide) (hdep ⟨1, .data⟩ (by simp) rfl))
      clear hI hdep
      exact .call rfl 11 #[.agg #[.int .i64 c, .int .i64 h, .int .i64 t, .int .i64 i, .int .i64 p], .agg #[.int .i64 c2, .int .i64 h2, .int .i64 t2, .int .i64 i2, .int .i64 p2]] (.int .i64 R1) (by simp [go_sem, Act.eval, e43, e44]) rfl (HC1.out w3)
    · simp only [List.getElem?_toArray, List.getElem?_cons_succ, List.getElem?_cons_zero, Option.some.injEq] at ho
      subst ho
      refine ⟨rfl, ?_⟩
      have e8 : A_.tmps[8]?.getD undef = .slice (some ⟨g8, 0, none⟩) 5 5 := by rw [hI.low 8 (by decide)]; rfl
      clear hI hdep
      exact .run rfl (.slice (some ⟨g8, 0, none⟩) 5 5) w3 (by simp [execOp, go_sem, Act.eval, e8]) (Below.refl _ _) rfl
    · simp only [List.getElem?_toArray, List.getElem?_cons_succ, List.getElem?_cons_zero, Option.some.injEq] at ho
      subst ho
      refine ⟨rfl, ?_⟩
      have e4 : A_.tmps[4]?.getD undef = .pointer (some ⟨w.heap.size + 1, 0, none⟩) := by rw [hI.low 4 (by decide)]; rfl
      clear hI hdep
      obtain ⟨⟨dx0, dx1, dx2, dx3, dx4⟩, ⟨dy0, dy1, dy2, dy3, dy4⟩, dz0, dz1, dz2, dz3, dz4⟩ := HK.out w3 hh
      exact .run rfl (.agg #[.int .i64 c2, .int .i64 h2, .int .i64 t2, .int .i64 i2, .int .i64 p2]) w3 (by simp [execOp, go_sem, Act.eval, *]) (Below.refl _ _) rfl
    · simp only [List.getElem?_toArray, List.getElem?_cons_succ, List.getElem?_cons_zero, Option.some.injEq] at ho
      subst ho
      refine ⟨rfl, ?_⟩
      have e47 : A_.tmps[47]?.getD undef = .agg #[.int .i64 c2, .int .i64 h2, .int .i64 t2, .int .i64 i2, .int .i64 p2] := getD_of (hI.val_ (i := 4) rfl rfl (by decide) (hdep ⟨4, .data⟩ (by simp) rfl))
      clear hI hdep
      exact .callr rfl 10 #[.agg #[.int .i64 c2, .int .i64 h2, .int .i64 t2, .int .i64 i2, .int .i64 p2]] (by simp [go_sem, Act.eval, e47]) (key_row _ _ _ _ _ w3)
    · simp only [List.getElem?_toArray, List.getElem?_cons_succ, List.getElem?_cons_zero, Option.some.injEq] at ho
      subst ho
      refine ⟨rfl, ?_⟩
      have e46 : A_.tmps[46]?.getD undef = .slice (some ⟨g8, 0, none⟩) 5 5 := getD_of (hI.val_ (i := 3) rfl rfl (by decide) (hdep ⟨3, .data⟩ (by simp) rfl))
      obtain ⟨g48, e48, r48⟩ := hI.row_ (i := 5) (j := 48) rfl rfl (by decide) (hdep ⟨5, .data⟩ (by simp) rfl)
      clear hI hdep
      exact .call rfl 12 #[.slice (some ⟨g8, 0, none⟩) 5 5, .slice (some ⟨g48, 0, none⟩) 5 5] (.int .i64 R1) (by simp [go_sem, Act.eval, e46, e48]) rfl (HR1.out w3 g8 g48 (H8.out w3 hh) r48)
    · simp only [List.getElem?_toArray, List.getElem?_cons_succ, List.getElem?_cons_zero, Option.some.injEq] at ho
      subst ho
      refine ⟨rfl, ?_⟩
      have e45 : A_.tmps[45]?.getD undef = .int .i64 R1 := getD_of (hI.val_ (i := 2) rfl rfl (by decide) (hdep ⟨2, .data⟩ (by simp) rfl))
      have e49 : A_.tmps[49]?.getD undef = .int .i64 R1 := getD_of (hI.val_ (i := 6) rfl rfl (by decide) (hdep ⟨6, .data⟩ (by simp) rfl))
      clear hI hdep
      exact .run rfl (.bool true) w3 (by simp [execOp, go_sem, Act.eval, *]) (Below.refl _ _) rfl
    · simp only [List.getElem?_toArray, List.getElem?_cons_succ, List.getElem?_cons_zero, Option.some.injEq] at ho
      subst ho
      refine ⟨rfl, ?_⟩
      have e50 : A_.tmps[50]?.getD undef = .bool true := getD_of (hI.val_ (i := 7) rfl rfl (by decide) (hdep ⟨7, .data⟩ (by simp) rfl))
      clear hI hdep
      exact .run rfl (.bool true) w3 (by simp [execOp, go_sem, Act.eval, e50]) (Below.refl _ _) rfl
    · simp only [List.getElem?_toArray, List.getElem?_cons_succ, List.getElem?_cons_zero, Option.some.injEq] at ho
      subst ho
      refine ⟨rfl, ?_⟩
      have q51 : A_.tmps[51]? = some (.bool true) := hI.val_ (i := 8) rfl rfl (by decide) (hdep ⟨8, .guard⟩ (by simp) rfl)
      have e3 : A_.tmps[3]?.getD undef = .pointer (some ⟨w.heap.size, 0, none⟩) := by rw [hI.low 3 (by decide)]; rfl
      clear hI hdep
      obtain ⟨⟨dx0, dx1, dx2, dx3, dx4⟩, ⟨dy0, dy1, dy2, dy3, dy4⟩, dz0, dz1, dz2, dz3, dz4⟩ := HK.out w3 hh
      exact .run ((wanted_some rfl rfl q51).trans rfl) (.agg #[.int .i64 c, .int .i64 h, .int .i64 t, .int .i64 i, .int .i64 p]) w3 (by simp [execOp, go_sem, Act.eval, *]) (Below.refl _ _) rfl
    · simp only [List.getElem?_toArray, List.getElem?_cons_succ, List.getElem?_cons_zero, Option.some.injEq] at ho
      subst ho
      refine ⟨rfl, ?_⟩
      have q51 : A_.tmps[51]? = some (.bool true) := hI.val_ (i := 8) rfl rfl (by decide) (hdep ⟨8, .guard⟩ (by simp) rfl)
      have e7 : A_.tmps[7]?.getD undef = .pointer (some ⟨U.heap.size, 0, none⟩) := by rw [hI.low 7 (by decide)]; rfl
      clear hI hdep
      obtain ⟨⟨dx0, dx1, dx2, dx3, dx4⟩, ⟨dy0, dy1, dy2, dy3, dy4⟩, dz0, dz1, dz2, dz3, dz4⟩ := HK.out w3 hh
      exact .run ((wanted_some rfl rfl q51).trans rfl) (.agg #[.int .i64 c, .int .i64 h, .int .i64 t, .int .i64 i, .int .i64 p2]) w3 (by simp [execOp, go_sem, Act.eval, *]) (Below.refl _ _) rfl
    · simp only [List.getElem?_toArray, List.getElem?_cons_succ, List.getElem?_cons_zero, Option.some.injEq] at ho
      subst ho
      refine ⟨rfl, ?_⟩
      have q51 : A_.tmps[51]? = some (.bool true) := hI.val_ (i := 8) rfl rfl (by decide) (hdep ⟨8, .guard⟩ (by simp) rfl)
      have e52 : A_.tmps[52]?.getD undef = .agg #[.int .i64 c, .int .i64 h, .int .i64 t, .int .i64 i, .int .i64 p] := getD_of (hI.val_ (i := 9) rfl rfl (by decide) (hdep ⟨9, .data⟩ (by simp) rfl))
      have e53 : A_.tmps[53]?.getD undef = .agg #[.int .i64 c, .int .i64 h, .int .i64 t, .int .i64 i, .int .i64 p2] := getD_of (hI.val_ (i := 10) rfl rfl (by decide) (hdep ⟨10, .data⟩ (by simp) rfl))
      clear hI hdep
      exact .call ((wanted_some rfl rfl q51).trans rfl) 11 #[.agg #[.int .i64 c, .int .i64 h, .int .i64 t, .int .i64 i, .int .i64 p], .agg #[.int .i64 c, .int .i64 h, .int .i64 t, .int .i64 i, .int .i64 p2]] (.int .i64 R2) (by simp [go_sem, Act.eval, e52, e53]) rfl (HC2.out w3)
    · simp only [List.getElem?_toArray, List.getElem?_cons_succ, List.getElem?_cons_zero, Option.some.injEq] at ho
      subst ho
      refine ⟨rfl, ?_⟩
      have q51 : A_.tmps[51]? = some (.bool true) := hI.val_ (i := 8) rfl rfl (by decide) (hdep ⟨8, .guard⟩ (by simp) rfl)
      have e8 : A_.tmps[8]?.getD undef = .slice (some ⟨g8, 0, none⟩) 5 5 := by rw [hI.low 8 (by decide)]; rfl
      clear hI hdep
      exact .run ((wanted_some rfl rfl q51).trans rfl) (.slice (some ⟨g8, 0, none⟩) 5 5) w3 (by simp [execOp, go_sem, Act.eval, e8]) (Below.refl _ _) rfl
    · simp only [List.getElem?_toArray, List.getElem?_cons_succ, List.getElem?_cons_zero, Option.some.injEq] at ho
      subst ho
      refine ⟨rfl, ?_⟩
      have q51 : A_.tmps[51]? = some (.bool true) := hI.val_ (i := 8) rfl rfl (by decide) (hdep ⟨8, .guard⟩ (by simp) rfl)
      have e7 : A_.tmps[7]?.getD undef = .pointer (some ⟨U.heap.size, 0, none⟩) := by rw [hI.low 7 (by decide)]; rfl
      clear hI hdep
      obtain ⟨⟨dx0, dx1, dx2, dx3, dx4⟩, ⟨dy0, dy1, dy2, dy3, dy4⟩, dz0, dz1, dz2, dz3, dz4⟩ := HK.out w3 hh
      exact .run ((wanted_some rfl rfl q51).trans rfl) (.agg #[.int .i64 c, .int .i64 h, .int .i64 t, .int .i64 i, .int .i64 p2]) w3 (by simp [execOp, go_sem, Act.eval, *]) (Below.refl _ _) rfl
    · simp only [List.getElem?_toArray, List.getElem?_cons_succ, List.getElem?_cons_zero, Option.some.injEq] at ho
      subst ho
      refine ⟨rfl, ?_⟩
      have q51 : A_.tmps[51]? = some (.bool true) := hI.val_ (i := 8) rfl rfl (by decide) (hdep ⟨8, .guard⟩ (by simp) rfl)
      have e56 : A_.tmps[56]?.getD undef = .agg #[.int .i64 c, .int .i64 h, .int .i64 t, .int .i64 i, .int .i64 p2] := getD_of (hI.val_ (i := 13) rfl rfl (by decide) (hdep ⟨13, .data⟩ (by simp) rfl))
      clear hI hdep
      exact .callr ((wanted_some rfl rfl q51).trans rfl) 10 #[.agg #[.int .i64 c, .int .i64 h, .int .i64 t, .int .i64 i, .int .i64 p2]] (by simp [go_sem, Act.eval, e56]) (key_row _ _ _ _ _ w3)
    · simp only [List.getElem?_toArray, List.getElem?_cons_succ, List.getElem?_cons_zero, Option.some.injEq] at ho
      subst ho
      refine ⟨rfl, ?_⟩
      have q51 : A_.tmps[51]? = some (.bool true) := hI.val_ (i := 8) rfl rfl (by decide) (hdep ⟨8, .guard⟩ (by simp) rfl)
      have e55 : A_.tmps[55]?.getD undef = .slice (some ⟨g8, 0, none⟩) 5 5 := getD_of (hI.val_ (i := 12) rfl rfl (by decide) (hdep ⟨12, .data⟩ (by simp) rfl))
      obtain ⟨g57, e57, r57⟩ := hI.row_ (i := 14) (j := 57) rfl rfl (by decide) (hdep ⟨14, .data⟩ (by simp) rfl)
      clear hI hdep
      exact .call ((wanted_some rfl rfl q51).trans rfl) 12 #[.slice (some ⟨g8, 0, none⟩) 5 5, .slice (some ⟨g57, 0, none⟩) 5 5] (.int .i64 R2) (by simp [go_sem, Act.eval, e55, e57]) rfl (HR2.out w3 g8 g57 (H8.out w3 hh) r57)
    · simp only [List.getElem?_toArray, List.getElem?_cons_succ, List.getElem?_cons_zero, Option.some.injEq] at ho
      subst ho
      refine ⟨rfl, ?_⟩
      have q51 : A_.tmps[51]? = some (.bool true) := hI.val_ (i := 8) rfl rfl (by decide) (hdep ⟨8, .guard⟩ (by simp) rfl)
      have e54 : A_.tmps[54]?.getD undef = .int .i64 R2 := getD_of (hI.val_ (i := 11) rfl rfl (by decide) (hdep ⟨11, .data⟩ (by simp) rfl))
      have e58 : A_.tmps[58]?.getD undef = .int .i64 R2 := getD_of (hI.val_ (i := 15) rfl rfl (by decide) (hdep ⟨15, .data⟩ (by simp) rfl))
      clear hI hdep
      exact .run ((wanted_some rfl rfl q51).trans rfl) (.bool true) w3 (by simp [execOp, go_sem, Act.eval, *]) (Below.refl _ _) rfl
    · simp only [List.getElem?_toArray, List.getElem?_cons_succ, List.getElem?_cons_zero, Option.some.injEq] at ho
      subst ho
      refine ⟨rfl, ?_⟩
      have e51 : A_.tmps[51]?.getD undef = .bool true := getD_of (hI.val_ (i := 8) rfl rfl (by decide) (hdep ⟨8, .data⟩ (by simp) rfl))
      have e59 : A_.tmps[59]?.getD undef = .bool true := getD_of (hI.val_ (i := 16) rfl rfl (by decide) (hdep ⟨16, .data⟩ (by simp) rfl))
      clear hI hdep
      exact .run rfl (.bool true) w3 (by simp [execOp, go_sem, Act.eval, e51, e59]) (Below.refl _ _) rfl
    · simp only [List.getElem?_toArray, List.getElem?_cons_succ, List.getElem?_cons_zero, Option.some.injEq] at ho
      subst ho
      refine ⟨rfl, ?_⟩
      have e60 : A_.tmps[60]?.getD undef = .bool true := getD_of (hI.val_ (i := 17) rfl rfl (by decide) (hdep ⟨17, .data⟩ (by simp) rfl))
      clear hI hdep
      exact .run rfl (.bool true) w3 (by simp [execOp, go_sem, Act.eval, e60]) (Below.refl _ _) rfl
    · simp only [List.getElem?_toArray, List.getElem?_cons_succ, List.getElem?_cons_zero, Option.some.injEq] at ho
      subst ho
      refine ⟨rfl, ?_⟩
      have q61 : A_.tmps[61]? = some (.bool true) := hI.val_ (i := 18) rfl rfl (by decide) (hdep ⟨18, .guard⟩ (by simp) rfl)
      clear hI hdep
      exact .call ((wanted_some rfl rfl q61).trans rfl) 13 #[] (.bool true) (by simp [go_sem]) rfl (HL.out w3 (HB.out.trans (hh.mono HB.out.size)))
    · simp only [List.getElem?_toArray, List.getElem?_cons_succ, List.getElem?_cons_zero, Option.some.injEq] at ho
      subst ho
      refine ⟨rfl, ?_⟩
      have e61 : A_.tmps[61]?.getD undef = .bool true := getD_of (hI.val_ (i := 18) rfl rfl (by decide) (hdep ⟨18, .data⟩ (by simp) rfl))
      have e62 : A_.tmps[62]?.getD undef = .bool true := getD_of (hI.val_ (i := 19) rfl rfl (by decide) (hdep ⟨19, .data⟩ (by simp) rfl))
      clear hI hdep
      exact .run rfl (.bool true) w3 (by simp [execOp, go_sem, Act.eval, e61, e62]) (Below.refl _ _) rfl
    · simp only [List.getElem?_toArray, List.getElem?_cons_succ, List.getElem?_cons_zero, Option.some.injEq] at ho
      subst ho
      refine ⟨rfl, ?_⟩
      have e63 : A_.tmps[63]?.getD undef = .bool true := getD_of (hI.val_ (i := 20) rfl rfl (by decide) (hdep ⟨20, .data⟩ (by simp) rfl))
      clear hI hdep
      exact .run rfl (.bool true) w3 (by simp [execOp, go_sem, Act.eval, e63]) (Below.refl _ _) rfl
  case fin =>
  intro A_ w3 hs hd hlow hS hok
  obtain ⟨y48, hy48⟩ := RgQ.row_at (hok 5 48 _ (by decide) rfl rfl)
  obtain ⟨y57, hy57⟩ := RgQ.row_at (hok 14 57 _ (by decide) rfl rfl)
  obtain rfl : A_ = ⟨#[.agg #[.int .i64 c, .int .i64 h, .int .i64 t, .int .i64 i, .int .i64 p], .agg #[.int .i64 c2, .int .i64 h2, .int .i64 t2, .int .i64 i2, .int .i64 p2], .int .i64 n, .pointer (some ⟨w.heap.size, 0, none⟩), .pointer (some ⟨w.heap.size + 1, 0, none⟩), undef, .bool true, .pointer (some ⟨U.heap.size, 0, none⟩), .slice (some ⟨g8, 0, none⟩) 5 5, .agg #[.int .i64 c, .int .i64 h, .int .i64 t, .int .i64 i, .int .i64 p], .int .i64 n, .int .i64 4, .pointer (some ⟨w.heap.size + 1, 4, none⟩), .int .i64 p2, .pointer (some ⟨U.heap.size, 4, none⟩), .bool false, .bool false, undef, undef, undef, undef, undef, .bool false, .bool false, undef, undef, undef, undef, undef, .bool false, .bool false, undef, undef, undef, undef, undef, .bool false, .bool false, undef, undef, undef, .agg #[.int .i64 c, .int .i64 h, .int .i64 t, .int .i64 i, .int .i64 p], .slice (some ⟨g8, 0, none⟩) 5 5, .agg #[.int .i64 c, .int .i64 h, .int .i64 t, .int .i64 i, .int .i64 p], .agg #[.int .i64 c2, .int .i64 h2, .int .i64 t2, .int .i64 i2, .int .i64 p2], .int .i64 R1, .slice (some ⟨g8, 0, none⟩) 5 5, .agg #[.int .i64 c2, .int .i64 h2, .int .i64 t2, .int .i64 i2, .int .i64 p2], y48, .int .i64 R1, .bool true, .bool true, .agg #[.int .i64 c, .int .i64 h, .int .i64 t, .int .i64 i, .int .i64 p], .agg #[.int .i64 c, .int .i64 h, .int .i64 t, .int .i64 i, .int .i64 p2], .int .i64 R2, .slice (some ⟨g8, 0, none⟩) 5 5, .agg #[.int .i64 c, .int .i64 h, .int .i64 t, .int .i64 i, .int .i64 p2], y57, .int .i64 R2, .bool true, .bool true, .bool true, .bool true, .bool true], []⟩ := act_ext hd hs (fun j hj => match j, hj with | 0, _ => (hlow 0 (by decide)).trans rfl | 1, _ => (hlow 1 (by decide)).trans rfl | 2, _ => (hlow 2 (by decide)).trans rfl | 3, _ => (hlow 3 (by decide)).trans rfl | 4, _ => (hlow 4 (by decide)).trans rfl | 5, _ => (hlow 5 (by decide)).trans rfl | 6, _ => RgQ.val_at (hok 21 6 _ (by decide) rfl rfl) | 7, _ => (hlow 7 (by decide)).trans rfl | 8, _ => (hlow 8 (by decide)).trans rfl | 9, _ => (hlow 9 (by decide)).trans rfl | 10, _ => (hlow 10 (by decide)).trans rfl | 11, _ => (hlow 11 (by decide)).trans rfl | 12, _ => (hlow 12 (by decide)).trans rfl | 13, _ => (hlow 13 (by decide)).trans rfl | 14, _ => (hlow 14 (by decide)).trans rfl | 15, _ => (hlow 15 (by decide)).trans rfl | 16, _ => (hlow 16 (by decide)).trans rfl | 17, _ => (hlow 17 (by decide)).trans rfl | 18, _ => (hlow 18 (by decide)).trans rfl | 19, _ => (hlow 19 (by decide)).trans rfl | 20, _ => (hlow 20 (by decide)).trans rfl | 21, _ => (hlow 21 (by decide)).trans rfl | 22, _ => (hlow 22 (by decide)).trans rfl | 23, _ => (hlow 23 (by decide)).trans rfl | 24, _ => (hlow 24 (by decide)).trans rfl | 25, _ => (hlow 25 (by decide)).trans rfl | 26, _ => (hlow 26 (by decide)).trans rfl | 27, _ => (hlow 27 (by decide)).trans rfl | 28, _ => (hlow 28 (by decide)).trans rfl | 29, _ => (hlow 29 (by decide)).trans rfl | 30, _ => (hlow 30 (by decide)).trans rfl | 31, _ => (hlow 31 (by decide)).trans rfl | 32, _ => (hlow 32 (by decide)).trans rfl | 33, _ => (hlow 33 (by decide)).trans rfl | 34, _ => (hlow 34 (by decide)).trans rfl | 35, _ => (hlow 35 (by decide)).trans rfl | 36, _ => (hlow 36 (by decide)).trans rfl | 37, _ => (hlow 37 (by decide)).trans rfl | 38, _ => (hlow 38 (by decide)).trans rfl | 39, _ => (hlow 39 (by decide)).trans rfl | 40, _ => (hlow 40 (by decide)).trans rfl | 41, _ => (hlow 41 (by decide)).trans rfl | 42, _ => (hlow 42 (by decide)).trans rfl | 43, _ => RgQ.val_at (hok 0 43 _ (by decide) rfl rfl) | 44, _ => RgQ.val_at (hok 1 44 _ (by decide) rfl rfl) | 45, _ => RgQ.val_at (hok 2 45 _ (by decide) rfl rfl) | 46, _ => RgQ.val_at (hok 3 46 _ (by decide) rfl rfl) | 47, _ => RgQ.val_at (hok 4 47 _ (by decide) rfl rfl) | 48, _ => hy48 | 49, _ => RgQ.val_at (hok 6 49 _ (by decide) rfl rfl) | 50, _ => RgQ.val_at (hok 7 50 _ (by decide) rfl rfl) | 51, _ => RgQ.val_at (hok 8 51 _ (by decide) rfl rfl) | 52, _ => RgQ.val_at (hok 9 52 _ (by decide) rfl rfl) | 53, _ => RgQ.val_at (hok 10 53 _ (by decide) rfl rfl) | 54, _ => RgQ.val_at (hok 11 54 _ (by decide) rfl rfl) | 55, _ => RgQ.val_at (hok 12 55 _ (by decide) rfl rfl) | 56, _ => RgQ.val_at (hok 13 56 _ (by decide) rfl rfl) | 57, _ => hy57 | 58, _ => RgQ.val_at (hok 15 58 _ (by decide) rfl rfl) | 59, _ => RgQ.val_at (hok 16 59 _ (by decide) rfl rfl) | 60, _ => RgQ.val_at (hok 17 60 _ (by decide) rfl rfl) | 61, _ => RgQ.val_at (hok 18 61 _ (by decide) rfl rfl) | 62, _ => RgQ.val_at (hok 19 62 _ (by decide) rfl rfl) | 63, _ => RgQ.val_at (hok 20 63 _ (by decide) rfl rfl) | n + 64, h => absurd h (by show ¬ n + 64 < 64; omega))
  clear hs hd hlow hok hy48 hy57
  go_wp2_with fail
  go_ret
  exact ⟨rfl, HB.out.trans (hS.mono HB.out.size)⟩
theorem walk (c h t i p c2 h2 t2 i2 p2 n : Int) (w : World) (wn : I64 n) (hT : TN w) :
    Calls Tryd.prog 3 #[.agg #[.int .i64 c, .int .i64 h, .int .i64 t, .int .i64 i, .int .i64 p], .agg #[.int .i64 c2, .int .i64 h2, .int .i64 t2, .int .i64 i2, .int .i64 p2], .int .i64 n] w fun e w' => e = .returned (.bool true) ∧ Below w.heap.size w w' := by
  have HL := Lib.hid (fun (V : World) (hV : Below w.heap.size w V) => lives_any V (hT.below hV))
  have HA := Lib.hid (fun V => around_any n 5 wn (by omega) (by omega) V)
  have ha := around_in n 5 (by omega)
  have hc : around n 5 = 0 ∨ around n 5 = 1 ∨ around n 5 = 2 ∨ around n 5 = 3 ∨ around n 5 = 4 := by omega
  have HC1 := Lib.hid (fun V => cmpMsg_any ⟨c, h, t, i, p⟩ ⟨c2, h2, t2, i2, p2⟩ V)
  have HR1 := Lib.hid (fun (V : World) (g1 g2 : Nat) (k1 : V.heap[g1]? = some (.cells #[.int .i64 c, .int .i64 h, .int .i64 t, .int .i64 i, .int .i64 p] 3 (0, 0))) (k2 : V.heap[g2]? = some (.cells #[.int .i64 c2, .int .i64 h2, .int .i64 t2, .int .i64 i2, .int .i64 p2] 3 (0, 0))) => lists_any (n := 5) [c, h, t, i, p] [c2, h2, t2, i2, p2] V k1 k2 rfl rfl (by omega))
  clear ha
  rcases hc with e | e | e | e | e <;> rw [e] at HA
  · exact walk_0 c h t i p c2 h2 t2 i2 p2 n _ _ w HA HC1 (Lib.hid (fun V => cmpMsg_any ⟨c, h, t, i, p⟩ ⟨c2, h, t, i, p⟩ V)) HR1 (Lib.hid (fun (V : World) (g1 g2 : Nat) (k1 : V.heap[g1]? = some (.cells #[.int .i64 c, .int .i64 h, .int .i64 t, .int .i64 i, .int .i64 p] 3 (0, 0))) (k2 : V.heap[g2]? = some (.cells #[.int .i64 c2, .int .i64 h, .int .i64 t, .int .i64 i, .int .i64 p] 3 (0, 0))) => lists_any (n := 5) [c, h, t, i, p] [c2, h, t, i, p] V k1 k2 rfl rfl (by omega))) HL
  · exact walk_1 c h t i p c2 h2 t2 i2 p2 n _ _ w HA HC1 (Lib.hid (fun V => cmpMsg_any ⟨c, h, t, i, p⟩ ⟨c, h2, t, i, p⟩ V)) HR1 (Lib.hid (fun (V : World) (g1 g2 : Nat) (k1 : V.heap[g1]? = some (.cells #[.int .i64 c, .int .i64 h, .int .i64 t, .int .i64 i, .int .i64 p] 3 (0, 0))) (k2 : V.heap[g2]? = some (.cells #[.int .i64 c, .int .i64 h2, .int .i64 t, .int .i64 i, .int .i64 p] 3 (0, 0))) => lists_any (n := 5) [c, h, t, i, p] [c, h2, t, i, p] V k1 k2 rfl rfl (by omega))) HL
  · exact walk_2 c h t i p c2 h2 t2 i2 p2 n _ _ w HA HC1 (Lib.hid (fun V => cmpMsg_any ⟨c, h, t, i, p⟩ ⟨c, h, t2, i, p⟩ V)) HR1 (Lib.hid (fun (V : World) (g1 g2 : Nat) (k1 : V.heap[g1]? = some (.cells #[.int .i64 c, .int .i64 h, .int .i64 t, .int .i64 i, .int .i64 p] 3 (0, 0))) (k2 : V.heap[g2]? = some (.cells #[.int .i64 c, .int .i64 h, .int .i64 t2, .int .i64 i, .int .i64 p] 3 (0, 0))) => lists_any (n := 5) [c, h, t, i, p] [c, h, t2, i, p] V k1 k2 rfl rfl (by omega))) HL
  · exact walk_3 c h t i p c2 h2 t2 i2 p2 n _ _ w HA HC1 (Lib.hid (fun V => cmpMsg_any ⟨c, h, t, i, p⟩ ⟨c, h, t, i2, p⟩ V)) HR1 (Lib.hid (fun (V : World) (g1 g2 : Nat) (k1 : V.heap[g1]? = some (.cells #[.int .i64 c, .int .i64 h, .int .i64 t, .int .i64 i, .int .i64 p] 3 (0, 0))) (k2 : V.heap[g2]? = some (.cells #[.int .i64 c, .int .i64 h, .int .i64 t, .int .i64 i2, .int .i64 p] 3 (0, 0))) => lists_any (n := 5) [c, h, t, i, p] [c, h, t, i2, p] V k1 k2 rfl rfl (by omega))) HL
  · exact walk_4 c h t i p c2 h2 t2 i2 p2 n _ _ w HA HC1 (Lib.hid (fun V => cmpMsg_any ⟨c, h, t, i, p⟩ ⟨c, h, t, i, p2⟩ V)) HR1 (Lib.hid (fun (V : World) (g1 g2 : Nat) (k1 : V.heap[g1]? = some (.cells #[.int .i64 c, .int .i64 h, .int .i64 t, .int .i64 i, .int .i64 p] 3 (0, 0))) (k2 : V.heap[g2]? = some (.cells #[.int .i64 c, .int .i64 h, .int .i64 t, .int .i64 i, .int .i64 p2] 3 (0, 0))) => lists_any (n := 5) [c, h, t, i, p] [c, h, t, i, p2] V k1 k2 rfl rfl (by omega))) HL
end Go.Proofs.YtigdohfkdglceaaDoor.LawNamesMsg
