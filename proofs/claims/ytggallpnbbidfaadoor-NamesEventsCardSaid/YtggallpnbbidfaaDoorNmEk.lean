/-
  The reference's key of an event, and its order of events. No condition.
-/
import Derived.Test.YtggallpnbbidfaaDoorNmRk
import Derived.Test.YtggallpnbbidfaaDoorRgA
namespace Go.Proofs.YtggallpnbbidfaaDoor
open Go Go.RowKit Go.Proofs
attribute [local go_sem] Oper.semAt_some

theorem info_intK : (Tryd.prog.info? 3).map (fun i => (i.zero, i.size, i.bytes)) = some (some (.int .i64 0), 1, 8) := by kernel_rfl
theorem msgKey_row (c h t i p : Int) (w : World) : Calls Tryd.prog 27 #[.agg #[.int .i64 c, .int .i64 h, .int .i64 t, .int .i64 i, .int .i64 p]] w fun e w' => (∃ v, e = .returned v ∧ (RgX.Sp.row #[.int .i64 c, .int .i64 h, .int .i64 t, .int .i64 i, .int .i64 p] 3 5).p w' v) ∧ Below w.heap.size w w' := by
  obtain ⟨U, hU⟩ : ∃ U, w.alloc (.cells #[.int .i64 c, .int .i64 h, .int .i64 t, .int .i64 i, .int .i64 p] 25) = U := ⟨_, rfl⟩
  have hb : Below w.heap.size w U := hU ▸ one_box w _
  have k1 : U.heap[w.heap.size]? = some (.cells #[.int .i64 c, .int .i64 h, .int .i64 t, .int .i64 i, .int .i64 p] 25 (0, 0)) := by rw [← hU]; exact new_at rfl
  obtain ⟨a0, a1, a2, a3, a4⟩ := row5 k1
  have HB := Lib.hid hb
  clear k1 hb
  go_enter Tryd.func27, Tryd.ntmps27
  go_wp2_with fail
  go_ret
  exact ⟨⟨_, rfl, U.heap.size, rfl, new_at rfl⟩, HB.out.trans ((one_box U _).mono HB.out.size)⟩
set_option maxHeartbeats 4000000 in
set_option maxRecDepth 100000 in
theorem eventKey_any (k n a c h t i p : Int) (w : World) : Calls Tryd.prog 17 #[.agg #[.int .i64 k, .int .i64 n, .int .i64 a, .int .i64 c, .int .i64 h, .int .i64 t, .int .i64 i, .int .i64 p]] w fun e w' => (∃ v, e = .returned v ∧ (RgX.Sp.key [k, n, a, c, h, t, i, p]).p w' v) ∧ Below w.heap.size w w' := by
  obtain ⟨U, hU⟩ : ∃ U, w.alloc (.cells #[.int .i64 k, .int .i64 n, .int .i64 a, .int .i64 c, .int .i64 h, .int .i64 t, .int .i64 i, .int .i64 p] 27) = U := ⟨_, rfl⟩
  have hb : Below w.heap.size w U := hU ▸ one_box w _
  have hlt : w.heap.size < U.heap.size := by rw [← hU]; simp
  have k1 : U.heap[w.heap.size]? = some (.cells #[.int .i64 k, .int .i64 n, .int .i64 a, .int .i64 c, .int .i64 h, .int .i64 t, .int .i64 i, .int .i64 p] 27 (0, 0)) := by rw [← hU]; exact new_at rfl
  have HK := Lib.hid (fun (V : World) (hV : Below U.heap.size U V) => row8 ((hV.block _ hlt).trans k1))
  have HB := Lib.hid hb
  clear k1 hb
  go_enter Tryd.func17, Tryd.ntmps17
  go_wp2_with fail
  clear hU
  refine RgX.region 12 (fun i => (if i = 11 then 2 else 3 + i)) (fun ix_ => match ix_ with | 0 => .v (.pointer (some ⟨w.heap.size, 0, none⟩)) | 1 => .v (.int .i64 k) | 2 => .v (.pointer (some ⟨w.heap.size, 1, none⟩)) | 3 => .v (.int .i64 n) | 4 => .v (.pointer (some ⟨w.heap.size, 2, none⟩)) | 5 => .v (.int .i64 a) | 6 => .row #[.int .i64 k, .int .i64 n, .int .i64 a] 3 3 | 7 => .v (.pointer (some ⟨w.heap.size, 3, none⟩)) | 8 => .v (.agg #[.int .i64 c, .int .i64 h, .int .i64 t, .int .i64 i, .int .i64 p]) | 9 => .row #[.int .i64 c, .int .i64 h, .int .i64 t, .int .i64 i, .int .i64 p] 3 5 | 10 => RgX.Sp.key [k, n, a, c, h, t, i, p] | 11 => RgX.Sp.key [k, n, a, c, h, t, i, p] | _ => .any) (by kernel_rfl) rfl (by kernel_rfl)  (fun i hi => by show (if i = 11 then 2 else 3 + i) < 14; (repeat' split) <;> omega) (fun i j hi hj => by show (if i = 11 then 2 else 3 + i) = (if j = 11 then 2 else 3 + j) → i = j; (repeat' split) <;> omega) ?step ?fin
  case step =>
    intro L_ A_ w3 ix op_ hI ho hdep
    have hi : ix < 12 := (Array.getElem?_eq_some_iff.1 ho).1
    have hcase : ix = 0 ∨ ix = 1 ∨ ix = 2 ∨ ix = 3 ∨ ix = 4 ∨ ix = 5 ∨ ix = 6 ∨ ix = 7 ∨ ix = 8 ∨ ix = 9 ∨ ix = 10 ∨ ix = 11 := by omega
    have hh := hI.held
    clear hi
    rcases hcase with rfl | rfl | rfl | rfl | rfl | rfl | rfl | rfl | rfl | rfl | rfl | rfl
    · simp only [List.getElem?_toArray, List.getElem?_cons_zero, Option.some.injEq] at ho
      subst ho
      refine ⟨rfl, ?_⟩
      have e1 : A_.tmps[1]?.getD undef = .pointer (some ⟨w.heap.size, 0, none⟩) := by rw [hI.low 1 (by decide)]; rfl
      clear hI hdep
      exact .run rfl (.pointer (some ⟨w.heap.size, 0, none⟩)) w3 (by simp [execOp, go_sem, Act.eval, e1]) (Below.refl _ _) rfl
    · simp only [List.getElem?_toArray, List.getElem?_cons_succ, List.getElem?_cons_zero, Option.some.injEq] at ho
      subst ho
      refine ⟨rfl, ?_⟩
      have e3 : A_.tmps[3]?.getD undef = .pointer (some ⟨w.heap.size, 0, none⟩) := getD_of (hI.val_ (i := 0) rfl rfl (by decide) (hdep ⟨0, .data⟩ (by simp) rfl))
      clear hI hdep
      obtain ⟨d0, d1, d2, d3, d4, d5, d6, d7⟩ := HK.out w3 hh
      exact .run rfl (.int .i64 k) w3 (by simp [execOp, go_sem, Act.eval, *]) (Below.refl _ _) rfl
    · simp only [List.getElem?_toArray, List.getElem?_cons_succ, List.getElem?_cons_zero, Option.some.injEq] at ho
      subst ho
      refine ⟨rfl, ?_⟩
      have e1 : A_.tmps[1]?.getD undef = .pointer (some ⟨w.heap.size, 0, none⟩) := by rw [hI.low 1 (by decide)]; rfl
      clear hI hdep
      exact .run rfl (.pointer (some ⟨w.heap.size, 1, none⟩)) w3 (by simp [execOp, go_sem, Act.eval, e1]) (Below.refl _ _) rfl
    · simp only [List.getElem?_toArray, List.getElem?_cons_succ, List.getElem?_cons_zero, Option.some.injEq] at ho
      subst ho
      refine ⟨rfl, ?_⟩
      have e5 : A_.tmps[5]?.getD undef = .pointer (some ⟨w.heap.size, 1, none⟩) := getD_of (hI.val_ (i := 2) rfl rfl (by decide) (hdep ⟨2, .data⟩ (by simp) rfl))
      clear hI hdep
      obtain ⟨d0, d1, d2, d3, d4, d5, d6, d7⟩ := HK.out w3 hh
      exact .run rfl (.int .i64 n) w3 (by simp [execOp, go_sem, Act.eval, *]) (Below.refl _ _) rfl
    · simp only [List.getElem?_toArray, List.getElem?_cons_succ, List.getElem?_cons_zero, Option.some.injEq] at ho
      subst ho
      refine ⟨rfl, ?_⟩
      have e1 : A_.tmps[1]?.getD undef = .pointer (some ⟨w.heap.size, 0, none⟩) := by rw [hI.low 1 (by decide)]; rfl
      clear hI hdep
      exact .run rfl (.pointer (some ⟨w.heap.size, 2, none⟩)) w3 (by simp [execOp, go_sem, Act.eval, e1]) (Below.refl _ _) rfl
    · simp only [List.getElem?_toArray, List.getElem?_cons_succ, List.getElem?_cons_zero, Option.some.injEq] at ho
      subst ho
      refine ⟨rfl, ?_⟩
      have e7 : A_.tmps[7]?.getD undef = .pointer (some ⟨w.heap.size, 2, none⟩) := getD_of (hI.val_ (i := 4) rfl rfl (by decide) (hdep ⟨4, .data⟩ (by simp) rfl))
      clear hI hdep
      obtain ⟨d0, d1, d2, d3, d4, d5, d6, d7⟩ := HK.out w3 hh
      exact .run rfl (.int .i64 a) w3 (by simp [execOp, go_sem, Act.eval, *]) (Below.refl _ _) rfl
    · simp only [List.getElem?_toArray, List.getElem?_cons_succ, List.getElem?_cons_zero, Option.some.injEq] at ho
      subst ho
      refine ⟨rfl, ?_⟩
      have e4 : A_.tmps[4]?.getD undef = .int .i64 k := getD_of (hI.val_ (i := 1) rfl rfl (by decide) (hdep ⟨1, .data⟩ (by simp) rfl))
      have e6 : A_.tmps[6]?.getD undef = .int .i64 n := getD_of (hI.val_ (i := 3) rfl rfl (by decide) (hdep ⟨3, .data⟩ (by simp) rfl))
      have e8 : A_.tmps[8]?.getD undef = .int .i64 a := getD_of (hI.val_ (i := 5) rfl rfl (by decide) (hdep ⟨5, .data⟩ (by simp) rfl))
      clear hI hdep
      exact .run rfl (.slice (some ⟨w3.heap.size, 0, none⟩) 3 3) (w3.alloc (.cells #[.int .i64 k, .int .i64 n, .int .i64 a] 3)) (by simp [execOp, go_sem, Act.eval, e4, e6, e8]) ((Below.refl _ _).alloc (Nat.le_refl _) _) (RgX.row_new _ _ _ _)
    · simp only [List.getElem?_toArray, List.getElem?_cons_succ, List.getElem?_cons_zero, Option.some.injEq] at ho
      subst ho
      refine ⟨rfl, ?_⟩
      have e1 : A_.tmps[1]?.getD undef = .pointer (some ⟨w.heap.size, 0, none⟩) := by rw [hI.low 1 (by decide)]; rfl
      clear hI hdep
      exact .run rfl (.pointer (some ⟨w.heap.size, 3, none⟩)) w3 (by simp [execOp, go_sem, Act.eval, e1]) (Below.refl _ _) rfl
    · simp only [List.getElem?_toArray, List.getElem?_cons_succ, List.getElem?_cons_zero, Option.some.injEq] at ho
      subst ho
      refine ⟨rfl, ?_⟩
      have e10 : A_.tmps[10]?.getD undef = .pointer (some ⟨w.heap.size, 3, none⟩) := getD_of (hI.val_ (i := 7) rfl rfl (by decide) (hdep ⟨7, .data⟩ (by simp) rfl))
      clear hI hdep
      obtain ⟨d0, d1, d2, d3, d4, d5, d6, d7⟩ := HK.out w3 hh
      exact .run rfl (.agg #[.int .i64 c, .int .i64 h, .int .i64 t, .int .i64 i, .int .i64 p]) w3 (by simp [execOp, go_sem, Act.eval, *]) (Below.refl _ _) rfl
    · simp only [List.getElem?_toArray, List.getElem?_cons_succ, List.getElem?_cons_zero, Option.some.injEq] at ho
      subst ho
      refine ⟨rfl, ?_⟩
      have e11 : A_.tmps[11]?.getD undef = .agg #[.int .i64 c, .int .i64 h, .int .i64 t, .int .i64 i, .int .i64 p] := getD_of (hI.val_ (i := 8) rfl rfl (by decide) (hdep ⟨8, .data⟩ (by simp) rfl))
      clear hI hdep
      exact .call rfl 27 #[.agg #[.int .i64 c, .int .i64 h, .int .i64 t, .int .i64 i, .int .i64 p]] (by simp [go_sem, Act.eval, e11]) (msgKey_row _ _ _ _ _ w3)
    · simp only [List.getElem?_toArray, List.getElem?_cons_succ, List.getElem?_cons_zero, Option.some.injEq] at ho
      subst ho
      refine ⟨rfl, ?_⟩
      obtain ⟨_, e9, g9, rfl, r9⟩ := hI.get_ (i := 6) (j := 9) rfl rfl (by decide) (hdep ⟨6, .data⟩ (by simp) rfl)
      obtain ⟨_, e12, g12, rfl, r12⟩ := hI.get_ (i := 9) (j := 12) rfl rfl (by decide) (hdep ⟨9, .data⟩ (by simp) rfl)
      clear hI hdep
      obtain ⟨i0, hi0, hz0, hs0, hb0⟩ := RgX.info_split info_intK
      exact .run rfl _ _ (RgX.run_append_new (a := A_) (.tmp 9) (.tmp 12) 32 rfl 3 i0 (.int .i64 0) Tryd.underlying32 hi0 hz0 (some ⟨g9, 0, none⟩) 3 [.int .i64 k, .int .i64 n, .int .i64 a] (by simpa [Act.eval] using e9) (by rw [hs0]; exact run_firstCells_some w3.drew 1 3 ⟨g9, 0, none⟩ 3 3 _ rfl (World.news_of_block r9)) ⟨g12, 0, none⟩ 5 5 [.int .i64 c, .int .i64 h, .int .i64 t, .int .i64 i, .int .i64 p] (by simpa [Act.eval] using e12) (by rw [hs0]; rfl) (World.news_of_block r12) (fun u hu => by simp at hu; rcases hu with rfl | rfl | rfl | rfl | rfl <;> rfl) (by decide) (by decide) (by rw [hb0]; decide)) (RgX.below_drew_alloc _ _) (RgX.key_new w3 [k, n, a, c, h, t, i, p] _ _ _ rfl rfl)
    · simp only [List.getElem?_toArray, List.getElem?_cons_succ, List.getElem?_cons_zero, Option.some.injEq] at ho
      subst ho
      refine ⟨rfl, ?_⟩
      obtain ⟨y13, e13, h13⟩ := hI.get_ (i := 10) (j := 13) rfl rfl (by decide) (hdep ⟨10, .data⟩ (by simp) rfl)
      clear hI hdep
      exact .run rfl y13 w3 (by simp [execOp, go_sem, Act.eval, e13]) (Below.refl _ _) h13
  case fin =>
  intro A_ w3 hs hd hlow hS hok
  obtain ⟨_, hy2, g2, m2, rfl, l2, r2⟩ := hok 11 2 _ (by decide) rfl rfl
  obtain ⟨_, hy9, g9, rfl, r9⟩ := hok 6 9 _ (by decide) rfl rfl
  obtain ⟨_, hy12, g12, rfl, r12⟩ := hok 9 12 _ (by decide) rfl rfl
  obtain ⟨_, hy13, g13, m13, rfl, l13, r13⟩ := hok 10 13 _ (by decide) rfl rfl
  obtain rfl : A_ = ⟨#[.agg #[.int .i64 k, .int .i64 n, .int .i64 a, .int .i64 c, .int .i64 h, .int .i64 t, .int .i64 i, .int .i64 p], .pointer (some ⟨w.heap.size, 0, none⟩), .slice (some ⟨g2, 0, none⟩) 8 m2, .pointer (some ⟨w.heap.size, 0, none⟩), .int .i64 k, .pointer (some ⟨w.heap.size, 1, none⟩), .int .i64 n, .pointer (some ⟨w.heap.size, 2, none⟩), .int .i64 a, .slice (some ⟨g9, 0, none⟩) 3 3, .pointer (some ⟨w.heap.size, 3, none⟩), .agg #[.int .i64 c, .int .i64 h, .int .i64 t, .int .i64 i, .int .i64 p], .slice (some ⟨g12, 0, none⟩) 5 5, .slice (some ⟨g13, 0, none⟩) 8 m13], []⟩ := act_ext hd hs (fun j hj => match j, hj with | 0, _ => (hlow 0 (by decide)).trans rfl | 1, _ => (hlow 1 (by decide)).trans rfl | 2, _ => hy2 | 3, _ => RgX.val_at (hok 0 3 _ (by decide) rfl rfl) | 4, _ => RgX.val_at (hok 1 4 _ (by decide) rfl rfl) | 5, _ => RgX.val_at (hok 2 5 _ (by decide) rfl rfl) | 6, _ => RgX.val_at (hok 3 6 _ (by decide) rfl rfl) | 7, _ => RgX.val_at (hok 4 7 _ (by decide) rfl rfl) | 8, _ => RgX.val_at (hok 5 8 _ (by decide) rfl rfl) | 9, _ => hy9 | 10, _ => RgX.val_at (hok 7 10 _ (by decide) rfl rfl) | 11, _ => RgX.val_at (hok 8 11 _ (by decide) rfl rfl) | 12, _ => hy12 | 13, _ => hy13 | n + 14, h => absurd h (by show ¬ n + 14 < 14; omega))
  clear hs hd hlow hok hy2 hy9 hy12 hy13
  go_wp2_with fail
  go_ret
  exact ⟨⟨_, rfl, g2, m2, rfl, l2, r2⟩, HB.out.trans (hS.mono HB.out.size)⟩
set_option maxHeartbeats 4000000 in
set_option maxRecDepth 100000 in
theorem cmpEvR_any (k n a c h t i p k2 n2 a2 c2 h2 t2 i2 p2 : Int) (w : World) : Calls Tryd.prog 7 #[.agg #[.int .i64 k, .int .i64 n, .int .i64 a, .int .i64 c, .int .i64 h, .int .i64 t, .int .i64 i, .int .i64 p], .agg #[.int .i64 k2, .int .i64 n2, .int .i64 a2, .int .i64 c2, .int .i64 h2, .int .i64 t2, .int .i64 i2, .int .i64 p2]] w fun e w' => e = .returned (.int .i64 (NM.lexL [k, n, a, c, h, t, i, p] [k2, n2, a2, c2, h2, t2, i2, p2])) ∧ Below w.heap.size w w' := by
  obtain ⟨U, hU, hb, k1, k2, hlt⟩ := two_boxes w (.cells #[.int .i64 k, .int .i64 n, .int .i64 a, .int .i64 c, .int .i64 h, .int .i64 t, .int .i64 i, .int .i64 p] 27) (.cells #[.int .i64 k2, .int .i64 n2, .int .i64 a2, .int .i64 c2, .int .i64 h2, .int .i64 t2, .int .i64 i2, .int .i64 p2] 27)
  have HK := Lib.hid (fun (V : World) (hV : Below U.heap.size U V) => And.intro (row8 ((hV.block _ (by omega)).trans k1)) (row8 ((hV.block _ hlt).trans k2)))
  have HB := Lib.hid hb
  clear k1 k2 hb
  go_enter Tryd.func7, Tryd.ntmps7
  go_wp2_with fail
  clear hU
  refine RgX.region 6 (fun i => (if i = 5 then 4 else 5 + i)) (fun ix_ => match ix_ with | 0 => .v (.agg #[.int .i64 k, .int .i64 n, .int .i64 a, .int .i64 c, .int .i64 h, .int .i64 t, .int .i64 i, .int .i64 p]) | 1 => RgX.Sp.key [k, n, a, c, h, t, i, p] | 2 => .v (.agg #[.int .i64 k2, .int .i64 n2, .int .i64 a2, .int .i64 c2, .int .i64 h2, .int .i64 t2, .int .i64 i2, .int .i64 p2]) | 3 => RgX.Sp.key [k2, n2, a2, c2, h2, t2, i2, p2] | 4 => .v (.int .i64 (NM.lexL [k, n, a, c, h, t, i, p] [k2, n2, a2, c2, h2, t2, i2, p2])) | 5 => .v (.int .i64 (NM.lexL [k, n, a, c, h, t, i, p] [k2, n2, a2, c2, h2, t2, i2, p2])) | _ => .any) (by kernel_rfl) rfl (by kernel_rfl)  (fun i hi => by show (if i = 5 then 4 else 5 + i) < 10; (repeat' split) <;> omega) (fun i j hi hj => by show (if i = 5 then 4 else 5 + i) = (if j = 5 then 4 else 5 + j) → i = j; (repeat' split) <;> omega) ?step ?fin
  case step =>
    intro L_ A_ w3 ix op_ hI ho hdep
    have hi : ix < 6 := (Array.getElem?_eq_some_iff.1 ho).1
    have hcase : ix = 0 ∨ ix = 1 ∨ ix = 2 ∨ ix = 3 ∨ ix = 4 ∨ ix = 5 := by omega
    have hh := hI.held
    clear hi
    rcases hcase with rfl | rfl | rfl | rfl | rfl | rfl
    · simp only [List.getElem?_toArray, List.getElem?_cons_zero, Option.some.injEq] at ho
      subst ho
      refine ⟨rfl, ?_⟩
      have e2 : A_.tmps[2]?.getD undef = .pointer (some ⟨w.heap.size, 0, none⟩) := by rw [hI.low 2 (by decide)]; rfl
      clear hI hdep
      obtain ⟨⟨d0, d1, d2, d3, d4, d5, d6, d7⟩, f0, f1, f2, f3, f4, f5, f6, f7⟩ := HK.out w3 hh
      exact .run rfl (.agg #[.int .i64 k, .int .i64 n, .int .i64 a, .int .i64 c, .int .i64 h, .int .i64 t, .int .i64 i, .int .i64 p]) w3 (by simp [execOp, go_sem, Act.eval, *]) (Below.refl _ _) rfl
    · simp only [List.getElem?_toArray, List.getElem?_cons_succ, List.getElem?_cons_zero, Option.some.injEq] at ho
      subst ho
      refine ⟨rfl, ?_⟩
      have e5 : A_.tmps[5]?.getD undef = .agg #[.int .i64 k, .int .i64 n, .int .i64 a, .int .i64 c, .int .i64 h, .int .i64 t, .int .i64 i, .int .i64 p] := getD_of (hI.val_ (i := 0) rfl rfl (by decide) (hdep ⟨0, .data⟩ (by simp) rfl))
      clear hI hdep
      exact .call rfl 17 #[.agg #[.int .i64 k, .int .i64 n, .int .i64 a, .int .i64 c, .int .i64 h, .int .i64 t, .int .i64 i, .int .i64 p]] (by simp [go_sem, Act.eval, e5]) (eventKey_any _ _ _ _ _ _ _ _ w3)
    · simp only [List.getElem?_toArray, List.getElem?_cons_succ, List.getElem?_cons_zero, Option.some.injEq] at ho
      subst ho
      refine ⟨rfl, ?_⟩
      have e3 : A_.tmps[3]?.getD undef = .pointer (some ⟨w.heap.size + 1, 0, none⟩) := by rw [hI.low 3 (by decide)]; rfl
      clear hI hdep
      obtain ⟨⟨d0, d1, d2, d3, d4, d5, d6, d7⟩, f0, f1, f2, f3, f4, f5, f6, f7⟩ := HK.out w3 hh
      exact .run rfl (.agg #[.int .i64 k2, .int .i64 n2, .int .i64 a2, .int .i64 c2, .int .i64 h2, .int .i64 t2, .int .i64 i2, .int .i64 p2]) w3 (by simp [execOp, go_sem, Act.eval, *]) (Below.refl _ _) rfl
    · simp only [List.getElem?_toArray, List.getElem?_cons_succ, List.getElem?_cons_zero, Option.some.injEq] at ho
      subst ho
      refine ⟨rfl, ?_⟩
      have e7 : A_.tmps[7]?.getD undef = .agg #[.int .i64 k2, .int .i64 n2, .int .i64 a2, .int .i64 c2, .int .i64 h2, .int .i64 t2, .int .i64 i2, .int .i64 p2] := getD_of (hI.val_ (i := 2) rfl rfl (by decide) (hdep ⟨2, .data⟩ (by simp) rfl))
      clear hI hdep
      exact .call rfl 17 #[.agg #[.int .i64 k2, .int .i64 n2, .int .i64 a2, .int .i64 c2, .int .i64 h2, .int .i64 t2, .int .i64 i2, .int .i64 p2]] (by simp [go_sem, Act.eval, e7]) (eventKey_any _ _ _ _ _ _ _ _ w3)
    · simp only [List.getElem?_toArray, List.getElem?_cons_succ, List.getElem?_cons_zero, Option.some.injEq] at ho
      subst ho
      refine ⟨rfl, ?_⟩
      obtain ⟨_, e6, g6, m6, rfl, l6, r6⟩ := hI.get_ (i := 1) (j := 6) rfl rfl (by decide) (hdep ⟨1, .data⟩ (by simp) rfl)
      obtain ⟨_, e8, g8, m8, rfl, l8, r8⟩ := hI.get_ (i := 3) (j := 8) rfl rfl (by decide) (hdep ⟨3, .data⟩ (by simp) rfl)
      clear hI hdep
      exact .call rfl 10 #[.slice (some ⟨g6, 0, none⟩) 8 m6, .slice (some ⟨g8, 0, none⟩) 8 m8] (by simp [go_sem, Act.eval, e6, e8]) ((lists_spare [k, n, a, c, h, t, i, p] [k2, n2, a2, c2, h2, t2, i2, p2] w3 ⟨l6, r6⟩ ⟨l8, r8⟩ rfl rfl (by simp)).mono fun _ _ ⟨h1_, h2_⟩ => ⟨⟨_, h1_, rfl⟩, h2_⟩)
    · simp only [List.getElem?_toArray, List.getElem?_cons_succ, List.getElem?_cons_zero, Option.some.injEq] at ho
      subst ho
      refine ⟨rfl, ?_⟩
      have e9 : A_.tmps[9]?.getD undef = .int .i64 (NM.lexL [k, n, a, c, h, t, i, p] [k2, n2, a2, c2, h2, t2, i2, p2]) := getD_of (hI.val_ (i := 4) rfl rfl (by decide) (hdep ⟨4, .data⟩ (by simp) rfl))
      clear hI hdep
      exact .run rfl (.int .i64 (NM.lexL [k, n, a, c, h, t, i, p] [k2, n2, a2, c2, h2, t2, i2, p2])) w3 (by simp [execOp, go_sem, Act.eval, e9]) (Below.refl _ _) rfl
  case fin =>
  intro A_ w3 hs hd hlow hS hok
  obtain ⟨_, hy6, g6, m6, rfl, l6, r6⟩ := hok 1 6 _ (by decide) rfl rfl
  obtain ⟨_, hy8, g8, m8, rfl, l8, r8⟩ := hok 3 8 _ (by decide) rfl rfl
  obtain rfl : A_ = ⟨#[.agg #[.int .i64 k, .int .i64 n, .int .i64 a, .int .i64 c, .int .i64 h, .int .i64 t, .int .i64 i, .int .i64 p], .agg #[.int .i64 k2, .int .i64 n2, .int .i64 a2, .int .i64 c2, .int .i64 h2, .int .i64 t2, .int .i64 i2, .int .i64 p2], .pointer (some ⟨w.heap.size, 0, none⟩), .pointer (some ⟨w.heap.size + 1, 0, none⟩), .int .i64 (NM.lexL [k, n, a, c, h, t, i, p] [k2, n2, a2, c2, h2, t2, i2, p2]), .agg #[.int .i64 k, .int .i64 n, .int .i64 a, .int .i64 c, .int .i64 h, .int .i64 t, .int .i64 i, .int .i64 p], .slice (some ⟨g6, 0, none⟩) 8 m6, .agg #[.int .i64 k2, .int .i64 n2, .int .i64 a2, .int .i64 c2, .int .i64 h2, .int .i64 t2, .int .i64 i2, .int .i64 p2], .slice (some ⟨g8, 0, none⟩) 8 m8, .int .i64 (NM.lexL [k, n, a, c, h, t, i, p] [k2, n2, a2, c2, h2, t2, i2, p2])], []⟩ := act_ext hd hs (fun j hj => match j, hj with | 0, _ => (hlow 0 (by decide)).trans rfl | 1, _ => (hlow 1 (by decide)).trans rfl | 2, _ => (hlow 2 (by decide)).trans rfl | 3, _ => (hlow 3 (by decide)).trans rfl | 4, _ => RgX.val_at (hok 5 4 _ (by decide) rfl rfl) | 5, _ => RgX.val_at (hok 0 5 _ (by decide) rfl rfl) | 6, _ => hy6 | 7, _ => RgX.val_at (hok 2 7 _ (by decide) rfl rfl) | 8, _ => hy8 | 9, _ => RgX.val_at (hok 4 9 _ (by decide) rfl rfl) | n + 10, h => absurd h (by show ¬ n + 10 < 10; omega))
  clear hs hd hlow hok hy6 hy8
  go_wp2_with fail
  go_ret
  exact ⟨rfl, HB.out.trans (hS.mono HB.out.size)⟩
end Go.Proofs.YtggallpnbbidfaaDoor
