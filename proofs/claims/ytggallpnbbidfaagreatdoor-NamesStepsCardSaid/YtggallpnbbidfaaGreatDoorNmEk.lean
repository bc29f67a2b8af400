/-
  The reference's key of an event, and its order of events. No condition.
-/
import Derived.Test.YtggallpnbbidfaaGreatDoorNmRk
import Derived.Test.YtggallpnbbidfaaGreatDoorRgA
namespace Go.Proofs.YtggallpnbbidfaaGreatDoor
open Go Go.RowKit Go.Proofs
attribute [local go_sem] Oper.semAt_some

theorem info_intK : (Tryz.prog.info? 3).map (fun i => (i.zero, i.size, i.bytes)) = some (some (.int .i64 0), 1, 8) := by kernel_rfl
theorem msgKey_row (c h t i p : Int) (w : World) : Calls Tryz.prog 37 #[.agg #[.int .i64 c, .int .i64 h, .int .i64 t, .int .i64 i, .int .i64 p]] w fun e w' => (∃ v, e = .returned v ∧ (RgX.Sp.row #[.int .i64 c, .int .i64 h, .int .i64 t, .int .i64 i, .int .i64 p] 3 5).p w' v) ∧ Below w.heap.size w w' := by
  obtain ⟨U, hU⟩ : ∃ U, w.alloc (.cells #[.int .i64 c, .int .i64 h, .int .i64 t, .int .i64 i, .int .i64 p] 26) = U := ⟨_, rfl⟩
  have hb : Below w.heap.size w U := hU ▸ one_box w _
  have k1 : U.heap[w.heap.size]? = some (.cells #[.int .i64 c, .int .i64 h, .int .i64 t, .int .i64 i, .int .i64 p] 26 (0, 0)) := by rw [← hU]; exact new_at rfl
  obtain ⟨a0, a1, a2, a3, a4⟩ := row5 k1
  have HB := Lib.hid hb
  clear k1 hb
  go_enter Tryz.func37, Tryz.ntmps37
  go_wp2_with fail
  go_ret
  exact ⟨⟨_, rfl, U.heap.size, rfl, new_at rfl⟩, HB.out.trans ((one_box U _).mono HB.out.size)⟩
set_option maxHeartbeats 4000000 in
set_option maxRecDepth 100000 in
theorem eventKey_any (k n a c h t i p : Int) (w : World) : Calls Tryz.prog 51 #[.agg #[.int .i64 k, .int .i64 n, .int .i64 a, .int .i64 c, .int .i64 h, .int .i64 t, .int .i64 i, .int .i64 p]] w fun e w' => (∃ v, e = .returned v ∧ (RgX.Sp.key [k, n, a, c, h, t, i, p]).p w' v) ∧ Below w.heap.size w w' := by
  obtain ⟨U, hU⟩ : ∃ U, w.alloc (.cells #[.int .i64 k, .int .i64 n, .int .i64 a, .int .i64 c, .int .i64 h, .int .i64 t, .int .i64 i, .int .i64 p] 28) = U := ⟨_, rfl⟩
  have hb : Below w.heap.size w U := hU ▸ one_box w _
  have hlt : w.heap.size < U.heap.size := by rw [← hU]; simp
  have k1 : U.heap[w.heap.size]? = some (.cells #[.int .i64 k, .int .i64 n, .int .i64 a, .int .i64 c, .int .i64 h, .int .i64 t, .int .i64 i, .int .i64 p] 28 (0, 0)) := by rw [← hU]; exact new_at rfl
  have HK := Lib.hid (fun (V : World) (hV : Below U.heap.size U V) => row8 ((hV.block _ hlt).trans k1))
  have HB := Lib.hid hb
  clear k1 hb
  go_enter Tryz.func51, Tryz.ntmps51
  go_wp2_with fail
  clear hU
  refine RgX.region 12 (fun i => (if i = 11 then 2 else 3 + i)) (fun ix_ => match ix_ with | 0 => .v (.pointer (some ⟨w.heap.size, 0, none⟩)) | 1 => .v (.int .i64 k) | 2 => .v (.pointer (some ⟨w.heap.size, 1, none⟩)) | 3 => .v (.int .i64 n) | 4 => .v (.pointer (some ⟨w.heap.size, 2, none⟩)) | 5 => .v (.int .i64 a) | 6 => .row #[.int .i64 k, .int .i64 n, .int .i64 a] 3 3 | 7 => .v (.pointer (some ⟨w.heap.size, 3, none⟩)) | 8 => .v (.agg #[.int .i64 c, .int .i64 h, .int .i64 t, .int .i64 i, .int .i64 p]) | 9 => .row #[.int .i64 c, .int .i64 h, .int .i64 t, .int .i64 i, .int .i64 p] 3 5 | 10 => RgX.Sp.key [k, n, a, c, h, t, i, p] | 11 => RgX.Sp.key [k, n, a, c, h, t, i, p] | _ => .any) (by kernel_rfl) rfl (by kernel_rfl)  (fun i hi => by show (if i = 11 then 2 else 3 + i) < 14; (repeat' split) <;> omega) (fun i j hi hj => by show (if i = 11 then 2 else 3 + i) = (if j = 11 then 2 else 3 + j) → i = j; (repeat' split) <;> omega) ?step ?fin
  case step =>
    intro L_ A_ w3 ix op_ hI ho hdep
    have hi : ix < 12 := (Array.getElem?_eq_some_iff.1 ho).1
    have hcase : ix = 0 ∨ ix = 1 ∨ ix = 2 ∨ ix = 3 ∨ ix = 4 ∨ ix = 5 ∨ ix = 6 ∨ ix = 7 ∨ ix = 8 ∨ ix = 9 ∨ ix = 10 ∨ ix = 11 := by omega
    have hh := hI.held
    clear hi
    rcases hcase with rfl | rfl | rfl | rfl | rfl | rfl | rfl | rfl | rfl | rfl | rfl | rfl
    · simp only [List.getElem?_toArray, List.getElem?_cons_zero, Option.some.injEq] at ho
      subst ho
      refine ⟨rfl, ?_⟩
      have e1 : A_.tmps[1]?.getD undef = .pointer (some ⟨w.heap.size, 0, none⟩) := by rw [hI.low 1 (by decide)]; rfl
      clear hI hdep
      exact .run rfl (.pointer (some ⟨w.heap.size, 0, none⟩)) w3 (by simp [execOp, go_sem, Act.eval, e1]) (Below.refl _ _) rfl
    · simp only [List.getElem?_toArray, List.getElem?_cons_succ, List.getElem?_cons_zero, Option.some.injEq] at ho
      subst ho
      refine ⟨rfl, ?_⟩
      have e3 : A_.tmps[3]?.getD undef = .pointer (some ⟨w.heap.size, 0, none⟩) := getD_of (hI.val_ (i := 0) rfl rfl (by decide) (hdep ⟨0, .data⟩ (by simp) rfl))
      clear hI hdep
      obtain ⟨d0, d1, d2, d3, d4, d5, d6, d7⟩ := HK.out w3 hh
      exact .run rfl (.int .i64 k) w3 (by simp [execOp, go_sem, Act.eval, *]) (Below.refl _ _) rfl
    · simp only [List.getElem?_toArray, List.getElem?_cons_succ, List.getElem?_cons_zero, Option.some.injEq] at ho
      subst ho
      refine ⟨rfl, ?_⟩
      have e1 : A_.tmps[1]?.getD undef = .pointer (some ⟨w.heap.size, 0, none⟩) := by rw [hI.low 1 (by decide)]; rfl
      clear hI hdep
      exact .run rfl (.pointer (some ⟨w.heap.size, 1, none⟩)) w3 (by simp [execOp, go_sem, Act.eval, e1]) (Below.refl _ _) rfl
    · simp only [List.getElem?_toArray, List.getElem?_cons_succ, List.getElem?_cons_zero, Option.some.injEq] at ho
      subst ho
      refine ⟨rfl, ?_⟩
      have e5 : A_.tmps[5]?.getD undef = .pointer (some ⟨w.heap.size, 1, none⟩) := getD_of (hI.val_ (i := 2) rfl rfl (by decide) (hdep ⟨2, .data⟩ (by simp) rfl))
      clear hI hdep
      obtain ⟨d0, d1, d2, d3, d4, d5, d6, d7⟩ := HK.out w3 hh
      exact .run rfl (.int .i64 n) w3 (by simp [execOp, go_sem, Act.eval, *]) (Below.refl _ _) rfl
    · simp only [List.getElem?_toArray, List.getElem?_cons_succ, List.getElem?_cons_zero, Option.some.injEq] at ho
      subst ho
      refine ⟨rfl, ?_⟩
      have e1 : A_.tmps[1]?.getD undef = .pointer (some ⟨w.heap.size, 0, none⟩) := by rw [hI.low 1 (by decide)]; rfl
      clear hI hdep
      exact .run rfl (.pointer (some ⟨w.heap.size, 2, none⟩)) w3 (by simp [execOp, go_sem, Act.eval, e1]) (Below.refl _ _) rfl
    · simp only [List.getElem?_toArray, List.getElem?_cons_succ, List.getElem?_cons_zero, Option.some.injEq] at ho
      subst ho
      refine ⟨rfl, ?_⟩
      have e7 : A_.tmps[7]?.getD undef = .pointer (some ⟨w.heap.size, 2, none⟩) := getD_of (hI.val_ (i := 4) rfl rfl (by decide) (hdep ⟨4, .data⟩ (by simp) rfl))
      clear hI hdep
      obtain ⟨d0, d1, d2, d3, d4, d5, d6, d7⟩ := HK.out w3 hh
      exact .run rfl (.int .i64 a) w3 (by simp [execOp, go_sem, Act.eval, *]) (Below.refl _ _) rfl
    · simp only [List.getElem?_toArray, List.getElem?_cons_succ, List.getElem?_cons_zero, Option.some.injEq] at ho
      subst ho
      refine ⟨rfl, ?_⟩
      have e4 : A_.tmps[4]?.getD undef = .int .i64 k := getD_of (hI.val_ (i := 1) rfl rfl (by decide) (hdep ⟨1, .data⟩ (by simp) rfl))
      have e6 : A_.tmps[6]?.getD undef = .int .i64 n := getD_of (hI.val_ (i := 3) rfl rfl (by decide) (hdep ⟨3, .data⟩ (by simp) rfl))
      have e8 : A_.tmps[8]?.getD undef = .int .i64 a := getD_of (hI.val_ (i := 5) rfl rfl (by decide) (hdep ⟨5, .data⟩ (by simp) rfl))
      clear hI hdep
      exact .run rfl (.slice (some ⟨w3.heap.size, 0, none⟩) 3 3) (w3.alloc (.cells #[.int .i64 k, .int .i64 n, .int .i64 a] 3)) (by simp [execOp, go_sem, Act.eval, e4, e6, e8]) ((Below.refl _ _).alloc (Nat.le_refl _) _) (RgX.row_new _ _ _ _)
    · simp only [List.getElem?_toArray, List.getElem?_cons_succ, List.getElem?_cons_zero, Option.some.injEq] at ho
      subst ho
      refine ⟨rfl, ?_⟩
      have e1 : A_.tmps[1]?.getD undef = .pointer (some ⟨w.heap.size, 0, none⟩) := by rw [hI.low 1 (by decide)]; rfl
      clear hI hdep
      exact .run rfl (.pointer (some ⟨w.heap.size, 3, none⟩)) w3 (by simp [execOp, go_sem, Act.eval, e1]) (Below.refl _ _) rfl
    · simp only [List.getElem?_toArray, List.getElem?_cons_succ, List.getElem?_cons_zero, Option.some.injEq] at ho
      subst ho
      refine ⟨rfl, ?_⟩
      have e10 : A_.tmps[10]?.getD undef = .pointer (some ⟨w.heap.size, 3, none⟩) := getD_of (hI.val_ (i := 7) rfl rfl (by decide) (hdep ⟨7, .data⟩ (by simp) rfl))
      clear hI hdep
      obtain ⟨d0, d1, d2, d3, d4, d5, d6, d7⟩ := HK.out w3 hh
      exact .run rfl (.agg #[.int .i64 c, .int .i64 h, .int .i64 t, .int .i64 i, .int .i64 p]) w3 (by simp [execOp, go_sem, Act.eval, *]) (Below.refl _ _) rfl
    · simp only [List.getElem?_toArray, List.getElem?_cons_succ, List.getElem?_cons_zero, Option.some.injEq] at ho
      subst ho
      refine ⟨rfl, ?_⟩
      have e11 : A_.tmps[11]?.getD undef = .agg #[.int .i64 c, .int .i64 h, .int .i64 t, .int .i64 i, .int .i64 p] := getD_of (hI.val_ (i := 8) rfl rfl (by decide) (hdep ⟨8, .data⟩ (by simp) rfl))
      clear hI hdep
      exact .call rfl 37 #[.agg #[.int .i64 c, .int .i64 h, .int .i64 t, .int .i64 i, .int .i64 p]] (by simp [go_sem, Act.eval, e11]) (msgKey_row _ _ _ _ _ w3)
    · simp only [List.getElem?_toArray, List.getElem?_cons_succ, List.getElem?_cons_zero, Option.some.injEq] at ho
      subst ho
      refine ⟨rfl, ?_⟩
      obtain ⟨_, e9, g9, rfl, r9⟩ := hI.get_ (i := 6) (j := 9) rfl rfl (by decide) (hdep ⟨6, .data⟩ (by simp) rfl)
      obtain ⟨_, e12, g12, rfl, r12⟩ := hI.get_ (i := 9) (j := 12) rfl rfl (by decide) (hdep ⟨9, .data⟩ (by simp) rfl)
      clear hI hdep
      obtain ⟨i0, hi0, hz0, hs0, hb0⟩ := RgX.info_split info_intK
      exact .run rfl _ _ (RgX.run_append_new (a := A_) (.tmp 9) (.tmp 12) 22 rfl 3 i0 (.int .i64 0) Tryz.underlying22 hi0 hz0 (some ⟨g9, 0, none⟩) 3 [.int .i64 k, .int .i64 n, .int .i64 a] (by simpa [Act.eval] using e9) (by rw [hs0]; exact run_firstCells_some w3.drew 1 3 ⟨g9, 0, none⟩ 3 3 _ rfl (World.news_of_block r9)) ⟨g12, 0, none⟩ 5 5 [.int .i64 c, .int .i64 h, .int .i64 t, .int .i64 i, .int .i64 p] (by simpa [Act.eval] using e12) (by rw [hs0]; rfl) (World.news_of_block r12) (fun u hu => by simp at hu; rcases hu with rfl | rfl | rfl | rfl | rfl <;> rfl) (by decide) (by decide) (by rw [hb0]; decide)) (RgX.below_drew_alloc _ _) (RgX.key_new w3 [k, n, a, c, h, t, i, p] _ _ _ rfl rfl)
    · simp only [List.getElem?_toArray, List.getElem?_cons_succ, List.getElem?_cons_zero, Option.some.injEq] at ho
      subst ho
      refine ⟨rfl, ?_⟩
      obtain ⟨y13, e13, h13⟩ := hI.get_ (i := 10) (j := 13) rfl rfl (by decide) (hdep ⟨10, .data⟩ (by simp) rfl)
      clear hI hdep
      exact .run rfl y13 w3 (by simp [execOp, go_sem, Act.eval, e13]) (Below.refl _ _) h13
  case fin =>
  intro A_ w3 hs hd hlow hS hok
  obtain ⟨_, hy2, g2, m2, rfl, l2, r2⟩ := hok 11 2 _ (by decide) rfl rfl
  obtain ⟨_, hy9, g9, rfl, r9⟩ := hok 6 9 _ (by decide) rfl rfl
  obtain ⟨_, hy12, g12, rfl, r12⟩ := hok 9 12 _ (by decide) rfl rfl
  obtain ⟨_, hy13, g13, m13, rfl, l13, r13⟩ := hok 10 13 _ (by decide) rfl rfl
  obtain rfl : A_ = ⟨#[.agg #[.int .i64 k, .int .i64 n, .int .i64 a, .int .i64 c, .int .i64 h, .int .i64 t, .int .i64 i, .int .i64 p], .pointer (some ⟨w.heap.size, 0, none⟩), .slice (some ⟨g2, 0, none⟩) 8 m2, .pointer (some ⟨w.heap.size, 0, none⟩), .int .i64 k, .pointer (some ⟨w.heap.size, 1, none⟩), .int .i64 n, .pointer (some ⟨w.heap.size, 2, none⟩), .int .i64 a, .slice (some ⟨g9, 0, none⟩) 3 3, .pointer (some ⟨w.heap.size, 3, none⟩), .agg #[.int .i64 c, .int .i64 h, .int .i64 t, .int .i64 i, .int .i64 p], .slice (some ⟨g12, 0, none⟩) 5 5, .slice (some ⟨g13, 0, none⟩) 8 m13], []⟩ := act_ext hd hs (fun j hj => match j, hj with | 0, _ => (hlow 0 (by decide)).trans rfl | 1, _ => (hlow 1 (by decide)).trans rfl | 2, _ => hy2 | 3, _ => RgX.val_at (hok 0 3 _ (by decide) rfl rfl) | 4, _ => RgX.val_at (hok 1 4 _ (by decide) rfl rfl) | 5, _ => RgX.val_at (hok 2 5 _ (by decide) rfl rfl) | 6, _ => RgX.val_at (hok 3 6 _ (by decide) rfl rfl) | 7, _ => RgX.val_at (hok 4 7 _ (by decide) rfl rfl) | 8, _ => RgX.val_at (hok 5 8 _ (by decide) rfl rfl) | 9, _ => hy9 | 10, _ => RgX.val_at (hok 7 10 _ (by decide) rfl rfl) | 11, _ => RgX.val_at (hok 8 11 _ (by decide) rfl rfl) | 12, _ => hy12 | 13, _ => hy13 | n + 14, h => absurd h (by show ¬ n + 14 < 14; omega))
  clear hs hd hlow hok hy2 hy9 hy12 hy13
  go_wp2_with fail
  go_ret
  exact ⟨⟨_, rfl, g2, m2, rfl, l2, r2⟩, HB.out.trans (hS.mono HB.out.size)⟩
end Go.Proofs.YtggallpnbbidfaaGreatDoor
