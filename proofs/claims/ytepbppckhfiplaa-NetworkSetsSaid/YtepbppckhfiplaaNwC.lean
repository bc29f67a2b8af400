/-
  The reference's order of names. No condition.
-/
import Derived.Test.YtepbppckhfiplaaNmMk
import Derived.Test.YtepbppckhfiplaaNmRl
import Derived.Test.YtepbppckhfiplaaNmO
import Derived.Test.YtepbppckhfiplaaRgX
namespace Go.Proofs.Ytepbppckhfiplaa
open Go Go.RowKit Go.Proofs
attribute [local go_sem] Oper.semAt_some

theorem msgKey_sp (m : NM.Ms) (w : World) : Calls Try.prog 40 #[msV m] w fun e w' => (∃ v, e = .returned v ∧ (RgX.Sp.row #[.int .i64 m.c, .int .i64 m.h, .int .i64 m.t, .int .i64 m.i, .int .i64 m.p] 3 5).p w' v) ∧ Below w.heap.size w w' :=
  (msgKey_any m.c m.h m.t m.i m.p w).mono fun _ _ ⟨⟨g, h1, h2⟩, h3⟩ => ⟨⟨_, h1, g, rfl, h2⟩, h3⟩
set_option maxHeartbeats 4000000 in
set_option maxRecDepth 100000 in
theorem cmpMsgR_any (a b : NM.Ms) (w : World) : Calls Try.prog 37 #[msV a, msV b] w fun e w' => e = .returned (.int .i64 (NM.lexL (NM.msL a) (NM.msL b))) ∧ Below w.heap.size w w' := by
  obtain ⟨U, hU, hb, k1, k2, hlt⟩ := two_boxes w (.cells #[.int .i64 a.c, .int .i64 a.h, .int .i64 a.t, .int .i64 a.i, .int .i64 a.p] 26) (.cells #[.int .i64 b.c, .int .i64 b.h, .int .i64 b.t, .int .i64 b.i, .int .i64 b.p] 26)
  have HK := Lib.hid (fun (V : World) (hV : Below U.heap.size U V) => And.intro (row5 ((hV.block _ (by omega)).trans k1)) (row5 ((hV.block _ hlt).trans k2)))
  have HB := Lib.hid hb
  clear k1 k2 hb
  go_enter Try.func37, Try.ntmps37
  go_wp2_with fail
  clear hU
  refine RgX.region 6 (fun i => (if i = 5 then 4 else 5 + i)) (fun ix_ => match ix_ with | 0 => .v (.agg #[.int .i64 a.c, .int .i64 a.h, .int .i64 a.t, .int .i64 a.i, .int .i64 a.p]) | 1 => .row #[.int .i64 a.c, .int .i64 a.h, .int .i64 a.t, .int .i64 a.i, .int .i64 a.p] 3 5 | 2 => .v (.agg #[.int .i64 b.c, .int .i64 b.h, .int .i64 b.t, .int .i64 b.i, .int .i64 b.p]) | 3 => .row #[.int .i64 b.c, .int .i64 b.h, .int .i64 b.t, .int .i64 b.i, .int .i64 b.p] 3 5 | 4 => .v (.int .i64 (NM.lexL (NM.msL a) (NM.msL b))) | 5 => .v (.int .i64 (NM.lexL (NM.msL a) (NM.msL b))) | _ => .any) (by kernel_rfl) rfl (by kernel_rfl)  (fun i hi => by show (if i = 5 then 4 else 5 + i) < 10; (repeat' split) <;> omega) (fun i j hi hj => by show (if i = 5 then 4 else 5 + i) = (if j = 5 then 4 else 5 + j) → i = j; (repeat' split) <;> omega) ?step ?fin
  case step =>
    intro L_ A_ w3 ix op_ hI ho hdep
    have hi : ix < 6 := (Array.getElem?_eq_some_iff.1 ho).1
    have hcase : ix = 0 ∨ ix = 1 ∨ ix = 2 ∨ ix = 3 ∨ ix = 4 ∨ ix = 5 := by omega
    have hh := hI.held
    clear hi
    rcases hcase with rfl | rfl | rfl | rfl | rfl | rfl
    · simp only [List.getElem?_toArray, List.getElem?_cons_zero, Option.some.injEq] at ho
      subst ho
      refine ⟨rfl, ?_⟩
      have e2 : A_.tmps[2]?.getD undef = .pointer (some ⟨w.heap.size, 0, none⟩) := by rw [hI.low 2 (by decide)]; rfl
      clear hI hdep
      obtain ⟨⟨d0, d1, d2, d3, d4⟩, f0, f1, f2, f3, f4⟩ := HK.out w3 hh
      exact .run rfl (.agg #[.int .i64 a.c, .int .i64 a.h, .int .i64 a.t, .int .i64 a.i, .int .i64 a.p]) w3 (by simp [execOp, go_sem, Act.eval, *]) (Below.refl _ _) rfl
    · simp only [List.getElem?_toArray, List.getElem?_cons_succ, List.getElem?_cons_zero, Option.some.injEq] at ho
      subst ho
      refine ⟨rfl, ?_⟩
      have e5 : A_.tmps[5]?.getD undef = .agg #[.int .i64 a.c, .int .i64 a.h, .int .i64 a.t, .int .i64 a.i, .int .i64 a.p] := getD_of (hI.val_ (i := 0) rfl rfl (by decide) (hdep ⟨0, .data⟩ (by simp) rfl))
      clear hI hdep
      exact .call rfl 40 #[.agg #[.int .i64 a.c, .int .i64 a.h, .int .i64 a.t, .int .i64 a.i, .int .i64 a.p]] (by simp [go_sem, Act.eval, e5]) (msgKey_sp a w3)
    · simp only [List.getElem?_toArray, List.getElem?_cons_succ, List.getElem?_cons_zero, Option.some.injEq] at ho
      subst ho
      refine ⟨rfl, ?_⟩
      have e3 : A_.tmps[3]?.getD undef = .pointer (some ⟨w.heap.size + 1, 0, none⟩) := by rw [hI.low 3 (by decide)]; rfl
      clear hI hdep
      obtain ⟨⟨d0, d1, d2, d3, d4⟩, f0, f1, f2, f3, f4⟩ := HK.out w3 hh
      exact .run rfl (.agg #[.int .i64 b.c, .int .i64 b.h, .int .i64 b.t, .int .i64 b.i, .int .i64 b.p]) w3 (by simp [execOp, go_sem, Act.eval, *]) (Below.refl _ _) rfl
    · simp only [List.getElem?_toArray, List.getElem?_cons_succ, List.getElem?_cons_zero, Option.some.injEq] at ho
      subst ho
      refine ⟨rfl, ?_⟩
      have e7 : A_.tmps[7]?.getD undef = .agg #[.int .i64 b.c, .int .i64 b.h, .int .i64 b.t, .int .i64 b.i, .int .i64 b.p] := getD_of (hI.val_ (i := 2) rfl rfl (by decide) (hdep ⟨2, .data⟩ (by simp) rfl))
      clear hI hdep
      exact .call rfl 40 #[.agg #[.int .i64 b.c, .int .i64 b.h, .int .i64 b.t, .int .i64 b.i, .int .i64 b.p]] (by simp [go_sem, Act.eval, e7]) (msgKey_sp b w3)
    · simp only [List.getElem?_toArray, List.getElem?_cons_succ, List.getElem?_cons_zero, Option.some.injEq] at ho
      subst ho
      refine ⟨rfl, ?_⟩
      obtain ⟨_, e6, g6, rfl, r6⟩ := hI.get_ (i := 1) (j := 6) rfl rfl (by decide) (hdep ⟨1, .data⟩ (by simp) rfl)
      obtain ⟨_, e8, g8, rfl, r8⟩ := hI.get_ (i := 3) (j := 8) rfl rfl (by decide) (hdep ⟨3, .data⟩ (by simp) rfl)
      clear hI hdep
      exact .call rfl 39 #[.slice (some ⟨g6, 0, none⟩) 5 5, .slice (some ⟨g8, 0, none⟩) 5 5] (by simp [go_sem, Act.eval, e6, e8]) ((lists_any (NM.msL a) (NM.msL b) w3 r6 r8 rfl rfl (show (5 : Nat) ≤ 100 by omega)).mono fun _ _ ⟨h1_, h2_⟩ => ⟨⟨_, h1_, rfl⟩, h2_⟩)
    · simp only [List.getElem?_toArray, List.getElem?_cons_succ, List.getElem?_cons_zero, Option.some.injEq] at ho
      subst ho
      refine ⟨rfl, ?_⟩
      have e9 : A_.tmps[9]?.getD undef = .int .i64 (NM.lexL (NM.msL a) (NM.msL b)) := getD_of (hI.val_ (i := 4) rfl rfl (by decide) (hdep ⟨4, .data⟩ (by simp) rfl))
      clear hI hdep
      exact .run rfl (.int .i64 (NM.lexL (NM.msL a) (NM.msL b))) w3 (by simp [execOp, go_sem, Act.eval, e9]) (Below.refl _ _) rfl
  case fin =>
  intro A_ w3 hs hd hlow hS hok
  obtain ⟨_, hy6, g6, rfl, r6⟩ := hok 1 6 _ (by decide) rfl rfl
  obtain ⟨_, hy8, g8, rfl, r8⟩ := hok 3 8 _ (by decide) rfl rfl
  obtain rfl : A_ = ⟨#[msV a, msV b, .pointer (some ⟨w.heap.size, 0, none⟩), .pointer (some ⟨w.heap.size + 1, 0, none⟩), .int .i64 (NM.lexL (NM.msL a) (NM.msL b)), .agg #[.int .i64 a.c, .int .i64 a.h, .int .i64 a.t, .int .i64 a.i, .int .i64 a.p], .slice (some ⟨g6, 0, none⟩) 5 5, .agg #[.int .i64 b.c, .int .i64 b.h, .int .i64 b.t, .int .i64 b.i, .int .i64 b.p], .slice (some ⟨g8, 0, none⟩) 5 5, .int .i64 (NM.lexL (NM.msL a) (NM.msL b))], []⟩ := act_ext hd hs (fun j hj => match j, hj with | 0, _ => (hlow 0 (by decide)).trans rfl | 1, _ => (hlow 1 (by decide)).trans rfl | 2, _ => (hlow 2 (by decide)).trans rfl | 3, _ => (hlow 3 (by decide)).trans rfl | 4, _ => RgX.val_at (hok 5 4 _ (by decide) rfl rfl) | 5, _ => RgX.val_at (hok 0 5 _ (by decide) rfl rfl) | 6, _ => hy6 | 7, _ => RgX.val_at (hok 2 7 _ (by decide) rfl rfl) | 8, _ => hy8 | 9, _ => RgX.val_at (hok 4 9 _ (by decide) rfl rfl) | n + 10, h => absurd h (by show ¬ n + 10 < 10; omega))
  clear hs hd hlow hok hy6 hy8
  go_wp2_with fail
  go_ret
  exact ⟨rfl, HB.out.trans (hS.mono HB.out.size)⟩
end Go.Proofs.Ytepbppckhfiplaa
