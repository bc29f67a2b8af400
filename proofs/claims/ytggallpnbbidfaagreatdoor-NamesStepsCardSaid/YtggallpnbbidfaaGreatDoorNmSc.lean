/-
  The reference's order of two steps. No condition.
-/
import Derived.Test.YtggallpnbbidfaaGreatDoorNmSk
namespace Go.Proofs.YtggallpnbbidfaaGreatDoor
open Go Go.RowKit Go.Proofs
attribute [local go_sem] Oper.semAt_some

set_option maxHeartbeats 4000000 in
set_option maxRecDepth 100000 in
theorem cmpStepR_any (k n a c h t i p k2 n2_ a2 c2 h2 t2 i2 p2 : Int) (A1 A2 B1 B2 : Option Addr) (n1 m1 n2 m2 pp1 q1 pp2 q2 : Nat) (o1 o2 : Bool) {l1 l2 : List (NM.Qu × Int)} (w : World) (ha1 : Asks w A1 n1 l1) (ha2 : Asks w A2 n2 l2) (b1 : n1 ≤ 12) (b2 : n2 ≤ 12) :
    Calls Tryz.prog 9 #[.agg #[.int .i64 k, .int .i64 n, .int .i64 a, .int .i64 c, .int .i64 h, .int .i64 t, .int .i64 i, .int .i64 p, .slice A1 n1 m1, .bool o1, .slice B1 pp1 q1], .agg #[.int .i64 k2, .int .i64 n2_, .int .i64 a2, .int .i64 c2, .int .i64 h2, .int .i64 t2, .int .i64 i2, .int .i64 p2, .slice A2 n2 m2, .bool o2, .slice B2 pp2 q2]] w fun e w' => e = .returned (.int .i64 (NM.lexL (NM.stepL ⟨k, n, a, ⟨c, h, t, i, p⟩⟩ l1) (NM.stepL ⟨k2, n2_, a2, ⟨c2, h2, t2, i2, p2⟩⟩ l2))) ∧ Below w.heap.size w w' := by
  obtain ⟨U, hU, hb, k1_, k2_, hlt⟩ := two_boxes w (.cells #[.int .i64 k, .int .i64 n, .int .i64 a, .int .i64 c, .int .i64 h, .int .i64 t, .int .i64 i, .int .i64 p, .slice A1 n1 m1, .bool o1, .slice B1 pp1 q1] 32) (.cells #[.int .i64 k2, .int .i64 n2_, .int .i64 a2, .int .i64 c2, .int .i64 h2, .int .i64 t2, .int .i64 i2, .int .i64 p2, .slice A2 n2 m2, .bool o2, .slice B2 pp2 q2] 32)
  have HK := Lib.hid (fun (V : World) (hV : Below U.heap.size U V) => And.intro (row11 ((hV.block _ (by omega)).trans k1_)) (row11 ((hV.block _ hlt).trans k2_)))
  have HS1 := Lib.hid (fun (V : World) (hV : Below U.heap.size U V) => stepKey_any k n a c h t i p A1 B1 n1 m1 pp1 q1 o1 V (ha1.keep (hb.trans (hV.mono hb.size))) b1)
  have HS2 := Lib.hid (fun (V : World) (hV : Below U.heap.size U V) => stepKey_any k2 n2_ a2 c2 h2 t2 i2 p2 A2 B2 n2 m2 pp2 q2 o2 V (ha2.keep (hb.trans (hV.mono hb.size))) b2)
  have hn1 : (NM.stepL ⟨k, n, a, ⟨c, h, t, i, p⟩⟩ l1).length ≤ 100 := by rw [NM.stepL_len, ha1.1]; omega
  have hn2 : (NM.stepL ⟨k2, n2_, a2, ⟨c2, h2, t2, i2, p2⟩⟩ l2).length ≤ 100 := by rw [NM.stepL_len, ha2.1]; omega
  generalize NM.stepL ⟨k, n, a, ⟨c, h, t, i, p⟩⟩ l1 = L1 at *
  generalize NM.stepL ⟨k2, n2_, a2, ⟨c2, h2, t2, i2, p2⟩⟩ l2 = L2 at *
  have HN := Lib.hid (And.intro hn1 hn2)
  have HB := Lib.hid hb
  clear k1_ k2_ hb ha1 ha2 hn1 hn2
  go_enter Tryz.func9, Tryz.ntmps9
  go_wp2_with fail
  clear hU
  refine RgX.region 6 (fun i => (if i = 5 then 4 else 5 + i)) (fun ix_ => match ix_ with | 0 => .v (.agg #[.int .i64 k, .int .i64 n, .int .i64 a, .int .i64 c, .int .i64 h, .int .i64 t, .int .i64 i, .int .i64 p, .slice A1 n1 m1, .bool o1, .slice B1 pp1 q1]) | 1 => RgX.Sp.key L1 | 2 => .v (.agg #[.int .i64 k2, .int .i64 n2_, .int .i64 a2, .int .i64 c2, .int .i64 h2, .int .i64 t2, .int .i64 i2, .int .i64 p2, .slice A2 n2 m2, .bool o2, .slice B2 pp2 q2]) | 3 => RgX.Sp.key L2 | 4 => .v (.int .i64 (NM.lexL L1 L2)) | 5 => .v (.int .i64 (NM.lexL L1 L2)) | _ => .any) (by kernel_rfl) rfl (by kernel_rfl)  (fun i hi => by show (if i = 5 then 4 else 5 + i) < 10; (repeat' split) <;> omega) (fun i j hi hj => by show (if i = 5 then 4 else 5 + i) = (if j = 5 then 4 else 5 + j) → i = j; (repeat' split) <;> omega) ?step ?fin
  case step =>
    intro L_ A_ w3 ix op_ hI ho hdep
    have hi : ix < 6 := (Array.getElem?_eq_some_iff.1 ho).1
    have hcase : ix = 0 ∨ ix = 1 ∨ ix = 2 ∨ ix = 3 ∨ ix = 4 ∨ ix = 5 := by omega
    have hh := hI.held
    clear hi
    rcases hcase with rfl | rfl | rfl | rfl | rfl | rfl
    · simp only [List.getElem?_toArray, List.getElem?_cons_zero, Option.some.injEq] at ho
      subst ho
      refine ⟨rfl, ?_⟩
      have e2 : A_.tmps[2]?.getD undef = .pointer (some ⟨w.heap.size, 0, none⟩) := by rw [hI.low 2 (by decide)]; rfl
      clear hI hdep
      obtain ⟨⟨d0, d1, d2, d3, d4, d5, d6, d7, d8, d9, d10⟩, f0, f1, f2, f3, f4, f5, f6, f7, f8, f9, f10⟩ := HK.out w3 hh
      exact .run rfl (.agg #[.int .i64 k, .int .i64 n, .int .i64 a, .int .i64 c, .int .i64 h, .int .i64 t, .int .i64 i, .int .i64 p, .slice A1 n1 m1, .bool o1, .slice B1 pp1 q1]) w3 (by simp [execOp, go_sem, Act.eval, *]) (Below.refl _ _) rfl
    · simp only [List.getElem?_toArray, List.getElem?_cons_succ, List.getElem?_cons_zero, Option.some.injEq] at ho
      subst ho
      refine ⟨rfl, ?_⟩
      have e5 : A_.tmps[5]?.getD undef = .agg #[.int .i64 k, .int .i64 n, .int .i64 a, .int .i64 c, .int .i64 h, .int .i64 t, .int .i64 i, .int .i64 p, .slice A1 n1 m1, .bool o1, .slice B1 pp1 q1] := getD_of (hI.val_ (i := 0) rfl rfl (by decide) (hdep ⟨0, .data⟩ (by simp) rfl))
      clear hI hdep
      exact .call rfl 26 #[.agg #[.int .i64 k, .int .i64 n, .int .i64 a, .int .i64 c, .int .i64 h, .int .i64 t, .int .i64 i, .int .i64 p, .slice A1 n1 m1, .bool o1, .slice B1 pp1 q1]] (by simp [go_sem, Act.eval, e5]) (HS1.out w3 hh)
    · simp only [List.getElem?_toArray, List.getElem?_cons_succ, List.getElem?_cons_zero, Option.some.injEq] at ho
      subst ho
      refine ⟨rfl, ?_⟩
      have e3 : A_.tmps[3]?.getD undef = .pointer (some ⟨w.heap.size + 1, 0, none⟩) := by rw [hI.low 3 (by decide)]; rfl
      clear hI hdep
      obtain ⟨⟨d0, d1, d2, d3, d4, d5, d6, d7, d8, d9, d10⟩, f0, f1, f2, f3, f4, f5, f6, f7, f8, f9, f10⟩ := HK.out w3 hh
      exact .run rfl (.agg #[.int .i64 k2, .int .i64 n2_, .int .i64 a2, .int .i64 c2, .int .i64 h2, .int .i64 t2, .int .i64 i2, .int .i64 p2, .slice A2 n2 m2, .bool o2, .slice B2 pp2 q2]) w3 (by simp [execOp, go_sem, Act.eval, *]) (Below.refl _ _) rfl
    · simp only [List.getElem?_toArray, List.getElem?_cons_succ, List.getElem?_cons_zero, Option.some.injEq] at ho
      subst ho
      refine ⟨rfl, ?_⟩
      have e7 : A_.tmps[7]?.getD undef = .agg #[.int .i64 k2, .int .i64 n2_, .int .i64 a2, .int .i64 c2, .int .i64 h2, .int .i64 t2, .int .i64 i2, .int .i64 p2, .slice A2 n2 m2, .bool o2, .slice B2 pp2 q2] := getD_of (hI.val_ (i := 2) rfl rfl (by decide) (hdep ⟨2, .data⟩ (by simp) rfl))
      clear hI hdep
      exact .call rfl 26 #[.agg #[.int .i64 k2, .int .i64 n2_, .int .i64 a2, .int .i64 c2, .int .i64 h2, .int .i64 t2, .int .i64 i2, .int .i64 p2, .slice A2 n2 m2, .bool o2, .slice B2 pp2 q2]] (by simp [go_sem, Act.eval, e7]) (HS2.out w3 hh)
    · simp only [List.getElem?_toArray, List.getElem?_cons_succ, List.getElem?_cons_zero, Option.some.injEq] at ho
      subst ho
      refine ⟨rfl, ?_⟩
      obtain ⟨_, e6, g6, m6, rfl, l6, r6⟩ := hI.get_ (i := 1) (j := 6) rfl rfl (by decide) (hdep ⟨1, .data⟩ (by simp) rfl)
      obtain ⟨_, e8, g8, m8, rfl, l8, r8⟩ := hI.get_ (i := 3) (j := 8) rfl rfl (by decide) (hdep ⟨3, .data⟩ (by simp) rfl)
      clear hI hdep
      exact .call rfl 25 #[.slice (some ⟨g6, 0, none⟩) L1.length m6, .slice (some ⟨g8, 0, none⟩) L2.length m8] (by simp [go_sem, Act.eval, e6, e8]) ((lists_two L1 L2 w3 ⟨l6, r6⟩ ⟨l8, r8⟩ rfl rfl HN.out.1 HN.out.2).mono fun _ _ ⟨h1_, h2_⟩ => ⟨⟨_, h1_, rfl⟩, h2_⟩)
    · simp only [List.getElem?_toArray, List.getElem?_cons_succ, List.getElem?_cons_zero, Option.some.injEq] at ho
      subst ho
      refine ⟨rfl, ?_⟩
      have e9 : A_.tmps[9]?.getD undef = .int .i64 (NM.lexL L1 L2) := getD_of (hI.val_ (i := 4) rfl rfl (by decide) (hdep ⟨4, .data⟩ (by simp) rfl))
      clear hI hdep
      exact .run rfl (.int .i64 (NM.lexL L1 L2)) w3 (by simp [execOp, go_sem, Act.eval, e9]) (Below.refl _ _) rfl
  case fin =>
  intro A_ w3 hs hd hlow hS hok
  obtain ⟨_, hy6, g6, m6, rfl, l6, r6⟩ := hok 1 6 _ (by decide) rfl rfl
  obtain ⟨_, hy8, g8, m8, rfl, l8, r8⟩ := hok 3 8 _ (by decide) rfl rfl
  obtain rfl : A_ = ⟨#[.agg #[.int .i64 k, .int .i64 n, .int .i64 a, .int .i64 c, .int .i64 h, .int .i64 t, .int .i64 i, .int .i64 p, .slice A1 n1 m1, .bool o1, .slice B1 pp1 q1], .agg #[.int .i64 k2, .int .i64 n2_, .int .i64 a2, .int .i64 c2, .int .i64 h2, .int .i64 t2, .int .i64 i2, .int .i64 p2, .slice A2 n2 m2, .bool o2, .slice B2 pp2 q2], .pointer (some ⟨w.heap.size, 0, none⟩), .pointer (some ⟨w.heap.size + 1, 0, none⟩), .int .i64 (NM.lexL L1 L2), .agg #[.int .i64 k, .int .i64 n, .int .i64 a, .int .i64 c, .int .i64 h, .int .i64 t, .int .i64 i, .int .i64 p, .slice A1 n1 m1, .bool o1, .slice B1 pp1 q1], .slice (some ⟨g6, 0, none⟩) L1.length m6, .agg #[.int .i64 k2, .int .i64 n2_, .int .i64 a2, .int .i64 c2, .int .i64 h2, .int .i64 t2, .int .i64 i2, .int .i64 p2, .slice A2 n2 m2, .bool o2, .slice B2 pp2 q2], .slice (some ⟨g8, 0, none⟩) L2.length m8, .int .i64 (NM.lexL L1 L2)], []⟩ := act_ext hd hs (fun j hj => match j, hj with | 0, _ => (hlow 0 (by decide)).trans rfl | 1, _ => (hlow 1 (by decide)).trans rfl | 2, _ => (hlow 2 (by decide)).trans rfl | 3, _ => (hlow 3 (by decide)).trans rfl | 4, _ => RgX.val_at (hok 5 4 _ (by decide) rfl rfl) | 5, _ => RgX.val_at (hok 0 5 _ (by decide) rfl rfl) | 6, _ => hy6 | 7, _ => RgX.val_at (hok 2 7 _ (by decide) rfl rfl) | 8, _ => hy8 | 9, _ => RgX.val_at (hok 4 9 _ (by decide) rfl rfl) | n + 10, h => absurd h (by show ¬ n + 10 < 10; omega))
  clear hs hd hlow hok hy6 hy8
  go_wp2_with fail
  go_ret
  exact ⟨rfl, HB.out.trans (hS.mono HB.out.size)⟩
end Go.Proofs.YtggallpnbbidfaaGreatDoor
