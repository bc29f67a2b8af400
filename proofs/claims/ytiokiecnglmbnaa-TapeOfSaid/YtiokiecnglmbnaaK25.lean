/-
  The program's Equal. Conditions: the lengths.
-/
import Derived.Test.YtiokiecnglmbnaaK20
import Derived.Test.YtiokiecnglmbnaaK33
import Derived.Test.YtiokiecnglmbnaaK15

namespace Go.Proofs.Ytiokiecnglmbnaa
open Go Go.RowKit Go.Proofs
attribute [local go_sem] Oper.semAt_some

set_option maxHeartbeats 8000000 in
set_option maxRecDepth 100000 in
theorem equalP_any {E1 A1 E2 A2 : Option Addr} {n1 c1 a1 d1 n2 c2 a2 d2 : Nat} {e1 e2 : List NM.Ev} {l1 l2 : List TP.An} (w : World) (h1 : TIn w E1 n1 c1 A1 a1 e1 l1) (h2 : TIn w E2 n2 c2 A2 a2 e2 l2) :
    Calls Try.prog 19 #[.agg #[.slice E1 n1 c1, .slice A1 a1 d1], .agg #[.slice E2 n2 c2, .slice A2 a2 d2]] w fun e w' => e = .returned (.bool (decide (e1 = e2 ∧ TP.normA l1 = TP.normA l2))) ∧ Below w.heap.size w w' := by
  obtain ⟨U, hU, hb, k1, k2, hlt⟩ := two_boxes w (.cells #[.slice E1 n1 c1, .slice A1 a1 d1] 26) (.cells #[.slice E2 n2 c2, .slice A2 a2 d2] 26)
  have HI1 := Lib.hid (h1.keep hb)
  have HI2 := Lib.hid (h2.keep hb)
  have HK := Lib.hid (fun (V : World) (hV : Below U.heap.size U V) => And.intro (row2 ((hV.block _ (by omega)).trans k1)) (row2 ((hV.block _ (by omega)).trans k2)))
  have HB := Lib.hid hb
  obtain ⟨b1, hb1⟩ : ∃ b, decide (e1 = e2) = b := ⟨_, rfl⟩
  obtain ⟨b2, hb2⟩ : ∃ b, decide (TP.normA l1 = TP.normA l2) = b := ⟨_, rfl⟩
  have HR := Lib.hid (show decide (e1 = e2 ∧ TP.normA l1 = TP.normA l2) = (b1 && b2) by rw [← hb1, ← hb2, Bool.decide_and])
  have HB12 := Lib.hid (And.intro hb1 hb2)
  clear k1 k2 hb h1 h2 hb1 hb2
  go_enter Try.func19, Try.ntmps19
  go_wp2_with fail
  clear hU
  refine RgX.region 15 (fun i => (if i = 14 then 4 else 5 + i)) (fun ix_ => match ix_ with | 0 => .v (.pointer (some ⟨w.heap.size, 0, none⟩)) | 1 => .v (.slice E1 n1 c1) | 2 => .v (.pointer (some ⟨w.heap.size + 1, 0, none⟩)) | 3 => .v (.slice E2 n2 c2) | 4 => .v (.bool b1) | 5 => .v (.bool b1) | 6 => (bif b1 then (.v (.pointer (some ⟨w.heap.size, 1, none⟩)) : RgX.Sp) else .v undef) | 7 => (bif b1 then (.v (.slice A1 a1 d1) : RgX.Sp) else .v undef) | 8 => (bif b1 then (.mapq U.heap.size (TP.getA l1) a1 : RgX.Sp) else .v undef) | 9 => (bif b1 then (.v (.pointer (some ⟨w.heap.size + 1, 1, none⟩)) : RgX.Sp) else .v undef) | 10 => (bif b1 then (.v (.slice A2 a2 d2) : RgX.Sp) else .v undef) | 11 => (bif b1 then (.mapq U.heap.size (TP.getA l2) a2 : RgX.Sp) else .v undef) | 12 => (bif b1 then (.v (.bool b2) : RgX.Sp) else .v undef) | 13 => .v (.bool (b1 && b2)) | 14 => .v (.bool (b1 && b2)) | _ => .any) (by kernel_rfl) rfl (by kernel_rfl)  (fun i hi => by show (if i = 14 then 4 else 5 + i) < 19; (repeat' split) <;> omega) (fun i j hi hj => by show (if i = 14 then 4 else 5 + i) = (if j = 14 then 4 else 5 + j) → i = j; (repeat' split) <;> omega) ?step ?fin
  case step =>
    intro L_ A_ w3 ix op_ hI ho hdep
    have hi : ix < 15 := (Array.getElem?_eq_some_iff.1 ho).1
    have hcase : ix = 0 ∨ ix = 1 ∨ ix = 2 ∨ ix = 3 ∨ ix = 4 ∨ ix = 5 ∨ ix = 6 ∨ ix = 7 ∨ ix = 8 ∨ ix = 9 ∨ ix = 10 ∨ ix = 11 ∨ ix = 12 ∨ ix = 13 ∨ ix = 14 := by omega
    have hh := hI.held
    clear hi
    rcases hcase with rfl | rfl | rfl | rfl | rfl | rfl | rfl | rfl | rfl | rfl | rfl | rfl | rfl | rfl | rfl
    · simp only [List.getElem?_toArray, List.getElem?_cons_zero, Option.some.injEq] at ho
      subst ho
      refine ⟨rfl, ?_⟩
      have e2 : A_.tmps[2]?.getD undef = .pointer (some ⟨w.heap.size, 0, none⟩) := by rw [hI.low 2 (by decide)]; rfl
      clear hI hdep
      exact .run rfl (.pointer (some ⟨w.heap.size, 0, none⟩)) w3 (by simp [execOp, go_sem, Act.eval, e2]) (Below.refl _ _) rfl
    · simp only [List.getElem?_toArray, List.getElem?_cons_succ, List.getElem?_cons_zero, Option.some.injEq] at ho
      subst ho
      refine ⟨rfl, ?_⟩
      have e5 : A_.tmps[5]?.getD undef = .pointer (some ⟨w.heap.size, 0, none⟩) := getD_of (hI.val_ (i := 0) rfl rfl (by decide) (hdep ⟨0, .data⟩ (by simp) rfl))
      clear hI hdep
      obtain ⟨⟨⟨x0, x1⟩, _, _⟩, ⟨y0, y1⟩, _, _⟩ := HK.out w3 hh
      exact .run rfl (.slice E1 n1 c1) w3 (by simp [execOp, go_sem, Act.eval, *]) (Below.refl _ _) rfl
    · simp only [List.getElem?_toArray, List.getElem?_cons_succ, List.getElem?_cons_zero, Option.some.injEq] at ho
      subst ho
      refine ⟨rfl, ?_⟩
      have e3 : A_.tmps[3]?.getD undef = .pointer (some ⟨w.heap.size + 1, 0, none⟩) := by rw [hI.low 3 (by decide)]; rfl
      clear hI hdep
      exact .run rfl (.pointer (some ⟨w.heap.size + 1, 0, none⟩)) w3 (by simp [execOp, go_sem, Act.eval, e3]) (Below.refl _ _) rfl
    · simp only [List.getElem?_toArray, List.getElem?_cons_succ, List.getElem?_cons_zero, Option.some.injEq] at ho
      subst ho
      refine ⟨rfl, ?_⟩
      have e7 : A_.tmps[7]?.getD undef = .pointer (some ⟨w.heap.size + 1, 0, none⟩) := getD_of (hI.val_ (i := 2) rfl rfl (by decide) (hdep ⟨2, .data⟩ (by simp) rfl))
      clear hI hdep
      obtain ⟨⟨⟨x0, x1⟩, _, _⟩, ⟨y0, y1⟩, _, _⟩ := HK.out w3 hh
      exact .run rfl (.slice E2 n2 c2) w3 (by simp [execOp, go_sem, Act.eval, *]) (Below.refl _ _) rfl
    · simp only [List.getElem?_toArray, List.getElem?_cons_succ, List.getElem?_cons_zero, Option.some.injEq] at ho
      subst ho
      refine ⟨rfl, ?_⟩
      have e6 : A_.tmps[6]?.getD undef = .slice E1 n1 c1 := getD_of (hI.val_ (i := 1) rfl rfl (by decide) (hdep ⟨1, .data⟩ (by simp) rfl))
      have e8 : A_.tmps[8]?.getD undef = .slice E2 n2 c2 := getD_of (hI.val_ (i := 3) rfl rfl (by decide) (hdep ⟨3, .data⟩ (by simp) rfl))
      clear hI hdep
      exact .call rfl 47 #[.slice E1 n1 c1, .slice E2 n2 c2] (by simp [go_sem, Act.eval, e6, e8]) ((HB12.out.1 ▸ evsEqual_any w3 (HI1.out.keep hh).ev (HI2.out.keep hh).ev HI1.out.be).mono fun _ _ ⟨h1_, h2_⟩ => ⟨⟨_, h1_, rfl⟩, h2_⟩)
    · simp only [List.getElem?_toArray, List.getElem?_cons_succ, List.getElem?_cons_zero, Option.some.injEq] at ho
      subst ho
      refine ⟨rfl, ?_⟩
      have e9 : A_.tmps[9]?.getD undef = .bool b1 := getD_of (hI.val_ (i := 4) rfl rfl (by decide) (hdep ⟨4, .data⟩ (by simp) rfl))
      clear hI hdep
      exact .run rfl (.bool b1) w3 (by simp [execOp, go_sem, Act.eval, e9]) (Below.refl _ _) rfl
    · simp only [List.getElem?_toArray, List.getElem?_cons_succ, List.getElem?_cons_zero, Option.some.injEq] at ho
      subst ho
      refine ⟨rfl, ?_⟩
      cases b1
      · have q10 : A_.tmps[10]? = some (.bool false) := hI.val_ (i := 5) rfl rfl (by decide) (hdep ⟨5, .guard⟩ (by simp) rfl)
        exact .skip ((wanted_some rfl rfl q10).trans rfl) (fun _ => rfl)
      · have q10 : A_.tmps[10]? = some (.bool true) := hI.val_ (i := 5) rfl rfl (by decide) (hdep ⟨5, .guard⟩ (by simp) rfl)
        have e2 : A_.tmps[2]?.getD undef = .pointer (some ⟨w.heap.size, 0, none⟩) := by rw [hI.low 2 (by decide)]; rfl
        clear hI hdep
        exact .run ((wanted_some rfl rfl q10).trans rfl) (.pointer (some ⟨w.heap.size, 1, none⟩)) w3 (by simp [execOp, go_sem, Act.eval, e2]) (Below.refl _ _) rfl
    · simp only [List.getElem?_toArray, List.getElem?_cons_succ, List.getElem?_cons_zero, Option.some.injEq] at ho
      subst ho
      refine ⟨rfl, ?_⟩
      cases b1
      · have q10 : A_.tmps[10]? = some (.bool false) := hI.val_ (i := 5) rfl rfl (by decide) (hdep ⟨5, .guard⟩ (by simp) rfl)
        exact .skip ((wanted_some rfl rfl q10).trans rfl) (fun _ => rfl)
      · have q10 : A_.tmps[10]? = some (.bool true) := hI.val_ (i := 5) rfl rfl (by decide) (hdep ⟨5, .guard⟩ (by simp) rfl)
        have e11 : A_.tmps[11]?.getD undef = .pointer (some ⟨w.heap.size, 1, none⟩) := getD_of (hI.val_ (i := 6) rfl rfl (by decide) (hdep ⟨6, .data⟩ (by simp) rfl))
        clear hI hdep
        obtain ⟨⟨⟨x0, x1⟩, _, _⟩, ⟨y0, y1⟩, _, _⟩ := HK.out w3 hh
        exact .run ((wanted_some rfl rfl q10).trans rfl) (.slice A1 a1 d1) w3 (by simp [execOp, go_sem, Act.eval, *]) (Below.refl _ _) rfl
    · simp only [List.getElem?_toArray, List.getElem?_cons_succ, List.getElem?_cons_zero, Option.some.injEq] at ho
      subst ho
      refine ⟨rfl, ?_⟩
      cases b1
      · have q10 : A_.tmps[10]? = some (.bool false) := hI.val_ (i := 5) rfl rfl (by decide) (hdep ⟨5, .guard⟩ (by simp) rfl)
        exact .skip ((wanted_some rfl rfl q10).trans rfl) (fun _ => rfl)
      · have q10 : A_.tmps[10]? = some (.bool true) := hI.val_ (i := 5) rfl rfl (by decide) (hdep ⟨5, .guard⟩ (by simp) rfl)
        have e12 : A_.tmps[12]?.getD undef = .slice A1 a1 d1 := getD_of (hI.val_ (i := 7) rfl rfl (by decide) (hdep ⟨7, .data⟩ (by simp) rfl))
        clear hI hdep
        exact .call ((wanted_some rfl rfl q10).trans rfl) 45 #[.slice A1 a1 d1] (by simp [go_sem, Act.eval, e12]) (RgX.mapq_calls (collectA_any w3 (HI1.out.keep hh).an HI1.out.ba) hh.size)
    · simp only [List.getElem?_toArray, List.getElem?_cons_succ, List.getElem?_cons_zero, Option.some.injEq] at ho
      subst ho
      refine ⟨rfl, ?_⟩
      cases b1
      · have q10 : A_.tmps[10]? = some (.bool false) := hI.val_ (i := 5) rfl rfl (by decide) (hdep ⟨5, .guard⟩ (by simp) rfl)
        exact .skip ((wanted_some rfl rfl q10).trans rfl) (fun _ => rfl)
      · have q10 : A_.tmps[10]? = some (.bool true) := hI.val_ (i := 5) rfl rfl (by decide) (hdep ⟨5, .guard⟩ (by simp) rfl)
        have e3 : A_.tmps[3]?.getD undef = .pointer (some ⟨w.heap.size + 1, 0, none⟩) := by rw [hI.low 3 (by decide)]; rfl
        clear hI hdep
        exact .run ((wanted_some rfl rfl q10).trans rfl) (.pointer (some ⟨w.heap.size + 1, 1, none⟩)) w3 (by simp [execOp, go_sem, Act.eval, e3]) (Below.refl _ _) rfl
    · simp only [List.getElem?_toArray, List.getElem?_cons_succ, List.getElem?_cons_zero, Option.some.injEq] at ho
      subst ho
      refine ⟨rfl, ?_⟩
      cases b1
      · have q10 : A_.tmps[10]? = some (.bool false) := hI.val_ (i := 5) rfl rfl (by decide) (hdep ⟨5, .guard⟩ (by simp) rfl)
        exact .skip ((wanted_some rfl rfl q10).trans rfl) (fun _ => rfl)
      · have q10 : A_.tmps[10]? = some (.bool true) := hI.val_ (i := 5) rfl rfl (by decide) (hdep ⟨5, .guard⟩ (by simp) rfl)
        have e14 : A_.tmps[14]?.getD undef = .pointer (some ⟨w.heap.size + 1, 1, none⟩) := getD_of (hI.val_ (i := 9) rfl rfl (by decide) (hdep ⟨9, .data⟩ (by simp) rfl))
        clear hI hdep
        obtain ⟨⟨⟨x0, x1⟩, _, _⟩, ⟨y0, y1⟩, _, _⟩ := HK.out w3 hh
        exact .run ((wanted_some rfl rfl q10).trans rfl) (.slice A2 a2 d2) w3 (by simp [execOp, go_sem, Act.eval, *]) (Below.refl _ _) rfl
    · simp only [List.getElem?_toArray, List.getElem?_cons_succ, List.getElem?_cons_zero, Option.some.injEq] at ho
      subst ho
      refine ⟨rfl, ?_⟩
      cases b1
      · have q10 : A_.tmps[10]? = some (.bool false) := hI.val_ (i := 5) rfl rfl (by decide) (hdep ⟨5, .guard⟩ (by simp) rfl)
        exact .skip ((wanted_some rfl rfl q10).trans rfl) (fun _ => rfl)
      · have q10 : A_.tmps[10]? = some (.bool true) := hI.val_ (i := 5) rfl rfl (by decide) (hdep ⟨5, .guard⟩ (by simp) rfl)
        have e15 : A_.tmps[15]?.getD undef = .slice A2 a2 d2 := getD_of (hI.val_ (i := 10) rfl rfl (by decide) (hdep ⟨10, .data⟩ (by simp) rfl))
        clear hI hdep
        exact .call ((wanted_some rfl rfl q10).trans rfl) 45 #[.slice A2 a2 d2] (by simp [go_sem, Act.eval, e15]) (RgX.mapq_calls (collectA_any w3 (HI2.out.keep hh).an HI2.out.ba) hh.size)
    · simp only [List.getElem?_toArray, List.getElem?_cons_succ, List.getElem?_cons_zero, Option.some.injEq] at ho
      subst ho
      refine ⟨rfl, ?_⟩
      cases b1
      · have q10 : A_.tmps[10]? = some (.bool false) := hI.val_ (i := 5) rfl rfl (by decide) (hdep ⟨5, .guard⟩ (by simp) rfl)
        exact .skip ((wanted_some rfl rfl q10).trans rfl) (fun _ => rfl)
      · have q10 : A_.tmps[10]? = some (.bool true) := hI.val_ (i := 5) rfl rfl (by decide) (hdep ⟨5, .guard⟩ (by simp) rfl)
        obtain ⟨_, e13, B13, rfl, h13⟩ := hI.get_ (i := 8) (j := 13) rfl rfl (by decide) (hdep ⟨8, .data⟩ (by simp) rfl)
        obtain ⟨_, e16, B16, rfl, h16⟩ := hI.get_ (i := 11) (j := 16) rfl rfl (by decide) (hdep ⟨11, .data⟩ (by simp) rfl)
        clear hI hdep
        exact .call ((wanted_some rfl rfl q10).trans rfl) 48 #[Value.map (some B13), Value.map (some B16)] (by simp [go_sem, Act.eval, e13, e16]) ((HB12.out.2 ▸ mapsEqual_any w3 h13.2 h16.2).mono fun _ _ ⟨h1_, h2_⟩ => ⟨⟨_, h1_, rfl⟩, h2_⟩)
    · simp only [List.getElem?_toArray, List.getElem?_cons_succ, List.getElem?_cons_zero, Option.some.injEq] at ho
      subst ho
      refine ⟨rfl, ?_⟩
      cases b1
      · have e10 : A_.tmps[10]?.getD undef = .bool false := getD_of (hI.val_ (i := 5) rfl rfl (by decide) (hdep ⟨5, .data⟩ (by simp) rfl))
        have e17 : A_.tmps[17]?.getD undef = undef := getD_of (hI.val_ (i := 12) rfl rfl (by decide) (hdep ⟨12, .data⟩ (by simp) rfl))
        clear hI hdep
        exact .run rfl (.bool false) w3 (by simp [execOp, go_sem, Act.eval, e10, e17]) (Below.refl _ _) rfl
      · have e10 : A_.tmps[10]?.getD undef = .bool true := getD_of (hI.val_ (i := 5) rfl rfl (by decide) (hdep ⟨5, .data⟩ (by simp) rfl))
        have e17 : A_.tmps[17]?.getD undef = .bool b2 := getD_of (hI.val_ (i := 12) rfl rfl (by decide) (hdep ⟨12, .data⟩ (by simp) rfl))
        clear hI hdep
        exact .run rfl (.bool b2) w3 (by simp [execOp, go_sem, Act.eval, e10, e17]) (Below.refl _ _) rfl
    · simp only [List.getElem?_toArray, List.getElem?_cons_succ, List.getElem?_cons_zero, Option.some.injEq] at ho
      subst ho
      refine ⟨rfl, ?_⟩
      have e18 : A_.tmps[18]?.getD undef = .bool (b1 && b2) := getD_of (hI.val_ (i := 13) rfl rfl (by decide) (hdep ⟨13, .data⟩ (by simp) rfl))
      clear hI hdep
      exact .run rfl (.bool (b1 && b2)) w3 (by simp [execOp, go_sem, Act.eval, e18]) (Below.refl _ _) rfl
  case fin =>
  intro A_ w3 hs hd hlow hS hok
  obtain ⟨y11, hy11, _⟩ := hok 6 11 _ (by decide) rfl rfl
  obtain ⟨y12, hy12, _⟩ := hok 7 12 _ (by decide) rfl rfl
  obtain ⟨y13, hy13, _⟩ := hok 8 13 _ (by decide) rfl rfl
  obtain ⟨y14, hy14, _⟩ := hok 9 14 _ (by decide) rfl rfl
  obtain ⟨y15, hy15, _⟩ := hok 10 15 _ (by decide) rfl rfl
  obtain ⟨y16, hy16, _⟩ := hok 11 16 _ (by decide) rfl rfl
  obtain ⟨y17, hy17, _⟩ := hok 12 17 _ (by decide) rfl rfl
  obtain rfl : A_ = ⟨#[.agg #[.slice E1 n1 c1, .slice A1 a1 d1], .agg #[.slice E2 n2 c2, .slice A2 a2 d2], .pointer (some ⟨w.heap.size, 0, none⟩), .pointer (some ⟨w.heap.size + 1, 0, none⟩), .bool (b1 && b2), .pointer (some ⟨w.heap.size, 0, none⟩), .slice E1 n1 c1, .pointer (some ⟨w.heap.size + 1, 0, none⟩), .slice E2 n2 c2, .bool b1, .bool b1, y11, y12, y13, y14, y15, y16, y17, .bool (b1 && b2)], []⟩ := act_ext hd hs (fun j hj => match j, hj with | 0, _ => (hlow 0 (by decide)).trans rfl | 1, _ => (hlow 1 (by decide)).trans rfl | 2, _ => (hlow 2 (by decide)).trans rfl | 3, _ => (hlow 3 (by decide)).trans rfl | 4, _ => RgX.val_at (hok 14 4 _ (by decide) rfl rfl) | 5, _ => RgX.val_at (hok 0 5 _ (by decide) rfl rfl) | 6, _ => RgX.val_at (hok 1 6 _ (by decide) rfl rfl) | 7, _ => RgX.val_at (hok 2 7 _ (by decide) rfl rfl) | 8, _ => RgX.val_at (hok 3 8 _ (by decide) rfl rfl) | 9, _ => RgX.val_at (hok 4 9 _ (by decide) rfl rfl) | 10, _ => RgX.val_at (hok 5 10 _ (by decide) rfl rfl) | 11, _ => hy11 | 12, _ => hy12 | 13, _ => hy13 | 14, _ => hy14 | 15, _ => hy15 | 16, _ => hy16 | 17, _ => hy17 | 18, _ => RgX.val_at (hok 13 18 _ (by decide) rfl rfl) | n + 19, h => absurd h (by show ¬ n + 19 < 19; omega))
  clear hs hd hlow hok hy11 hy12 hy13 hy14 hy15 hy16 hy17
  have HS := Lib.hid hS
  clear hS
  go_wp2_with fail
  go_ret
  exact ⟨by first | (rw [HR.out]; rfl) | (rw [HB12.out.1, HB12.out.2]; rfl), HB.out.trans (HS.out.mono (by omega))⟩
end Go.Proofs.Ytiokiecnglmbnaa
