/-
  The walk of the law NetworkSets.
-/
import Derived.Test.YtepbppckhfiplaaNwLv
import Derived.Test.YtepbppckhfiplaaNwS
import Derived.Test.YtepbppckhfiplaaNwY
import Derived.Test.YtepbppckhfiplaaNwZ
import Derived.Test.YtepbppckhfiplaaRgY
import Derived.Test.YtepbppckhfiplaaRgZ
import Derived.Test.YtepbppckhfiplaaNwD
import Derived.Test.YtepbppckhfiplaaRgF
import Derived.Deep.Cut
namespace Go.Proofs.Ytepbppckhfiplaa
open Go Go.RowKit Go.Proofs
namespace RgX.Sp
/-- A slice that holds these envelopes, however long it is; the three results of Copy. -/
def ensq (l : List NW.En) : Sp := ⟨fun w x => ∃ B q c, x = .slice B q c ∧ Ens w B q c l, fun ⟨B, q, c, e, h⟩ hb => ⟨B, q, c, e, h.keep hb⟩⟩
def cpt (T : Int × NM.Ms × List NW.En) : Sp := ⟨fun w x => ∃ B q c, x = .tuple #[.slice B q c, msV T.2.1, .int .i64 T.1] ∧ Ens w B q c T.2.2, fun ⟨B, q, c, e, h⟩ hb => ⟨B, q, c, e, h.keep hb⟩⟩
end RgX.Sp
end Go.Proofs.Ytepbppckhfiplaa
namespace Go.Proofs.Ytepbppckhfiplaa.LawNetworkSets
open Go Go.RowKit Go.Proofs Go.Proofs.Ytepbppckhfiplaa
attribute [local go_sem] Oper.semAt_some

set_option maxHeartbeats 60000000 in
set_option maxRecDepth 100000 in
theorem walk (a0 : Option Addr) (len0 cap0 : Nat) (z0 : List Int) (a1 : Int) (yc yh yt yi yp yo yk ya yb : Int) (a3 a4 : Int) (w : World) (w0 : Row .i64 w a0 len0 cap0 z0) (w1 : (Lit.int .i64 a1).wf = true) (w3 : (Lit.int .i64 a3).wf = true) (w4 : (Lit.int .i64 a4).wf = true) :
    Calls Try.prog 3 #[.slice a0 len0 cap0, .int .i64 a1, .agg #[.int .i64 yc, .int .i64 yh, .int .i64 yt, .int .i64 yi, .int .i64 yp, .int .i64 yo, .int .i64 yk, .int .i64 ya, .int .i64 yb], .int .i64 a3, .int .i64 a4] w fun e w' => e = .returned (.bool true) ∧ Below w.heap.size w w' := by
  have w0i := w0.ints.1
  have w0z := i64_of w0.ints.2.2.2
  have HS := Lib.hid (set_any (c := cap0) w w0.ints.1 (i64_of w0.ints.2.2.2))
  have HO := Lib.hid (NW.setL_srt (z0.take len0))
  have HL := Lib.hid (NW.setL_len (z0.take len0))
  have HTO := Lib.hid (fun x (hx : x ∈ NW.setL (z0.take len0)) => NW.setL_to hx)
  obtain ⟨s, hs⟩ : ∃ s, NW.setL (z0.take len0) = s := ⟨_, rfl⟩
  rw [hs] at HS HO HL HTO
  have hlen := HL.out
  have HGx := Lib.hid (fun V => enOf_any a1 (show I64 a1 by have := bounds_i64 w1; unfold I64; omega) V)
  obtain ⟨x, hx⟩ : ∃ x, NW.enOf (NM.arI a1 100000) = x := ⟨_, rfl⟩
  rw [hx] at HGx
  clear hx
  have HAR := Lib.hid (fun V => around_any a3 4 (show I64 a3 by have := bounds_i64 w3; unfold I64; omega) (by omega) (by omega) V)
  obtain ⟨pa, hpa⟩ : ∃ p, around a3 4 = p := ⟨_, rfl⟩
  rw [hpa] at HAR
  obtain ⟨y, hy⟩ : ∃ y : NW.En, y = ⟨⟨yc, yh, yt, yi, yp⟩, yo, yk, ya, yb⟩ := ⟨_, rfl⟩
  have w4_ := w4
  clear w4_ w0 w1 w3 w4 HL HTO hpa
  go_enter Try.func3, Try.ntmps3
  go_upto_region 1 with (fail)
  obtain ⟨W, hW⟩ : ∃ W, w.alloc (.cells #[.int .i64 yc, .int .i64 yh, .int .i64 yt, .int .i64 yi, .int .i64 yp, .int .i64 yo, .int .i64 yk, .int .i64 ya, .int .i64 yb] 28) = W := ⟨_, rfl⟩
  rw [hW]
  have H7 := Lib.hid (show EnB W w.heap.size y from by rw [← hW, hy]; exact new_at rfl)
  have HWB := Lib.hid (show Below w.heap.size w W from hW ▸ one_box w _)
  clear hW hy
  replace HS := Lib.hid (set_any (c := cap0) W ((w0i.below HWB.out).more HWB.out.size) w0z)
  rw [hs] at HS
  clear hs w0i w0z
  go_upto_region 2 with (go_at_call 9; (with_reducible refine HS.out.mono ?_); rintro e v1 ⟨⟨B, r, rfl, hE⟩, hb⟩; have HE := Lib.hid hE; replace H7 := Lib.hid (H7.out.keep hb); have HB := Lib.hid (HWB.out.trans (hb.mono HWB.out.size)); clear hE hb)
  have hy7 := H7.out
  refine RgX.regionB 5 (fun i => (if i = 4 then 12 else 34 + i)) (fun ix_ => match ix_ with | 0 => .v (.int .i64 a1) | 1 => .v (.agg #[.int .i64 x.m.c, .int .i64 x.m.h, .int .i64 x.m.t, .int .i64 x.m.i, .int .i64 x.m.p, .int .i64 x.o, .int .i64 x.k, .int .i64 x.a, .int .i64 x.b]) | 2 => .v (.agg #[.int .i64 y.m.c, .int .i64 y.m.h, .int .i64 y.m.t, .int .i64 y.m.i, .int .i64 y.m.p, .int .i64 y.o, .int .i64 y.k, .int .i64 y.a, .int .i64 y.b]) | 3 => .row #[.int .i64 x.m.c, .int .i64 x.m.h, .int .i64 x.m.t, .int .i64 x.m.i, .int .i64 x.m.p, .int .i64 x.o, .int .i64 x.k, .int .i64 x.a, .int .i64 x.b, .int .i64 y.m.c, .int .i64 y.m.h, .int .i64 y.m.t, .int .i64 y.m.i, .int .i64 y.m.p, .int .i64 y.o, .int .i64 y.k, .int .i64 y.a, .int .i64 y.b] 28 2 | 4 => .row #[.int .i64 x.m.c, .int .i64 x.m.h, .int .i64 x.m.t, .int .i64 x.m.i, .int .i64 x.m.p, .int .i64 x.o, .int .i64 x.k, .int .i64 x.a, .int .i64 x.b, .int .i64 y.m.c, .int .i64 y.m.h, .int .i64 y.m.t, .int .i64 y.m.i, .int .i64 y.m.p, .int .i64 y.o, .int .i64 y.k, .int .i64 y.a, .int .i64 y.b] 28 2 | _ => .any) (by kernel_rfl) rfl (by kernel_rfl)  (fun i hi => by show (if i = 4 then 12 else 34 + i) < 171; (repeat' split) <;> omega) (fun i j hi hj => by show (if i = 4 then 12 else 34 + i) = (if j = 4 then 12 else 34 + j) → i = j; (repeat' split) <;> omega) ?step ?fin
  case step =>
    intro L_ A_ w3 ix op_ hI ho hdep
    have hi : ix < 5 := (Array.getElem?_eq_some_iff.1 ho).1
    have hcase : ix = 0 ∨ ix = 1 ∨ ix = 2 ∨ ix = 3 ∨ ix = 4 := by omega
    have hh := hI.held
    clear hi
    rcases hcase with rfl | rfl | rfl | rfl | rfl
    · simp only [List.getElem?_toArray, List.getElem?_cons_zero, Option.some.injEq] at ho
      subst ho
      refine ⟨rfl, ?_⟩
      have e1 : A_.tmps[1]?.getD undef = .int .i64 a1 := by rw [hI.low 1 (by decide)]; rfl
      clear hI hdep
      exact .run rfl (.int .i64 a1) w3 (by simp [execOp, go_sem, Act.eval, e1]) (Below.refl _ _) rfl
    · simp only [List.getElem?_toArray, List.getElem?_cons_succ, List.getElem?_cons_zero, Option.some.injEq] at ho
      subst ho
      refine ⟨rfl, ?_⟩
      have e34 : A_.tmps[34]?.getD undef = .int .i64 a1 := getD_of (hI.val_ (i := 0) rfl rfl (by decide) (hdep ⟨0, .data⟩ (by simp) rfl))
      clear hI hdep
      exact .call rfl 10 #[.int .i64 a1] (by simp [go_sem, Act.eval, e34]) ((HGx.out w3).mono fun _ _ ⟨h1_, h2_⟩ => ⟨⟨_, h1_, rfl⟩, h2_⟩)
    · simp only [List.getElem?_toArray, List.getElem?_cons_succ, List.getElem?_cons_zero, Option.some.injEq] at ho
      subst ho
      refine ⟨rfl, ?_⟩
      have e7 : A_.tmps[7]?.getD undef = .pointer (some ⟨w.heap.size, 0, none⟩) := by rw [hI.low 7 (by decide)]; rfl
      clear hI hdep
      obtain ⟨p0, p1, p2, p3, p4, p5, p6, p7, p8⟩ := (hy7.keep hh).cells
      exact .run rfl (.agg #[.int .i64 y.m.c, .int .i64 y.m.h, .int .i64 y.m.t, .int .i64 y.m.i, .int .i64 y.m.p, .int .i64 y.o, .int .i64 y.k, .int .i64 y.a, .int .i64 y.b]) w3 (by simp [execOp, go_sem, Act.eval, *]) (Below.refl _ _) rfl
    · simp only [List.getElem?_toArray, List.getElem?_cons_succ, List.getElem?_cons_zero, Option.some.injEq] at ho
      subst ho
      refine ⟨rfl, ?_⟩
      have e35 : A_.tmps[35]?.getD undef = .agg #[.int .i64 x.m.c, .int .i64 x.m.h, .int .i64 x.m.t, .int .i64 x.m.i, .int .i64 x.m.p, .int .i64 x.o, .int .i64 x.k, .int .i64 x.a, .int .i64 x.b] := getD_of (hI.val_ (i := 1) rfl rfl (by decide) (hdep ⟨1, .data⟩ (by simp) rfl))
      have e36 : A_.tmps[36]?.getD undef = .agg #[.int .i64 y.m.c, .int .i64 y.m.h, .int .i64 y.m.t, .int .i64 y.m.i, .int .i64 y.m.p, .int .i64 y.o, .int .i64 y.k, .int .i64 y.a, .int .i64 y.b] := getD_of (hI.val_ (i := 2) rfl rfl (by decide) (hdep ⟨2, .data⟩ (by simp) rfl))
      clear hI hdep
      exact .run rfl (.slice (some ⟨w3.heap.size, 0, none⟩) 2 2) (w3.alloc (.cells #[.int .i64 x.m.c, .int .i64 x.m.h, .int .i64 x.m.t, .int .i64 x.m.i, .int .i64 x.m.p, .int .i64 x.o, .int .i64 x.k, .int .i64 x.a, .int .i64 x.b, .int .i64 y.m.c, .int .i64 y.m.h, .int .i64 y.m.t, .int .i64 y.m.i, .int .i64 y.m.p, .int .i64 y.o, .int .i64 y.k, .int .i64 y.a, .int .i64 y.b] 28)) (by simp [execOp, go_sem, Act.eval, e35, e36]) ((Below.refl _ _).alloc (Nat.le_refl _) _) (RgX.row_new _ _ _ _)
    · simp only [List.getElem?_toArray, List.getElem?_cons_succ, List.getElem?_cons_zero, Option.some.injEq] at ho
      subst ho
      refine ⟨rfl, ?_⟩
      obtain ⟨y37, e37, h37⟩ := hI.get_ (i := 3) (j := 37) rfl rfl (by decide) (hdep ⟨3, .data⟩ (by simp) rfl)
      clear hI hdep
      exact .run rfl y37 w3 (by simp [execOp, go_sem, Act.eval, e37]) (Below.refl _ _) h37
  case fin =>
  intro A_ w3 hs hd hlow hS hok
  obtain ⟨_, hy12, g12, rfl, r12⟩ := hok 4 12 _ (by decide) rfl rfl
  obtain ⟨_, hy37, g37, rfl, r37⟩ := hok 3 37 _ (by decide) rfl rfl
  obtain rfl : A_ = ⟨#[.slice a0 len0 cap0, .int .i64 a1, .agg #[.int .i64 yc, .int .i64 yh, .int .i64 yt, .int .i64 yi, .int .i64 yp, .int .i64 yo, .int .i64 yk, .int .i64 ya, .int .i64 yb], .int .i64 a3, .int .i64 a4, undef, undef, .pointer (some ⟨w.heap.size, 0, none⟩), undef, undef, .bool false, .slice B s.length r, .slice (some ⟨g12, 0, none⟩) 2 2, undef, undef, undef, undef, undef, undef, undef, undef, undef, undef, undef, undef, undef, undef, undef, undef, undef, undef, undef, .slice a0 len0 cap0, .slice B s.length r, .int .i64 a1, .agg #[.int .i64 x.m.c, .int .i64 x.m.h, .int .i64 x.m.t, .int .i64 x.m.i, .int .i64 x.m.p, .int .i64 x.o, .int .i64 x.k, .int .i64 x.a, .int .i64 x.b], .agg #[.int .i64 y.m.c, .int .i64 y.m.h, .int .i64 y.m.t, .int .i64 y.m.i, .int .i64 y.m.p, .int .i64 y.o, .int .i64 y.k, .int .i64 y.a, .int .i64 y.b], .slice (some ⟨g37, 0, none⟩) 2 2, undef, undef, undef, undef, undef, undef, undef, undef, undef, undef, undef, undef, undef, undef, undef, undef, undef, undef, undef, undef, undef, undef, undef, undef, undef, undef, undef, undef, undef, undef, undef, undef, undef, undef, undef, undef, undef, undef, undef, undef, undef, undef, undef, undef, undef, undef, undef, undef, undef, undef, undef, undef, undef, undef, undef, undef, undef, undef, undef, undef, undef, undef, undef, undef, undef, undef, undef, undef, undef, undef, undef, undef, undef, undef, undef, undef, undef, undef, undef, undef, undef, undef, undef, undef, undef, undef, undef, undef, undef, undef, undef, undef, undef, undef, undef, undef, undef, undef, undef, undef, undef, undef, undef, undef, undef, undef, undef, undef, undef, undef, undef, undef, undef, undef, undef, undef, undef, undef, undef, undef, undef, undef, undef, undef, undef, undef, undef, undef, undef, undef, undef, undef, undef], []⟩ := act_ext hd hs (fun j hj => match j, hj with | 0, _ => (hlow 0 (by decide)).trans rfl | 1, _ => (hlow 1 (by decide)).trans rfl | 2, _ => (hlow 2 (by decide)).trans rfl | 3, _ => (hlow 3 (by decide)).trans rfl | 4, _ => (hlow 4 (by decide)).trans rfl | 5, _ => (hlow 5 (by decide)).trans rfl | 6, _ => (hlow 6 (by decide)).trans rfl | 7, _ => (hlow 7 (by decide)).trans rfl | 8, _ => (hlow 8 (by decide)).trans rfl | 9, _ => (hlow 9 (by decide)).trans rfl | 10, _ => (hlow 10 (by decide)).trans rfl | 11, _ => (hlow 11 (by decide)).trans rfl | 12, _ => hy12 | 13, _ => (hlow 13 (by decide)).trans rfl | 14, _ => (hlow 14 (by decide)).trans rfl | 15, _ => (hlow 15 (by decide)).trans rfl | 16, _ => (hlow 16 (by decide)).trans rfl | 17, _ => (hlow 17 (by decide)).trans rfl | 18, _ => (hlow 18 (by decide)).trans rfl | 19, _ => (hlow 19 (by decide)).trans rfl | 20, _ => (hlow 20 (by decide)).trans rfl | 21, _ => (hlow 21 (by decide)).trans rfl | 22, _ => (hlow 22 (by decide)).trans rfl | 23, _ => (hlow 23 (by decide)).trans rfl | 24, _ => (hlow 24 (by decide)).trans rfl | 25, _ => (hlow 25 (by decide)).trans rfl | 26, _ => (hlow 26 (by decide)).trans rfl | 27, _ => (hlow 27 (by decide)).trans rfl | 28, _ => (hlow 28 (by decide)).trans rfl | 29, _ => (hlow 29 (by decide)).trans rfl | 30, _ => (hlow 30 (by decide)).trans rfl | 31, _ => (hlow 31 (by decide)).trans rfl | 32, _ => (hlow 32 (by decide)).trans rfl | 33, _ => (hlow 33 (by decide)).trans rfl | 34, _ => RgX.val_at (hok 0 34 _ (by decide) rfl rfl) | 35, _ => RgX.val_at (hok 1 35 _ (by decide) rfl rfl) | 36, _ => RgX.val_at (hok 2 36 _ (by decide) rfl rfl) | 37, _ => hy37 | 38, _ => (hlow 38 (by decide)).trans rfl | 39, _ => (hlow 39 (by decide)).trans rfl | 40, _ => (hlow 40 (by decide)).trans rfl | 41, _ => (hlow 41 (by decide)).trans rfl | 42, _ => (hlow 42 (by decide)).trans rfl | 43, _ => (hlow 43 (by decide)).trans rfl | 44, _ => (hlow 44 (by decide)).trans rfl | 45, _ => (hlow 45 (by decide)).trans rfl | 46, _ => (hlow 46 (by decide)).trans rfl | 47, _ => (hlow 47 (by decide)).trans rfl | 48, _ => (hlow 48 (by decide)).trans rfl | 49, _ => (hlow 49 (by decide)).trans rfl | 50, _ => (hlow 50 (by decide)).trans rfl | 51, _ => (hlow 51 (by decide)).trans rfl | 52, _ => (hlow 52 (by decide)).trans rfl | 53, _ => (hlow 53 (by decide)).trans rfl | 54, _ => (hlow 54 (by decide)).trans rfl | 55, _ => (hlow 55 (by decide)).trans rfl | 56, _ => (hlow 56 (by decide)).trans rfl | 57, _ => (hlow 57 (by decide)).trans rfl | 58, _ => (hlow 58 (by decide)).trans rfl | 59, _ => (hlow 59 (by decide)).trans rfl | 60, _ => (hlow 60 (by decide)).trans rfl | 61, _ => (hlow 61 (by decide)).trans rfl | 62, _ => (hlow 62 (by decide)).trans rfl | 63, _ => (hlow 63 (by decide)).trans rfl | 64, _ => (hlow 64 (by decide)).trans rfl | 65, _ => (hlow 65 (by decide)).trans rfl | 66, _ => (hlow 66 (by decide)).trans rfl | 67, _ => (hlow 67 (by decide)).trans rfl | 68, _ => (hlow 68 (by decide)).trans rfl | 69, _ => (hlow 69 (by decide)).trans rfl | 70, _ => (hlow 70 (by decide)).trans rfl | 71, _ => (hlow 71 (by decide)).trans rfl | 72, _ => (hlow 72 (by decide)).trans rfl | 73, _ => (hlow 73 (by decide)).trans rfl | 74, _ => (hlow 74 (by decide)).trans rfl | 75, _ => (hlow 75 (by decide)).trans rfl | 76, _ => (hlow 76 (by decide)).trans rfl | 77, _ => (hlow 77 (by decide)).trans rfl | 78, _ => (hlow 78 (by decide)).trans rfl | 79, _ => (hlow 79 (by decide)).trans rfl | 80, _ => (hlow 80 (by decide)).trans rfl | 81, _ => (hlow 81 (by decide)).trans rfl | 82, _ => (hlow 82 (by decide)).trans rfl | 83, _ => (hlow 83 (by decide)).trans rfl | 84, _ => (hlow 84 (by decide)).trans rfl | 85, _ => (hlow 85 (by decide)).trans rfl | 86, _ => (hlow 86 (by decide)).trans rfl | 87, _ => (hlow 87 (by decide)).trans rfl | 88, _ => (hlow 88 (by decide)).trans rfl | 89, _ => (hlow 89 (by decide)).trans rfl | 90, _ => (hlow 90 (by decide)).trans rfl | 91, _ => (hlow 91 (by decide)).trans rfl | 92, _ => (hlow 92 (by decide)).trans rfl | 93, _ => (hlow 93 (by decide)).trans rfl | 94, _ => (hlow 94 (by decide)).trans rfl | 95, _ => (hlow 95 (by decide)).trans rfl | 96, _ => (hlow 96 (by decide)).trans rfl | 97, _ => (hlow 97 (by decide)).trans rfl | 98, _ => (hlow 98 (by decide)).trans rfl | 99, _ => (hlow 99 (by decide)).trans rfl | 100, _ => (hlow 100 (by decide)).trans rfl | 101, _ => (hlow 101 (by decide)).trans rfl | 102, _ => (hlow 102 (by decide)).trans rfl | 103, _ => (hlow 103 (by decide)).trans rfl | 104, _ => (hlow 104 (by decide)).trans rfl | 105, _ => (hlow 105 (by decide)).trans rfl | 106, _ => (hlow 106 (by decide)).trans rfl | 107, _ => (hlow 107 (by decide)).trans rfl | 108, _ => (hlow 108 (by decide)).trans rfl | 109, _ => (hlow 109 (by decide)).trans rfl | 110, _ => (hlow 110 (by decide)).trans rfl | 111, _ => (hlow 111 (by decide)).trans rfl | 112, _ => (hlow 112 (by decide)).trans rfl | 113, _ => (hlow 113 (by decide)).trans rfl | 114, _ => (hlow 114 (by decide)).trans rfl | 115, _ => (hlow 115 (by decide)).trans rfl | 116, _ => (hlow 116 (by decide)).trans rfl | 117, _ => (hlow 117 (by decide)).trans rfl | 118, _ => (hlow 118 (by decide)).trans rfl | 119, _ => (hlow 119 (by decide)).trans rfl | 120, _ => (hlow 120 (by decide)).trans rfl | 121, _ => (hlow 121 (by decide)).trans rfl | 122, _ => (hlow 122 (by decide)).trans rfl | 123, _ => (hlow 123 (by decide)).trans rfl | 124, _ => (hlow 124 (by decide)).trans rfl | 125, _ => (hlow 125 (by decide)).trans rfl | 126, _ => (hlow 126 (by decide)).trans rfl | 127, _ => (hlow 127 (by decide)).trans rfl | 128, _ => (hlow 128 (by decide)).trans rfl | 129, _ => (hlow 129 (by decide)).trans rfl | 130, _ => (hlow 130 (by decide)).trans rfl | 131, _ => (hlow 131 (by decide)).trans rfl | 132, _ => (hlow 132 (by decide)).trans rfl | 133, _ => (hlow 133 (by decide)).trans rfl | 134, _ => (hlow 134 (by decide)).trans rfl | 135, _ => (hlow 135 (by decide)).trans rfl | 136, _ => (hlow 136 (by decide)).trans rfl | 137, _ => (hlow 137 (by decide)).trans rfl | 138, _ => (hlow 138 (by decide)).trans rfl | 139, _ => (hlow 139 (by decide)).trans rfl | 140, _ => (hlow 140 (by decide)).trans rfl | 141, _ => (hlow 141 (by decide)).trans rfl | 142, _ => (hlow 142 (by decide)).trans rfl | 143, _ => (hlow 143 (by decide)).trans rfl | 144, _ => (hlow 144 (by decide)).trans rfl | 145, _ => (hlow 145 (by decide)).trans rfl | 146, _ => (hlow 146 (by decide)).trans rfl | 147, _ => (hlow 147 (by decide)).trans rfl | 148, _ => (hlow 148 (by decide)).trans rfl | 149, _ => (hlow 149 (by decide)).trans rfl | 150, _ => (hlow 150 (by decide)).trans rfl | 151, _ => (hlow 151 (by decide)).trans rfl | 152, _ => (hlow 152 (by decide)).trans rfl | 153, _ => (hlow 153 (by decide)).trans rfl | 154, _ => (hlow 154 (by decide)).trans rfl | 155, _ => (hlow 155 (by decide)).trans rfl | 156, _ => (hlow 156 (by decide)).trans rfl | 157, _ => (hlow 157 (by decide)).trans rfl | 158, _ => (hlow 158 (by decide)).trans rfl | 159, _ => (hlow 159 (by decide)).trans rfl | 160, _ => (hlow 160 (by decide)).trans rfl | 161, _ => (hlow 161 (by decide)).trans rfl | 162, _ => (hlow 162 (by decide)).trans rfl | 163, _ => (hlow 163 (by decide)).trans rfl | 164, _ => (hlow 164 (by decide)).trans rfl | 165, _ => (hlow 165 (by decide)).trans rfl | 166, _ => (hlow 166 (by decide)).trans rfl | 167, _ => (hlow 167 (by decide)).trans rfl | 168, _ => (hlow 168 (by decide)).trans rfl | 169, _ => (hlow 169 (by decide)).trans rfl | 170, _ => (hlow 170 (by decide)).trans rfl | n + 171, h => absurd h (by show ¬ n + 171 < 171; omega))
  clear hs hd hlow hok hy12 hy37
  obtain ⟨v2, h2⟩ : ∃ V, V = w3 := ⟨_, rfl⟩
  rw [← h2] at hS r12 ⊢
  have hb := hS
  have HAL : Hid (Ens v2 (some ⟨g12, 0, none⟩) 2 2 [x, y]) := Lib.hid (RS.Sl.of_block (E := enE) r12 rfl (by simp [maxLen]))
  replace HE := Lib.hid (HE.out.keep hb)
  replace HB := Lib.hid (HB.out.trans (hb.mono HB.out.size))
  clear hb hS h2 hy7 H7 r12 r37
  go_upto_region 4 with (fail)
  go_loopw [13, 14, 15, 16, 17, 18, 19, 20, 21, 22, 23, 24, 25, 26, 27, 28, 29, 30] (fun i _ _ _ _ _ _ _ _ _ _ _ _ _ _ _ _ _ V => ∃ k : Nat, k ≤ 2 ∧ i = .int .i64 (k : Int) ∧ Hid (Ens V B s.length r s) ∧ Hid (Ens V (some ⟨g12, 0, none⟩) 2 2 [x, y]) ∧ Hid (Below w.heap.size w V)) (fun i _ _ _ _ _ _ _ _ _ _ _ _ _ _ _ _ _ _ => 2 - (intOf i).toNat)
  case atStart => exact ⟨0, by omega, rfl, HE, HAL, HB⟩
  case round =>
    clear HE HAL HB
    obtain ⟨k, hk, rfl, HE, HAL, HB⟩ := hrel
    by_cases hk2 : k < 2
    · have d1 : decide ((k : Int) < 2) = true := decide_eq_true (by omega)
      obtain ⟨z, hz⟩ : ∃ z, [x, y][k]? = some z := ⟨_, List.getElem?_eq_getElem (by show k < 2; exact hk2)⟩
      obtain ⟨g_, hg_, hgl, p0, p1, p2, p3, p4, p5, p6, p7, p8⟩ := en_at HAL.out hz
      obtain rfl : g12 = g_ := by injection hg_ with hg_; injection hg_
      clear hz hg_ hgl
      have hk3 : (k : Int) < 2 := by omega
      go_upto_region 7 with (fail)
      clear p0 p1 p2 p3 p4 p5 p6 p7 p8
      obtain ⟨U, hU⟩ : ∃ U, wr.alloc (.cells #[.int .i64 z.m.c, .int .i64 z.m.h, .int .i64 z.m.t, .int .i64 z.m.i, .int .i64 z.m.p, .int .i64 z.o, .int .i64 z.k, .int .i64 z.a, .int .i64 z.b] 28) = U := ⟨_, rfl⟩
      rw [hU]
      obtain ⟨g14, hg14⟩ : ∃ g, g = wr.heap.size := ⟨_, rfl⟩
      have H14 := Lib.hid (show EnB U g14 z from by rw [hg14, ← hU]; exact new_at rfl)
      rw [← hg14]
      have hb : Below wr.heap.size wr U := hU ▸ one_box _ _
      replace HE := Lib.hid (HE.out.keep hb)
      replace HAL := Lib.hid (HAL.out.keep hb)
      replace HB := Lib.hid (HB.out.trans (hb.mono HB.out.size))
      clear hb hU hg14
      obtain ⟨p0, p1, p2, p3, p4, p5, p6, p7, p8⟩ := H14.out.cells
      have HA1 := Lib.hid (fun V (h : Ens V B s.length r s) => add_any z V h HO.out (by omega))
      have HA2 := Lib.hid (fun V (h : Ens V B s.length r s) => refAdd_any z V h (by omega))
      have HF1 := Lib.hid (fun V (h : Ens V B s.length r s) => find_any z.m V h HO.out (by omega))
      have HF2 := Lib.hid (fun V (h : Ens V B s.length r s) => refFind_any z.m V h HO.out (by omega))
      have HR1 := Lib.hid (fun V (h : Ens V B s.length r s) => remove_any z.m V h HO.out (by omega))
      have HR2 := Lib.hid (fun V (h : Ens V B s.length r s) => refRemove_any z.m V h (by omega))
      have HC1 := Lib.hid (fun V p (h : Ens V B s.length r s) => copy_any z.m p V h HO.out (by omega))
      have HC2 := Lib.hid (fun V p (h : Ens V B s.length r s) => refCopy_any z.m p V h HO.out (by omega))
      obtain ⟨la, hla⟩ : ∃ l, (if NW.has s z.m = true then [] else NW.put s z) = l := ⟨_, rfl⟩
      have hll : la.length ≤ 100 := by
        rw [← hla]
        split
        · simp
        · rw [NW.put_len]; omega
      obtain ⟨fa, hfa⟩ : ∃ f : Int, (if NW.has s z.m = true then 4 else 0) = f := ⟨_, rfl⟩
      obtain ⟨bh, hbh⟩ : ∃ b, NW.has s z.m = b := ⟨_, rfl⟩
      obtain ⟨zf, hzf⟩ : ∃ e, (NW.find s z.m).getD NW.z0 = e := ⟨_, rfl⟩
      obtain ⟨rm, hrm⟩ : ∃ l, NW.rem s z.m = l := ⟨_, rfl⟩
      have hrl : rm.length ≤ 100 := by rw [← hrm]; exact Nat.le_trans (List.length_filter_le _ _) (by omega)
      rw [hla, hfa] at HA1 HA2
      rw [hzf, hbh] at HF1 HF2
      rw [hrm] at HR1 HR2
      obtain ⟨qr, hqr⟩ : ∃ q, rm.length = q := ⟨_, rfl⟩
      rw [hqr] at hrl HR1 HR2
      clear hla hfa hbh hzf hrm hqr
      go_upto_region 8 with ((go_at_call 11; (with_reducible refine (HA1.out _ HE.out).mono ?_); rintro e v5 ⟨⟨B15, q15, c15, rfl, h_, _⟩, hb⟩; replace HE := Lib.hid (HE.out.keep hb); replace HAL := Lib.hid (HAL.out.keep hb); replace H14 := Lib.hid (H14.out.keep hb); replace HB := Lib.hid (HB.out.trans (hb.mono HB.out.size)); clear hb; have H15 := Lib.hid h_; clear h_))
      clear p0 p1 p2 p3 p4 p5 p6 p7 p8
      obtain ⟨p0, p1, p2, p3, p4, p5, p6, p7, p8⟩ := H14.out.cells
      go_upto_region 9 with ((go_at_call 12; (with_reducible refine (HA2.out _ HE.out).mono ?_); rintro e v6 ⟨⟨B17, q17, c17, rfl, h_⟩, hb⟩; replace HE := Lib.hid (HE.out.keep hb); replace HAL := Lib.hid (HAL.out.keep hb); replace H14 := Lib.hid (H14.out.keep hb); replace H15 := Lib.hid (H15.out.keep hb); replace HB := Lib.hid (HB.out.trans (hb.mono HB.out.size)); clear hb; have H17 := Lib.hid h_; clear h_))
      clear p0 p1 p2 p3 p4 p5 p6 p7 p8
      obtain ⟨p0, p1, p2, p3, p4, p5, p6, p7, p8⟩ := H14.out.cells
      have hql : q15 = la.length := H15.out.len.symm
      have hql2 : q17 = la.length := H17.out.len.symm
      have hq100 : q15 ≤ 1000 := by omega
      clear hql hql2
      go_upto_region 10 with ((go_at_call 13; (with_reducible refine (HF1.out _ HE.out).mono ?_); rintro e v7 ⟨rfl, hb⟩; replace HE := Lib.hid (HE.out.keep hb); replace HAL := Lib.hid (HAL.out.keep hb); replace H14 := Lib.hid (H14.out.keep hb); replace H15 := Lib.hid (H15.out.keep hb); replace H17 := Lib.hid (H17.out.keep hb); replace HB := Lib.hid (HB.out.trans (hb.mono HB.out.size)); clear hb))
      clear p0 p1 p2 p3 p4 p5 p6 p7 p8
      obtain ⟨U7, hU⟩ : ∃ U, v7.alloc (.cells #[.int .i64 zf.m.c, .int .i64 zf.m.h, .int .i64 zf.m.t, .int .i64 zf.m.i, .int .i64 zf.m.p, .int .i64 zf.o, .int .i64 zf.k, .int .i64 zf.a, .int .i64 zf.b] 28) = U := ⟨_, rfl⟩
      rw [hU]
      obtain ⟨g19, hg_⟩ : ∃ g, g = v7.heap.size := ⟨_, rfl⟩
      have H19 := Lib.hid (show EnB U7 g19 zf from by rw [hg_, ← hU]; exact new_at rfl)
      rw [← hg_]
      have hb : Below v7.heap.size v7 U7 := hU ▸ one_box _ _
      replace HE := Lib.hid (HE.out.keep hb)
      replace HAL := Lib.hid (HAL.out.keep hb)
      replace H14 := Lib.hid (H14.out.keep hb)
      replace H15 := Lib.hid (H15.out.keep hb)
      replace H17 := Lib.hid (H17.out.keep hb)
      replace HB := Lib.hid (HB.out.trans (hb.mono HB.out.size))
      clear hb hU hg_
      obtain ⟨p0, p1, p2, p3, p4, p5, p6, p7, p8⟩ := H14.out.cells
      go_upto_region 11 with ((go_at_call 14; (with_reducible refine (HF2.out _ HE.out).mono ?_); rintro e v8 ⟨rfl, hb⟩; replace HE := Lib.hid (HE.out.keep hb); replace HAL := Lib.hid (HAL.out.keep hb); replace H14 := Lib.hid (H14.out.keep hb); replace H15 := Lib.hid (H15.out.keep hb); replace H17 := Lib.hid (H17.out.keep hb); replace H19 := Lib.hid (H19.out.keep hb); replace HB := Lib.hid (HB.out.trans (hb.mono HB.out.size)); clear hb))
      clear p0 p1 p2 p3 p4 p5 p6 p7 p8
      obtain ⟨U8, hU⟩ : ∃ U, v8.alloc (.cells #[.int .i64 zf.m.c, .int .i64 zf.m.h, .int .i64 zf.m.t, .int .i64 zf.m.i, .int .i64 zf.m.p, .int .i64 zf.o, .int .i64 zf.k, .int .i64 zf.a, .int .i64 zf.b] 28) = U := ⟨_, rfl⟩
      rw [hU]
      obtain ⟨g21, hg_⟩ : ∃ g, g = v8.heap.size := ⟨_, rfl⟩
      have H21 := Lib.hid (show EnB U8 g21 zf from by rw [hg_, ← hU]; exact new_at rfl)
      rw [← hg_]
      have hb : Below v8.heap.size v8 U8 := hU ▸ one_box _ _
      replace HE := Lib.hid (HE.out.keep hb)
      replace HAL := Lib.hid (HAL.out.keep hb)
      replace H14 := Lib.hid (H14.out.keep hb)
      replace H15 := Lib.hid (H15.out.keep hb)
      replace H17 := Lib.hid (H17.out.keep hb)
      replace H19 := Lib.hid (H19.out.keep hb)
      replace HB := Lib.hid (HB.out.trans (hb.mono HB.out.size))
      clear hb hU hg_
      refine RgX.regionB 31 (fun i => ( 72 + i)) (fun ix_ => match ix_ with | 0 => .v (.int .i64 fa) | 1 => .v (.int .i64 fa) | 2 => .v (.bool false) | 3 => .v (.bool false) | 4 => .v (.slice B15 q15 c15) | 5 => .v (.slice B17 q17 c17) | 6 => .v (.bool true) | 7 => .v (.bool false) | 8 => .v (.bool false) | 9 => .v (.bool false) | 10 => .v (.agg #[.int .i64 zf.m.c, .int .i64 zf.m.h, .int .i64 zf.m.t, .int .i64 zf.m.i, .int .i64 zf.m.p, .int .i64 zf.o, .int .i64 zf.k, .int .i64 zf.a, .int .i64 zf.b]) | 11 => .v (.agg #[.int .i64 zf.m.c, .int .i64 zf.m.h, .int .i64 zf.m.t, .int .i64 zf.m.i, .int .i64 zf.m.p, .int .i64 zf.o, .int .i64 zf.k, .int .i64 zf.a, .int .i64 zf.b]) | 12 => .v (.bool false) | 13 => .v (.bool false) | 14 => .v (.bool false) | 15 => .v (.bool bh) | 16 => .v (.bool bh) | 17 => .v (.bool false) | 18 => .v (.bool false) | 19 => .v (.bool false) | 20 => .v (.slice B s.length r) | 21 => .v (.pointer (some ⟨g14, 0, none⟩)) | 22 => .v (.agg #[.int .i64 z.m.c, .int .i64 z.m.h, .int .i64 z.m.t, .int .i64 z.m.i, .int .i64 z.m.p]) | 23 => .ens 0 rm qr | 24 => .v (.slice B s.length r) | 25 => .v (.pointer (some ⟨g14, 0, none⟩)) | 26 => .v (.agg #[.int .i64 z.m.c, .int .i64 z.m.h, .int .i64 z.m.t, .int .i64 z.m.i, .int .i64 z.m.p]) | 27 => .ens 0 rm qr | 28 => .v (.bool true) | 29 => .v (.bool false) | 30 => .v (.bool false) | _ => .any) (by kernel_rfl) rfl (by kernel_rfl)  (fun i hi => by show ( 72 + i) < 171; (repeat' split) <;> omega) (fun i j hi hj => by show ( 72 + i) = ( 72 + j) → i = j; (repeat' split) <;> omega) ?step ?fin
      case step =>
        intro L_ A_ w3 ix op_ hI ho hdep
        have hi : ix < 31 := (Array.getElem?_eq_some_iff.1 ho).1
        have hcase : ix = 0 ∨ ix = 1 ∨ ix = 2 ∨ ix = 3 ∨ ix = 4 ∨ ix = 5 ∨ ix = 6 ∨ ix = 7 ∨ ix = 8 ∨ ix = 9 ∨ ix = 10 ∨ ix = 11 ∨ ix = 12 ∨ ix = 13 ∨ ix = 14 ∨ ix = 15 ∨ ix = 16 ∨ ix = 17 ∨ ix = 18 ∨ ix = 19 ∨ ix = 20 ∨ ix = 21 ∨ ix = 22 ∨ ix = 23 ∨ ix = 24 ∨ ix = 25 ∨ ix = 26 ∨ ix = 27 ∨ ix = 28 ∨ ix = 29 ∨ ix = 30 := by omega
        have hh := hI.held
        clear hi
        rcases hcase with rfl | rfl | rfl | rfl | rfl | rfl | rfl | rfl | rfl | rfl | rfl | rfl | rfl | rfl | rfl | rfl | rfl | rfl | rfl | rfl | rfl | rfl | rfl | rfl | rfl | rfl | rfl | rfl | rfl | rfl | rfl
        · simp only [List.getElem?_toArray, List.getElem?_cons_zero, Option.some.injEq] at ho
          subst ho
          refine ⟨rfl, ?_⟩
          have e16 : A_.tmps[16]?.getD undef = .int .i64 fa := by rw [hI.low 16 (by decide)]; rfl
          clear hI hdep
          exact .run rfl (.int .i64 fa) w3 (by simp [execOp, go_sem, Act.eval, e16]) (Below.refl _ _) rfl
        · simp only [List.getElem?_toArray, List.getElem?_cons_succ, List.getElem?_cons_zero, Option.some.injEq] at ho
          subst ho
          refine ⟨rfl, ?_⟩
          have e18 : A_.tmps[18]?.getD undef = .int .i64 fa := by rw [hI.low 18 (by decide)]; rfl
          clear hI hdep
          exact .run rfl (.int .i64 fa) w3 (by simp [execOp, go_sem, Act.eval, e18]) (Below.refl _ _) rfl
        · simp only [List.getElem?_toArray, List.getElem?_cons_succ, List.getElem?_cons_zero, Option.some.injEq] at ho
          subst ho
          refine ⟨rfl, ?_⟩
          have e72 : A_.tmps[72]?.getD undef = .int .i64 fa := getD_of (hI.val_ (i := 0) rfl rfl (by decide) (hdep ⟨0, .data⟩ (by simp) rfl))
          have e73 : A_.tmps[73]?.getD undef = .int .i64 fa := getD_of (hI.val_ (i := 1) rfl rfl (by decide) (hdep ⟨1, .data⟩ (by simp) rfl))
          clear hI hdep
          exact .run rfl (.bool false) w3 (by simp [execOp, go_sem, Act.eval, *]) (Below.refl _ _) rfl
        · simp only [List.getElem?_toArray, List.getElem?_cons_succ, List.getElem?_cons_zero, Option.some.injEq] at ho
          subst ho
          refine ⟨rfl, ?_⟩
          have e74 : A_.tmps[74]?.getD undef = .bool false := getD_of (hI.val_ (i := 2) rfl rfl (by decide) (hdep ⟨2, .data⟩ (by simp) rfl))
          clear hI hdep
          exact .run rfl (.bool false) w3 (by simp [execOp, go_sem, Act.eval, e74]) (Below.refl _ _) rfl
        · simp only [List.getElem?_toArray, List.getElem?_cons_succ, List.getElem?_cons_zero, Option.some.injEq] at ho
          subst ho
          refine ⟨rfl, ?_⟩
          have q75 : A_.tmps[75]? = some (.bool false) := hI.val_ (i := 3) rfl rfl (by decide) (hdep ⟨3, .guard⟩ (by simp) rfl)
          have e15 : A_.tmps[15]?.getD undef = .slice B15 q15 c15 := by rw [hI.low 15 (by decide)]; rfl
          clear hI hdep
          exact .run ((wanted_some rfl rfl q75).trans rfl) (.slice B15 q15 c15) w3 (by simp [execOp, go_sem, Act.eval, e15]) (Below.refl _ _) rfl
        · simp only [List.getElem?_toArray, List.getElem?_cons_succ, List.getElem?_cons_zero, Option.some.injEq] at ho
          subst ho
          refine ⟨rfl, ?_⟩
          have q75 : A_.tmps[75]? = some (.bool false) := hI.val_ (i := 3) rfl rfl (by decide) (hdep ⟨3, .guard⟩ (by simp) rfl)
          have e17 : A_.tmps[17]?.getD undef = .slice B17 q17 c17 := by rw [hI.low 17 (by decide)]; rfl
          clear hI hdep
          exact .run ((wanted_some rfl rfl q75).trans rfl) (.slice B17 q17 c17) w3 (by simp [execOp, go_sem, Act.eval, e17]) (Below.refl _ _) rfl
        · simp only [List.getElem?_toArray, List.getElem?_cons_succ, List.getElem?_cons_zero, Option.some.injEq] at ho
          subst ho
          refine ⟨rfl, ?_⟩
          have q75 : A_.tmps[75]? = some (.bool false) := hI.val_ (i := 3) rfl rfl (by decide) (hdep ⟨3, .guard⟩ (by simp) rfl)
          have e76 : A_.tmps[76]?.getD undef = .slice B15 q15 c15 := getD_of (hI.val_ (i := 4) rfl rfl (by decide) (hdep ⟨4, .data⟩ (by simp) rfl))
          have e77 : A_.tmps[77]?.getD undef = .slice B17 q17 c17 := getD_of (hI.val_ (i := 5) rfl rfl (by decide) (hdep ⟨5, .data⟩ (by simp) rfl))
          clear hI hdep
          exact .call ((wanted_some rfl rfl q75).trans rfl) 15 #[.slice B15 q15 c15, .slice B17 q17 c17] (by simp [go_sem, Act.eval, e76, e77]) ((sameEn_true (l := la) w3 (H15.out.keep hh) (H17.out.keep hh) (by omega)).mono fun _ _ ⟨h1_, h2_⟩ => ⟨⟨_, h1_, rfl⟩, h2_⟩)
        · simp only [List.getElem?_toArray, List.getElem?_cons_succ, List.getElem?_cons_zero, Option.some.injEq] at ho
          subst ho
          refine ⟨rfl, ?_⟩
          have q75 : A_.tmps[75]? = some (.bool false) := hI.val_ (i := 3) rfl rfl (by decide) (hdep ⟨3, .guard⟩ (by simp) rfl)
          have e78 : A_.tmps[78]?.getD undef = .bool true := getD_of (hI.val_ (i := 6) rfl rfl (by decide) (hdep ⟨6, .data⟩ (by simp) rfl))
          clear hI hdep
          exact .run ((wanted_some rfl rfl q75).trans rfl) (.bool false) w3 (by simp [execOp, go_sem, Act.eval, e78]) (Below.refl _ _) rfl
        · simp only [List.getElem?_toArray, List.getElem?_cons_succ, List.getElem?_cons_zero, Option.some.injEq] at ho
          subst ho
          refine ⟨rfl, ?_⟩
          have e75 : A_.tmps[75]?.getD undef = .bool false := getD_of (hI.val_ (i := 3) rfl rfl (by decide) (hdep ⟨3, .data⟩ (by simp) rfl))
          have e79 : A_.tmps[79]?.getD undef = .bool false := getD_of (hI.val_ (i := 7) rfl rfl (by decide) (hdep ⟨7, .data⟩ (by simp) rfl))
          clear hI hdep
          exact .run rfl (.bool false) w3 (by simp [execOp, go_sem, Act.eval, e75, e79]) (Below.refl _ _) rfl
        · simp only [List.getElem?_toArray, List.getElem?_cons_succ, List.getElem?_cons_zero, Option.some.injEq] at ho
          subst ho
          refine ⟨rfl, ?_⟩
          have e80 : A_.tmps[80]?.getD undef = .bool false := getD_of (hI.val_ (i := 8) rfl rfl (by decide) (hdep ⟨8, .data⟩ (by simp) rfl))
          clear hI hdep
          exact .run rfl (.bool false) w3 (by simp [execOp, go_sem, Act.eval, e80]) (Below.refl _ _) rfl
        · simp only [List.getElem?_toArray, List.getElem?_cons_succ, List.getElem?_cons_zero, Option.some.injEq] at ho
          subst ho
          refine ⟨rfl, ?_⟩
          have q81 : A_.tmps[81]? = some (.bool false) := hI.val_ (i := 9) rfl rfl (by decide) (hdep ⟨9, .guard⟩ (by simp) rfl)
          have e19 : A_.tmps[19]?.getD undef = .pointer (some ⟨g19, 0, none⟩) := by rw [hI.low 19 (by decide)]; rfl
          clear hI hdep
          obtain ⟨x0, x1, x2, x3, x4, x5, x6, x7, x8⟩ := (H14.out.keep hh).cells
          obtain ⟨y0, y1, y2, y3, y4, y5, y6, y7, y8⟩ := (H19.out.keep hh).cells
          obtain ⟨u0, u1, u2, u3, u4, u5, u6, u7, u8⟩ := (H21.out.keep hh).cells
          exact .run ((wanted_some rfl rfl q81).trans rfl) (.agg #[.int .i64 zf.m.c, .int .i64 zf.m.h, .int .i64 zf.m.t, .int .i64 zf.m.i, .int .i64 zf.m.p, .int .i64 zf.o, .int .i64 zf.k, .int .i64 zf.a, .int .i64 zf.b]) w3 (by simp [execOp, go_sem, Act.eval, *]) (Below.refl _ _) rfl
        · simp only [List.getElem?_toArray, List.getElem?_cons_succ, List.getElem?_cons_zero, Option.some.injEq] at ho
          subst ho
          refine ⟨rfl, ?_⟩
          have q81 : A_.tmps[81]? = some (.bool false) := hI.val_ (i := 9) rfl rfl (by decide) (hdep ⟨9, .guard⟩ (by simp) rfl)
          have e21 : A_.tmps[21]?.getD undef = .pointer (some ⟨g21, 0, none⟩) := by rw [hI.low 21 (by decide)]; rfl
          clear hI hdep
          obtain ⟨x0, x1, x2, x3, x4, x5, x6, x7, x8⟩ := (H14.out.keep hh).cells
          obtain ⟨y0, y1, y2, y3, y4, y5, y6, y7, y8⟩ := (H19.out.keep hh).cells
          obtain ⟨u0, u1, u2, u3, u4, u5, u6, u7, u8⟩ := (H21.out.keep hh).cells
          exact .run ((wanted_some rfl rfl q81).trans rfl) (.agg #[.int .i64 zf.m.c, .int .i64 zf.m.h, .int .i64 zf.m.t, .int .i64 zf.m.i, .int .i64 zf.m.p, .int .i64 zf.o, .int .i64 zf.k, .int .i64 zf.a, .int .i64 zf.b]) w3 (by simp [execOp, go_sem, Act.eval, *]) (Below.refl _ _) rfl
        · simp only [List.getElem?_toArray, List.getElem?_cons_succ, List.getElem?_cons_zero, Option.some.injEq] at ho
          subst ho
          refine ⟨rfl, ?_⟩
          have q81 : A_.tmps[81]? = some (.bool false) := hI.val_ (i := 9) rfl rfl (by decide) (hdep ⟨9, .guard⟩ (by simp) rfl)
          have e82 : A_.tmps[82]?.getD undef = .agg #[.int .i64 zf.m.c, .int .i64 zf.m.h, .int .i64 zf.m.t, .int .i64 zf.m.i, .int .i64 zf.m.p, .int .i64 zf.o, .int .i64 zf.k, .int .i64 zf.a, .int .i64 zf.b] := getD_of (hI.val_ (i := 10) rfl rfl (by decide) (hdep ⟨10, .data⟩ (by simp) rfl))
          have e83 : A_.tmps[83]?.getD undef = .agg #[.int .i64 zf.m.c, .int .i64 zf.m.h, .int .i64 zf.m.t, .int .i64 zf.m.i, .int .i64 zf.m.p, .int .i64 zf.o, .int .i64 zf.k, .int .i64 zf.a, .int .i64 zf.b] := getD_of (hI.val_ (i := 11) rfl rfl (by decide) (hdep ⟨11, .data⟩ (by simp) rfl))
          clear hI hdep
          exact .run ((wanted_some rfl rfl q81).trans rfl) (.bool false) w3 (by simp [execOp, go_sem, Act.eval, e82, e83]) (Below.refl _ _) rfl
        · simp only [List.getElem?_toArray, List.getElem?_cons_succ, List.getElem?_cons_zero, Option.some.injEq] at ho
          subst ho
          refine ⟨rfl, ?_⟩
          have e81 : A_.tmps[81]?.getD undef = .bool false := getD_of (hI.val_ (i := 9) rfl rfl (by decide) (hdep ⟨9, .data⟩ (by simp) rfl))
          have e84 : A_.tmps[84]?.getD undef = .bool false := getD_of (hI.val_ (i := 12) rfl rfl (by decide) (hdep ⟨12, .data⟩ (by simp) rfl))
          clear hI hdep
          exact .run rfl (.bool false) w3 (by simp [execOp, go_sem, Act.eval, e81, e84]) (Below.refl _ _) rfl
        · simp only [List.getElem?_toArray, List.getElem?_cons_succ, List.getElem?_cons_zero, Option.some.injEq] at ho
          subst ho
          refine ⟨rfl, ?_⟩
          have e85 : A_.tmps[85]?.getD undef = .bool false := getD_of (hI.val_ (i := 13) rfl rfl (by decide) (hdep ⟨13, .data⟩ (by simp) rfl))
          clear hI hdep
          exact .run rfl (.bool false) w3 (by simp [execOp, go_sem, Act.eval, e85]) (Below.refl _ _) rfl
        · simp only [List.getElem?_toArray, List.getElem?_cons_succ, List.getElem?_cons_zero, Option.some.injEq] at ho
          subst ho
          refine ⟨rfl, ?_⟩
          have q86 : A_.tmps[86]? = some (.bool false) := hI.val_ (i := 14) rfl rfl (by decide) (hdep ⟨14, .guard⟩ (by simp) rfl)
          have e20 : A_.tmps[20]?.getD undef = .bool bh := by rw [hI.low 20 (by decide)]; rfl
          clear hI hdep
          exact .run ((wanted_some rfl rfl q86).trans rfl) (.bool bh) w3 (by simp [execOp, go_sem, Act.eval, e20]) (Below.refl _ _) rfl
        · simp only [List.getElem?_toArray, List.getElem?_cons_succ, List.getElem?_cons_zero, Option.some.injEq] at ho
          subst ho
          refine ⟨rfl, ?_⟩
          have q86 : A_.tmps[86]? = some (.bool false) := hI.val_ (i := 14) rfl rfl (by decide) (hdep ⟨14, .guard⟩ (by simp) rfl)
          have e22 : A_.tmps[22]?.getD undef = .bool bh := by rw [hI.low 22 (by decide)]; rfl
          clear hI hdep
          exact .run ((wanted_some rfl rfl q86).trans rfl) (.bool bh) w3 (by simp [execOp, go_sem, Act.eval, e22]) (Below.refl _ _) rfl
        · simp only [List.getElem?_toArray, List.getElem?_cons_succ, List.getElem?_cons_zero, Option.some.injEq] at ho
          subst ho
          refine ⟨rfl, ?_⟩
          have q86 : A_.tmps[86]? = some (.bool false) := hI.val_ (i := 14) rfl rfl (by decide) (hdep ⟨14, .guard⟩ (by simp) rfl)
          have e87 : A_.tmps[87]?.getD undef = .bool bh := getD_of (hI.val_ (i := 15) rfl rfl (by decide) (hdep ⟨15, .data⟩ (by simp) rfl))
          have e88 : A_.tmps[88]?.getD undef = .bool bh := getD_of (hI.val_ (i := 16) rfl rfl (by decide) (hdep ⟨16, .data⟩ (by simp) rfl))
          clear hI hdep
          exact .run ((wanted_some rfl rfl q86).trans rfl) (.bool false) w3 (by simp [execOp, go_sem, Act.eval, *]) (Below.refl _ _) rfl
        · simp only [List.getElem?_toArray, List.getElem?_cons_succ, List.getElem?_cons_zero, Option.some.injEq] at ho
          subst ho
          refine ⟨rfl, ?_⟩
          have e86 : A_.tmps[86]?.getD undef = .bool false := getD_of (hI.val_ (i := 14) rfl rfl (by decide) (hdep ⟨14, .data⟩ (by simp) rfl))
          have e89 : A_.tmps[89]?.getD undef = .bool false := getD_of (hI.val_ (i := 17) rfl rfl (by decide) (hdep ⟨17, .data⟩ (by simp) rfl))
          clear hI hdep
          exact .run rfl (.bool false) w3 (by simp [execOp, go_sem, Act.eval, e86, e89]) (Below.refl _ _) rfl
        · simp only [List.getElem?_toArray, List.getElem?_cons_succ, List.getElem?_cons_zero, Option.some.injEq] at ho
          subst ho
          refine ⟨rfl, ?_⟩
          have e90 : A_.tmps[90]?.getD undef = .bool false := getD_of (hI.val_ (i := 18) rfl rfl (by decide) (hdep ⟨18, .data⟩ (by simp) rfl))
          clear hI hdep
          exact .run rfl (.bool false) w3 (by simp [execOp, go_sem, Act.eval, e90]) (Below.refl _ _) rfl
        · simp only [List.getElem?_toArray, List.getElem?_cons_succ, List.getElem?_cons_zero, Option.some.injEq] at ho
          subst ho
          refine ⟨rfl, ?_⟩
          have q91 : A_.tmps[91]? = some (.bool false) := hI.val_ (i := 19) rfl rfl (by decide) (hdep ⟨19, .guard⟩ (by simp) rfl)
          have e11 : A_.tmps[11]?.getD undef = .slice B s.length r := by rw [hI.low 11 (by decide)]; rfl
          clear hI hdep
          exact .run ((wanted_some rfl rfl q91).trans rfl) (.slice B s.length r) w3 (by simp [execOp, go_sem, Act.eval, e11]) (Below.refl _ _) rfl
        · simp only [List.getElem?_toArray, List.getElem?_cons_succ, List.getElem?_cons_zero, Option.some.injEq] at ho
          subst ho
          refine ⟨rfl, ?_⟩
          have q91 : A_.tmps[91]? = some (.bool false) := hI.val_ (i := 19) rfl rfl (by decide) (hdep ⟨19, .guard⟩ (by simp) rfl)
          have e14 : A_.tmps[14]?.getD undef = .pointer (some ⟨g14, 0, none⟩) := by rw [hI.low 14 (by decide)]; rfl
          clear hI hdep
          exact .run ((wanted_some rfl rfl q91).trans rfl) (.pointer (some ⟨g14, 0, none⟩)) w3 (by simp [execOp, go_sem, Act.eval, e14]) (Below.refl _ _) rfl
        · simp only [List.getElem?_toArray, List.getElem?_cons_succ, List.getElem?_cons_zero, Option.some.injEq] at ho
          subst ho
          refine ⟨rfl, ?_⟩
          have q91 : A_.tmps[91]? = some (.bool false) := hI.val_ (i := 19) rfl rfl (by decide) (hdep ⟨19, .guard⟩ (by simp) rfl)
          have e93 : A_.tmps[93]?.getD undef = .pointer (some ⟨g14, 0, none⟩) := getD_of (hI.val_ (i := 21) rfl rfl (by decide) (hdep ⟨21, .data⟩ (by simp) rfl))
          clear hI hdep
          obtain ⟨x0, x1, x2, x3, x4, x5, x6, x7, x8⟩ := (H14.out.keep hh).cells
          obtain ⟨y0, y1, y2, y3, y4, y5, y6, y7, y8⟩ := (H19.out.keep hh).cells
          obtain ⟨u0, u1, u2, u3, u4, u5, u6, u7, u8⟩ := (H21.out.keep hh).cells
          exact .run ((wanted_some rfl rfl q91).trans rfl) (.agg #[.int .i64 z.m.c, .int .i64 z.m.h, .int .i64 z.m.t, .int .i64 z.m.i, .int .i64 z.m.p]) w3 (by simp [execOp, go_sem, Act.eval, *]) (Below.refl _ _) rfl
        · simp only [List.getElem?_toArray, List.getElem?_cons_succ, List.getElem?_cons_zero, Option.some.injEq] at ho
          subst ho
          refine ⟨rfl, ?_⟩
          have q91 : A_.tmps[91]? = some (.bool false) := hI.val_ (i := 19) rfl rfl (by decide) (hdep ⟨19, .guard⟩ (by simp) rfl)
          have e92 : A_.tmps[92]?.getD undef = .slice B s.length r := getD_of (hI.val_ (i := 20) rfl rfl (by decide) (hdep ⟨20, .data⟩ (by simp) rfl))
          have e94 : A_.tmps[94]?.getD undef = .agg #[.int .i64 z.m.c, .int .i64 z.m.h, .int .i64 z.m.t, .int .i64 z.m.i, .int .i64 z.m.p] := getD_of (hI.val_ (i := 22) rfl rfl (by decide) (hdep ⟨22, .data⟩ (by simp) rfl))
          clear hI hdep
          exact .call ((wanted_some rfl rfl q91).trans rfl) 16 #[.slice B s.length r, .agg #[.int .i64 z.m.c, .int .i64 z.m.h, .int .i64 z.m.t, .int .i64 z.m.i, .int .i64 z.m.p]] (by simp [go_sem, Act.eval, e92, e94]) ((HR1.out w3 (HE.out.keep hh)).mono fun _ _ ⟨⟨B_, c_, h1_, h2_⟩, h3_⟩ => ⟨⟨_, h1_, B_, c_, rfl, h2_, fun _ _ => Nat.zero_le _⟩, h3_⟩)
        · simp only [List.getElem?_toArray, List.getElem?_cons_succ, List.getElem?_cons_zero, Option.some.injEq] at ho
          subst ho
          refine ⟨rfl, ?_⟩
          have q91 : A_.tmps[91]? = some (.bool false) := hI.val_ (i := 19) rfl rfl (by decide) (hdep ⟨19, .guard⟩ (by simp) rfl)
          have e11 : A_.tmps[11]?.getD undef = .slice B s.length r := by rw [hI.low 11 (by decide)]; rfl
          clear hI hdep
          exact .run ((wanted_some rfl rfl q91).trans rfl) (.slice B s.length r) w3 (by simp [execOp, go_sem, Act.eval, e11]) (Below.refl _ _) rfl
        · simp only [List.getElem?_toArray, List.getElem?_cons_succ, List.getElem?_cons_zero, Option.some.injEq] at ho
          subst ho
          refine ⟨rfl, ?_⟩
          have q91 : A_.tmps[91]? = some (.bool false) := hI.val_ (i := 19) rfl rfl (by decide) (hdep ⟨19, .guard⟩ (by simp) rfl)
          have e14 : A_.tmps[14]?.getD undef = .pointer (some ⟨g14, 0, none⟩) := by rw [hI.low 14 (by decide)]; rfl
          clear hI hdep
          exact .run ((wanted_some rfl rfl q91).trans rfl) (.pointer (some ⟨g14, 0, none⟩)) w3 (by simp [execOp, go_sem, Act.eval, e14]) (Below.refl _ _) rfl
        · simp only [List.getElem?_toArray, List.getElem?_cons_succ, List.getElem?_cons_zero, Option.some.injEq] at ho
          subst ho
          refine ⟨rfl, ?_⟩
          have q91 : A_.tmps[91]? = some (.bool false) := hI.val_ (i := 19) rfl rfl (by decide) (hdep ⟨19, .guard⟩ (by simp) rfl)
          have e97 : A_.tmps[97]?.getD undef = .pointer (some ⟨g14, 0, none⟩) := getD_of (hI.val_ (i := 25) rfl rfl (by decide) (hdep ⟨25, .data⟩ (by simp) rfl))
          clear hI hdep
          obtain ⟨x0, x1, x2, x3, x4, x5, x6, x7, x8⟩ := (H14.out.keep hh).cells
          obtain ⟨y0, y1, y2, y3, y4, y5, y6, y7, y8⟩ := (H19.out.keep hh).cells
          obtain ⟨u0, u1, u2, u3, u4, u5, u6, u7, u8⟩ := (H21.out.keep hh).cells
          exact .run ((wanted_some rfl rfl q91).trans rfl) (.agg #[.int .i64 z.m.c, .int .i64 z.m.h, .int .i64 z.m.t, .int .i64 z.m.i, .int .i64 z.m.p]) w3 (by simp [execOp, go_sem, Act.eval, *]) (Below.refl _ _) rfl
        · simp only [List.getElem?_toArray, List.getElem?_cons_succ, List.getElem?_cons_zero, Option.some.injEq] at ho
          subst ho
          refine ⟨rfl, ?_⟩
          have q91 : A_.tmps[91]? = some (.bool false) := hI.val_ (i := 19) rfl rfl (by decide) (hdep ⟨19, .guard⟩ (by simp) rfl)
          have e96 : A_.tmps[96]?.getD undef = .slice B s.length r := getD_of (hI.val_ (i := 24) rfl rfl (by decide) (hdep ⟨24, .data⟩ (by simp) rfl))
          have e98 : A_.tmps[98]?.getD undef = .agg #[.int .i64 z.m.c, .int .i64 z.m.h, .int .i64 z.m.t, .int .i64 z.m.i, .int .i64 z.m.p] := getD_of (hI.val_ (i := 26) rfl rfl (by decide) (hdep ⟨26, .data⟩ (by simp) rfl))
          clear hI hdep
          exact .call ((wanted_some rfl rfl q91).trans rfl) 17 #[.slice B s.length r, .agg #[.int .i64 z.m.c, .int .i64 z.m.h, .int .i64 z.m.t, .int .i64 z.m.i, .int .i64 z.m.p]] (by simp [go_sem, Act.eval, e96, e98]) ((HR2.out w3 (HE.out.keep hh)).mono fun _ _ ⟨⟨B_, c_, h1_, h2_⟩, h3_⟩ => ⟨⟨_, h1_, B_, c_, rfl, h2_, fun _ _ => Nat.zero_le _⟩, h3_⟩)
        · simp only [List.getElem?_toArray, List.getElem?_cons_succ, List.getElem?_cons_zero, Option.some.injEq] at ho
          subst ho
          refine ⟨rfl, ?_⟩
          have q91 : A_.tmps[91]? = some (.bool false) := hI.val_ (i := 19) rfl rfl (by decide) (hdep ⟨19, .guard⟩ (by simp) rfl)
          obtain ⟨_, e95, B95, c95, rfl, h95⟩ := hI.get_ (i := 23) (j := 95) rfl rfl (by decide) (hdep ⟨23, .data⟩ (by simp) rfl)
          obtain ⟨_, e99, B99, c99, rfl, h99⟩ := hI.get_ (i := 27) (j := 99) rfl rfl (by decide) (hdep ⟨27, .data⟩ (by simp) rfl)
          clear hI hdep
          exact .call ((wanted_some rfl rfl q91).trans rfl) 15 #[.slice B95 qr c95, .slice B99 qr c99] (by simp [go_sem, Act.eval, e95, e99]) ((sameEn_true (l := rm) w3 h95.1 h99.1 (by omega)).mono fun _ _ ⟨h1_, h2_⟩ => ⟨⟨_, h1_, rfl⟩, h2_⟩)
        · simp only [List.getElem?_toArray, List.getElem?_cons_succ, List.getElem?_cons_zero, Option.some.injEq] at ho
          subst ho
          refine ⟨rfl, ?_⟩
          have q91 : A_.tmps[91]? = some (.bool false) := hI.val_ (i := 19) rfl rfl (by decide) (hdep ⟨19, .guard⟩ (by simp) rfl)
          have e100 : A_.tmps[100]?.getD undef = .bool true := getD_of (hI.val_ (i := 28) rfl rfl (by decide) (hdep ⟨28, .data⟩ (by simp) rfl))
          clear hI hdep
          exact .run ((wanted_some rfl rfl q91).trans rfl) (.bool false) w3 (by simp [execOp, go_sem, Act.eval, e100]) (Below.refl _ _) rfl
        · simp only [List.getElem?_toArray, List.getElem?_cons_succ, List.getElem?_cons_zero, Option.some.injEq] at ho
          subst ho
          refine ⟨rfl, ?_⟩
          have e91 : A_.tmps[91]?.getD undef = .bool false := getD_of (hI.val_ (i := 19) rfl rfl (by decide) (hdep ⟨19, .data⟩ (by simp) rfl))
          have e101 : A_.tmps[101]?.getD undef = .bool false := getD_of (hI.val_ (i := 29) rfl rfl (by decide) (hdep ⟨29, .data⟩ (by simp) rfl))
          clear hI hdep
          exact .run rfl (.bool false) w3 (by simp [execOp, go_sem, Act.eval, e91, e101]) (Below.refl _ _) rfl
      case fin =>
      intro A_ w3 hs hd hlow hS hok
      obtain ⟨_, hy95, B95, c95, rfl, h95⟩ := hok 23 95 _ (by decide) rfl rfl
      obtain ⟨_, hy99, B99, c99, rfl, h99⟩ := hok 27 99 _ (by decide) rfl rfl
      obtain rfl : A_ = ⟨#[.slice a0 len0 cap0, .int .i64 a1, .agg #[.int .i64 yc, .int .i64 yh, .int .i64 yt, .int .i64 yi, .int .i64 yp, .int .i64 yo, .int .i64 yk, .int .i64 ya, .int .i64 yb], .int .i64 a3, .int .i64 a4, undef, undef, .pointer (some ⟨w.heap.size, 0, none⟩), undef, undef, u10, .slice B s.length r, .slice (some ⟨g12, 0, none⟩) 2 2, .int .i64 (k : Int), .pointer (some ⟨g14, 0, none⟩), .slice B15 q15 c15, .int .i64 fa, .slice B17 q17 c17, .int .i64 fa, .pointer (some ⟨g19, 0, none⟩), .bool bh, .pointer (some ⟨g21, 0, none⟩), .bool bh, u23, u24, u25, u26, u27, u28, u29, u30, undef, .slice a0 len0 cap0, .slice B s.length r, .int .i64 a1, .agg #[.int .i64 x.m.c, .int .i64 x.m.h, .int .i64 x.m.t, .int .i64 x.m.i, .int .i64 x.m.p, .int .i64 x.o, .int .i64 x.k, .int .i64 x.a, .int .i64 x.b], .agg #[.int .i64 y.m.c, .int .i64 y.m.h, .int .i64 y.m.t, .int .i64 y.m.i, .int .i64 y.m.p, .int .i64 y.o, .int .i64 y.k, .int .i64 y.a, .int .i64 y.b], .slice (some ⟨g37, 0, none⟩) 2 2, .int .i64 (k : Int), .bool true, u40, u41, .slice (some ⟨g12, 0, none⟩) 2 2, .int .i64 (k : Int), .pointer (some { block := g12, off := k * 9 }), .agg #[.int .i64 z.m.c, .int .i64 z.m.h, .int .i64 z.m.t, .int .i64 z.m.i, .int .i64 z.m.p, .int .i64 z.o, .int .i64 z.k, .int .i64 z.a, .int .i64 z.b], Value.tuple #[.slice B15 q15 c15, .int .i64 fa], .slice B s.length r, .agg #[.int .i64 z.m.c, .int .i64 z.m.h, .int .i64 z.m.t, .int .i64 z.m.i, .int .i64 z.m.p, .int .i64 z.o, .int .i64 z.k, .int .i64 z.a, .int .i64 z.b], Value.tuple #[.slice B15 q15 c15, .int .i64 fa], .slice B15 q15 c15, .int .i64 fa, Value.tuple #[.slice B17 q17 c17, .int .i64 fa], .slice B s.length r, .agg #[.int .i64 z.m.c, .int .i64 z.m.h, .int .i64 z.m.t, .int .i64 z.m.i, .int .i64 z.m.p, .int .i64 z.o, .int .i64 z.k, .int .i64 z.a, .int .i64 z.b], Value.tuple #[.slice B17 q17 c17, .int .i64 fa], .slice B17 q17 c17, .int .i64 fa, Value.tuple #[enV zf, .bool bh], .slice B s.length r, .pointer (some ⟨g14, 0, none⟩), .agg #[.int .i64 z.m.c, .int .i64 z.m.h, .int .i64 z.m.t, .int .i64 z.m.i, .int .i64 z.m.p], Value.tuple #[enV zf, .bool bh], enV zf, .bool bh, Value.tuple #[enV zf, .bool bh], .slice B s.length r, .pointer (some ⟨g14, 0, none⟩), .agg #[.int .i64 z.m.c, .int .i64 z.m.h, .int .i64 z.m.t, .int .i64 z.m.i, .int .i64 z.m.p], Value.tuple #[enV zf, .bool bh], enV zf, .bool bh, .int .i64 fa, .int .i64 fa, .bool false, .bool false, .slice B15 q15 c15, .slice B17 q17 c17, .bool true, .bool false, .bool false, .bool false, .agg #[.int .i64 zf.m.c, .int .i64 zf.m.h, .int .i64 zf.m.t, .int .i64 zf.m.i, .int .i64 zf.m.p, .int .i64 zf.o, .int .i64 zf.k, .int .i64 zf.a, .int .i64 zf.b], .agg #[.int .i64 zf.m.c, .int .i64 zf.m.h, .int .i64 zf.m.t, .int .i64 zf.m.i, .int .i64 zf.m.p, .int .i64 zf.o, .int .i64 zf.k, .int .i64 zf.a, .int .i64 zf.b], .bool false, .bool false, .bool false, .bool bh, .bool bh, .bool false, .bool false, .bool false, .slice B s.length r, .pointer (some ⟨g14, 0, none⟩), .agg #[.int .i64 z.m.c, .int .i64 z.m.h, .int .i64 z.m.t, .int .i64 z.m.i, .int .i64 z.m.p], .slice B95 qr c95, .slice B s.length r, .pointer (some ⟨g14, 0, none⟩), .agg #[.int .i64 z.m.c, .int .i64 z.m.h, .int .i64 z.m.t, .int .i64 z.m.i, .int .i64 z.m.p], .slice B99 qr c99, .bool true, .bool false, .bool false, u103, u104, u105, u106, u107, u108, u109, u110, u111, u112, u113, u114, u115, u116, u117, u118, u119, u120, u121, u122, u123, u124, u125, u126, u127, u128, u129, u130, u131, u132, u133, u134, u135, u136, u137, u138, u139, u140, u141, u142, u143, u144, u145, u146, u147, u148, undef, undef, undef, undef, undef, undef, undef, undef, undef, undef, undef, undef, undef, undef, undef, undef, undef, undef, undef, undef, undef, undef], []⟩ := act_ext hd hs (fun j hj => match j, hj with | 0, _ => (hlow 0 (by decide)).trans rfl | 1, _ => (hlow 1 (by decide)).trans rfl | 2, _ => (hlow 2 (by decide)).trans rfl | 3, _ => (hlow 3 (by decide)).trans rfl | 4, _ => (hlow 4 (by decide)).trans rfl | 5, _ => (hlow 5 (by decide)).trans rfl | 6, _ => (hlow 6 (by decide)).trans rfl | 7, _ => (hlow 7 (by decide)).trans rfl | 8, _ => (hlow 8 (by decide)).trans rfl | 9, _ => (hlow 9 (by decide)).trans rfl | 10, _ => (hlow 10 (by decide)).trans rfl | 11, _ => (hlow 11 (by decide)).trans rfl | 12, _ => (hlow 12 (by decide)).trans rfl | 13, _ => (hlow 13 (by decide)).trans rfl | 14, _ => (hlow 14 (by decide)).trans rfl | 15, _ => (hlow 15 (by decide)).trans rfl | 16, _ => (hlow 16 (by decide)).trans rfl | 17, _ => (hlow 17 (by decide)).trans rfl | 18, _ => (hlow 18 (by decide)).trans rfl | 19, _ => (hlow 19 (by decide)).trans rfl | 20, _ => (hlow 20 (by decide)).trans rfl | 21, _ => (hlow 21 (by decide)).trans rfl | 22, _ => (hlow 22 (by decide)).trans rfl | 23, _ => (hlow 23 (by decide)).trans rfl | 24, _ => (hlow 24 (by decide)).trans rfl | 25, _ => (hlow 25 (by decide)).trans rfl | 26, _ => (hlow 26 (by decide)).trans rfl | 27, _ => (hlow 27 (by decide)).trans rfl | 28, _ => (hlow 28 (by decide)).trans rfl | 29, _ => (hlow 29 (by decide)).trans rfl | 30, _ => (hlow 30 (by decide)).trans rfl | 31, _ => (hlow 31 (by decide)).trans rfl | 32, _ => (hlow 32 (by decide)).trans rfl | 33, _ => (hlow 33 (by decide)).trans rfl | 34, _ => (hlow 34 (by decide)).trans rfl | 35, _ => (hlow 35 (by decide)).trans rfl | 36, _ => (hlow 36 (by decide)).trans rfl | 37, _ => (hlow 37 (by decide)).trans rfl | 38, _ => (hlow 38 (by decide)).trans rfl | 39, _ => (hlow 39 (by decide)).trans rfl | 40, _ => (hlow 40 (by decide)).trans rfl | 41, _ => (hlow 41 (by decide)).trans rfl | 42, _ => (hlow 42 (by decide)).trans rfl | 43, _ => (hlow 43 (by decide)).trans rfl | 44, _ => (hlow 44 (by decide)).trans rfl | 45, _ => (hlow 45 (by decide)).trans rfl | 46, _ => (hlow 46 (by decide)).trans rfl | 47, _ => (hlow 47 (by decide)).trans rfl | 48, _ => (hlow 48 (by decide)).trans rfl | 49, _ => (hlow 49 (by decide)).trans rfl | 50, _ => (hlow 50 (by decide)).trans rfl | 51, _ => (hlow 51 (by decide)).trans rfl | 52, _ => (hlow 52 (by decide)).trans rfl | 53, _ => (hlow 53 (by decide)).trans rfl | 54, _ => (hlow 54 (by decide)).trans rfl | 55, _ => (hlow 55 (by decide)).trans rfl | 56, _ => (hlow 56 (by decide)).trans rfl | 57, _ => (hlow 57 (by decide)).trans rfl | 58, _ => (hlow 58 (by decide)).trans rfl | 59, _ => (hlow 59 (by decide)).trans rfl | 60, _ => (hlow 60 (by decide)).trans rfl | 61, _ => (hlow 61 (by decide)).trans rfl | 62, _ => (hlow 62 (by decide)).trans rfl | 63, _ => (hlow 63 (by decide)).trans rfl | 64, _ => (hlow 64 (by decide)).trans rfl | 65, _ => (hlow 65 (by decide)).trans rfl | 66, _ => (hlow 66 (by decide)).trans rfl | 67, _ => (hlow 67 (by decide)).trans rfl | 68, _ => (hlow 68 (by decide)).trans rfl | 69, _ => (hlow 69 (by decide)).trans rfl | 70, _ => (hlow 70 (by decide)).trans rfl | 71, _ => (hlow 71 (by decide)).trans rfl | 72, _ => RgX.val_at (hok 0 72 _ (by decide) rfl rfl) | 73, _ => RgX.val_at (hok 1 73 _ (by decide) rfl rfl) | 74, _ => RgX.val_at (hok 2 74 _ (by decide) rfl rfl) | 75, _ => RgX.val_at (hok 3 75 _ (by decide) rfl rfl) | 76, _ => RgX.val_at (hok 4 76 _ (by decide) rfl rfl) | 77, _ => RgX.val_at (hok 5 77 _ (by decide) rfl rfl) | 78, _ => RgX.val_at (hok 6 78 _ (by decide) rfl rfl) | 79, _ => RgX.val_at (hok 7 79 _ (by decide) rfl rfl) | 80, _ => RgX.val_at (hok 8 80 _ (by decide) rfl rfl) | 81, _ => RgX.val_at (hok 9 81 _ (by decide) rfl rfl) | 82, _ => RgX.val_at (hok 10 82 _ (by decide) rfl rfl) | 83, _ => RgX.val_at (hok 11 83 _ (by decide) rfl rfl) | 84, _ => RgX.val_at (hok 12 84 _ (by decide) rfl rfl) | 85, _ => RgX.val_at (hok 13 85 _ (by decide) rfl rfl) | 86, _ => RgX.val_at (hok 14 86 _ (by decide) rfl rfl) | 87, _ => RgX.val_at (hok 15 87 _ (by decide) rfl rfl) | 88, _ => RgX.val_at (hok 16 88 _ (by decide) rfl rfl) | 89, _ => RgX.val_at (hok 17 89 _ (by decide) rfl rfl) | 90, _ => RgX.val_at (hok 18 90 _ (by decide) rfl rfl) | 91, _ => RgX.val_at (hok 19 91 _ (by decide) rfl rfl) | 92, _ => RgX.val_at (hok 20 92 _ (by decide) rfl rfl) | 93, _ => RgX.val_at (hok 21 93 _ (by decide) rfl rfl) | 94, _ => RgX.val_at (hok 22 94 _ (by decide) rfl rfl) | 95, _ => hy95 | 96, _ => RgX.val_at (hok 24 96 _ (by decide) rfl rfl) | 97, _ => RgX.val_at (hok 25 97 _ (by decide) rfl rfl) | 98, _ => RgX.val_at (hok 26 98 _ (by decide) rfl rfl) | 99, _ => hy99 | 100, _ => RgX.val_at (hok 28 100 _ (by decide) rfl rfl) | 101, _ => RgX.val_at (hok 29 101 _ (by decide) rfl rfl) | 102, _ => RgX.val_at (hok 30 102 _ (by decide) rfl rfl) | 103, _ => (hlow 103 (by decide)).trans rfl | 104, _ => (hlow 104 (by decide)).trans rfl | 105, _ => (hlow 105 (by decide)).trans rfl | 106, _ => (hlow 106 (by decide)).trans rfl | 107, _ => (hlow 107 (by decide)).trans rfl | 108, _ => (hlow 108 (by decide)).trans rfl | 109, _ => (hlow 109 (by decide)).trans rfl | 110, _ => (hlow 110 (by decide)).trans rfl | 111, _ => (hlow 111 (by decide)).trans rfl | 112, _ => (hlow 112 (by decide)).trans rfl | 113, _ => (hlow 113 (by decide)).trans rfl | 114, _ => (hlow 114 (by decide)).trans rfl | 115, _ => (hlow 115 (by decide)).trans rfl | 116, _ => (hlow 116 (by decide)).trans rfl | 117, _ => (hlow 117 (by decide)).trans rfl | 118, _ => (hlow 118 (by decide)).trans rfl | 119, _ => (hlow 119 (by decide)).trans rfl | 120, _ => (hlow 120 (by decide)).trans rfl | 121, _ => (hlow 121 (by decide)).trans rfl | 122, _ => (hlow 122 (by decide)).trans rfl | 123, _ => (hlow 123 (by decide)).trans rfl | 124, _ => (hlow 124 (by decide)).trans rfl | 125, _ => (hlow 125 (by decide)).trans rfl | 126, _ => (hlow 126 (by decide)).trans rfl | 127, _ => (hlow 127 (by decide)).trans rfl | 128, _ => (hlow 128 (by decide)).trans rfl | 129, _ => (hlow 129 (by decide)).trans rfl | 130, _ => (hlow 130 (by decide)).trans rfl | 131, _ => (hlow 131 (by decide)).trans rfl | 132, _ => (hlow 132 (by decide)).trans rfl | 133, _ => (hlow 133 (by decide)).trans rfl | 134, _ => (hlow 134 (by decide)).trans rfl | 135, _ => (hlow 135 (by decide)).trans rfl | 136, _ => (hlow 136 (by decide)).trans rfl | 137, _ => (hlow 137 (by decide)).trans rfl | 138, _ => (hlow 138 (by decide)).trans rfl | 139, _ => (hlow 139 (by decide)).trans rfl | 140, _ => (hlow 140 (by decide)).trans rfl | 141, _ => (hlow 141 (by decide)).trans rfl | 142, _ => (hlow 142 (by decide)).trans rfl | 143, _ => (hlow 143 (by decide)).trans rfl | 144, _ => (hlow 144 (by decide)).trans rfl | 145, _ => (hlow 145 (by decide)).trans rfl | 146, _ => (hlow 146 (by decide)).trans rfl | 147, _ => (hlow 147 (by decide)).trans rfl | 148, _ => (hlow 148 (by decide)).trans rfl | 149, _ => (hlow 149 (by decide)).trans rfl | 150, _ => (hlow 150 (by decide)).trans rfl | 151, _ => (hlow 151 (by decide)).trans rfl | 152, _ => (hlow 152 (by decide)).trans rfl | 153, _ => (hlow 153 (by decide)).trans rfl | 154, _ => (hlow 154 (by decide)).trans rfl | 155, _ => (hlow 155 (by decide)).trans rfl | 156, _ => (hlow 156 (by decide)).trans rfl | 157, _ => (hlow 157 (by decide)).trans rfl | 158, _ => (hlow 158 (by decide)).trans rfl | 159, _ => (hlow 159 (by decide)).trans rfl | 160, _ => (hlow 160 (by decide)).trans rfl | 161, _ => (hlow 161 (by decide)).trans rfl | 162, _ => (hlow 162 (by decide)).trans rfl | 163, _ => (hlow 163 (by decide)).trans rfl | 164, _ => (hlow 164 (by decide)).trans rfl | 165, _ => (hlow 165 (by decide)).trans rfl | 166, _ => (hlow 166 (by decide)).trans rfl | 167, _ => (hlow 167 (by decide)).trans rfl | 168, _ => (hlow 168 (by decide)).trans rfl | 169, _ => (hlow 169 (by decide)).trans rfl | 170, _ => (hlow 170 (by decide)).trans rfl | n + 171, h => absurd h (by show ¬ n + 171 < 171; omega))
      clear hs hd hlow hok hy95 hy99
      obtain ⟨v9, h9⟩ : ∃ V, V = w3 := ⟨_, rfl⟩
      rw [← h9] at hS ⊢
      have hb := hS
      replace HE := Lib.hid (HE.out.keep hb)
      replace HAL := Lib.hid (HAL.out.keep hb)
      replace H14 := Lib.hid (H14.out.keep hb)
      replace HB := Lib.hid (HB.out.trans (hb.mono HB.out.size))
      clear hb hS h9 h95 h99 H15 H17 H19 H21 HA1 HA2 HF1 HF2 HR1 HR2 hrl hq100 hll
      go_upto_region 14 with (go_at_call 18; (with_reducible refine (HAR.out _).mono ?_); rintro e v_ ⟨rfl, rfl⟩)
      obtain ⟨U2, hU⟩ : ∃ U, v9.alloc (.cells #[.int .i64 a3, .int .i64 pa] 3) = U := ⟨_, rfl⟩
      rw [hU]
      obtain ⟨g23, hg_⟩ : ∃ g, g = v9.heap.size := ⟨_, rfl⟩
      rw [← hg_]
      have H23 := Lib.hid (show U2.heap[g23]? = some (.cells #[.int .i64 a3, .int .i64 pa] 3 (0, 0)) from by rw [hg_, ← hU]; exact new_at rfl)
      have hb : Below v9.heap.size v9 U2 := hU ▸ one_box _ _
      replace HE := Lib.hid (HE.out.keep hb)
      replace HAL := Lib.hid (HAL.out.keep hb)
      replace H14 := Lib.hid (H14.out.keep hb)
      replace HB := Lib.hid (HB.out.trans (hb.mono HB.out.size))
      clear hb hU hg_
      go_upto_region 15 with (fail)
      obtain ⟨wo, hwo⟩ : ∃ W, W = wr := ⟨_, rfl⟩
      subst hwo
      go_loopw [24, 25, 26, 27, 28, 29, 30] (fun i _ _ _ _ _ _ V => ∃ j : Nat, j ≤ 2 ∧ i = .int .i64 (j : Int) ∧ Hid (Ens V B s.length r s) ∧ Hid (Ens V (some ⟨g12, 0, none⟩) 2 2 [x, y]) ∧ Hid (EnB V g14 z) ∧ Hid (V.heap[g23]? = some (.cells #[.int .i64 a3, .int .i64 pa] 3 (0, 0))) ∧ Hid (Below w.heap.size w V)) (fun i _ _ _ _ _ _ _ => 2 - (intOf i).toNat)
      case atStart => exact ⟨0, by omega, rfl, HE, HAL, H14, H23, HB⟩
      case round =>
        clear HE HAL H14 H23 HB
        obtain ⟨j, hj, rfl, HE, HAL, H14, H23, HB⟩ := hrel
        by_cases hj2 : j < 2
        · have dj : decide ((j : Int) < 2) = true := decide_eq_true (by omega)
          obtain ⟨p, hp⟩ : ∃ p, [a3, pa][j]? = some p := ⟨_, List.getElem?_eq_getElem (by show j < 2; exact hj2)⟩
          have HNU := Lib.hid (fun (V : World) (hV : Below wr.heap.size wr V) => (show V.cell? ⟨g23, j, none⟩ = some (.int .i64 p) from by
            rw [cell_of_row _ g23 j _ _ (0, 0) ((hV.block g23 (heap_lt H23.out)).trans H23.out)]
            rcases j with _ | _ | j
            · obtain rfl : a3 = p := by simpa using hp
              rfl
            · obtain rfl : pa = p := by simpa using hp
              rfl
            · omega))
          have hj3 : (j : Int) < 2 := by omega
          obtain ⟨T, hT⟩ : ∃ T, NW.copy s z.m p = T := ⟨_, rfl⟩
          have HCA := Lib.hid (fun V h => HC1.out V p h)
          have HCB := Lib.hid (fun V h => HC2.out V p h)
          rw [hT] at HCA HCB
          have htl : T.2.2.length ≤ 100 := by
            rw [← hT]
            unfold NW.copy
            split
            · simp
            · split
              · simp
              · rw [NW.put_len]; omega
          clear hp hT
          go_upto_region 17 with (fail)
          have HWR := Lib.hid (Below.refl wr.heap.size wr)
          refine RgX.tailF 14 (fun i => (if i = 8 then 111 else if i = 9 then 120 else if i = 10 then 121 else if i = 11 then 122 else if i = 12 then 26 else if i = 13 then 25 else 112 + i)) (fun ix_ => match ix_ with | 0 => .v (.slice B s.length r) | 1 => .v (.pointer (some ⟨g14, 0, none⟩)) | 2 => .v (.agg #[.int .i64 z.m.c, .int .i64 z.m.h, .int .i64 z.m.t, .int .i64 z.m.i, .int .i64 z.m.p]) | 3 => .v (.slice (some ⟨g23, 0, none⟩) 2 2) | 4 => .v (.int .i64 (j : Int)) | 5 => .v (.pointer (some ⟨g23, j, none⟩)) | 6 => .v (.int .i64 p) | 7 => .cpt T | 8 => .cpt T | 9 => .ensq T.2.2 | 10 => .v (msV T.2.1) | 11 => .v (.int .i64 T.1) | 12 => .boxn (wr.heap.size) #[.int .i64 0, .int .i64 0, .int .i64 0, .int .i64 0, .int .i64 0] 26 | 13 => .ensq T.2.2 | _ => .any) [11] (fun ix_ => match ix_ with | 11 => .int .i64 T.1 | _ => undef) _ _ (fun a1_ w_ => ∃ (g : Nat) (B_ B2_ : Option Addr) (q_ c_ q2_ c2_ : Nat), a1_.tmps[25]? = some (.slice B_ q_ c_) ∧ a1_.tmps[26]? = some (.pointer (some ⟨g, 0, none⟩)) ∧ a1_.tmps[111]? = some (.tuple #[.slice B2_ q2_ c2_, msV T.2.1, .int .i64 T.1]) ∧ MsB w_ g T.2.1 ∧ Ens w_ B_ q_ c_ T.2.2 ∧ Below wr.heap.size wr w_) (by kernel_rfl) rfl rfl rfl (by kernel_rfl) (by kernel_rfl) (by kernel_rfl) (by decide) (fun i hi => by show (if i = 8 then 111 else if i = 9 then 120 else if i = 10 then 121 else if i = 11 then 122 else if i = 12 then 26 else if i = 13 then 25 else 112 + i) < 171; (repeat' split) <;> omega) (fun i j hi hj => by show (if i = 8 then 111 else if i = 9 then 120 else if i = 10 then 121 else if i = 11 then 122 else if i = 12 then 26 else if i = 13 then 25 else 112 + i) = (if j = 8 then 111 else if j = 9 then 120 else if j = 10 then 121 else if j = 11 then 122 else if j = 12 then 26 else if j = 13 then 25 else 112 + j) → i = j; (repeat' split) <;> omega) ?step ?sto ?flo ?hF ?fin
          case step =>
            intro L_ A_ w3 ix op_ hi hI ho hdep
            have hcase : ix = 0 ∨ ix = 1 ∨ ix = 2 ∨ ix = 3 ∨ ix = 4 ∨ ix = 5 ∨ ix = 6 ∨ ix = 7 ∨ ix = 8 ∨ ix = 9 ∨ ix = 10 ∨ ix = 11 ∨ ix = 12 ∨ ix = 13 := by omega
            have hh := hI.held
            clear hi
            rcases hcase with rfl | rfl | rfl | rfl | rfl | rfl | rfl | rfl | rfl | rfl | rfl | rfl | rfl | rfl
            · simp only [List.getElem?_toArray, List.getElem?_cons_zero, Option.some.injEq] at ho
              subst ho
              refine ⟨rfl, ?_⟩
              have e11 : A_.tmps[11]?.getD undef = .slice B s.length r := by rw [hI.low 11 (by decide)]; rfl
              clear hI hdep
              exact .run rfl (.slice B s.length r) w3 (by simp [execOp, go_sem, Act.eval, e11]) (Below.refl _ _) rfl
            · simp only [List.getElem?_toArray, List.getElem?_cons_succ, List.getElem?_cons_zero, Option.some.injEq] at ho
              subst ho
              refine ⟨rfl, ?_⟩
              have e14 : A_.tmps[14]?.getD undef = .pointer (some ⟨g14, 0, none⟩) := by rw [hI.low 14 (by decide)]; rfl
              clear hI hdep
              exact .run rfl (.pointer (some ⟨g14, 0, none⟩)) w3 (by simp [execOp, go_sem, Act.eval, e14]) (Below.refl _ _) rfl
            · simp only [List.getElem?_toArray, List.getElem?_cons_succ, List.getElem?_cons_zero, Option.some.injEq] at ho
              subst ho
              refine ⟨rfl, ?_⟩
              have e113 : A_.tmps[113]?.getD undef = .pointer (some ⟨g14, 0, none⟩) := getD_of (hI.val_ (i := 1) rfl rfl (by decide) (hdep ⟨1, .data⟩ (by simp) rfl))
              clear hI hdep
              obtain ⟨x0, x1, x2, x3, x4, x5, x6, x7, x8⟩ := (H14.out.keep hh).cells
              exact .run rfl (.agg #[.int .i64 z.m.c, .int .i64 z.m.h, .int .i64 z.m.t, .int .i64 z.m.i, .int .i64 z.m.p]) w3 (by simp [execOp, go_sem, Act.eval, *]) (Below.refl _ _) rfl
            · simp only [List.getElem?_toArray, List.getElem?_cons_succ, List.getElem?_cons_zero, Option.some.injEq] at ho
              subst ho
              refine ⟨rfl, ?_⟩
              have e23 : A_.tmps[23]?.getD undef = .slice (some ⟨g23, 0, none⟩) 2 2 := by rw [hI.low 23 (by decide)]; rfl
              clear hI hdep
              exact .run rfl (.slice (some ⟨g23, 0, none⟩) 2 2) w3 (by simp [execOp, go_sem, Act.eval, e23]) (Below.refl _ _) rfl
            · simp only [List.getElem?_toArray, List.getElem?_cons_succ, List.getElem?_cons_zero, Option.some.injEq] at ho
              subst ho
              refine ⟨rfl, ?_⟩
              have e24 : A_.tmps[24]?.getD undef = .int .i64 (j : Int) := by rw [hI.low 24 (by decide)]; rfl
              clear hI hdep
              exact .run rfl (.int .i64 (j : Int)) w3 (by simp [execOp, go_sem, Act.eval, e24]) (Below.refl _ _) rfl
            · simp only [List.getElem?_toArray, List.getElem?_cons_succ, List.getElem?_cons_zero, Option.some.injEq] at ho
              subst ho
              refine ⟨rfl, ?_⟩
              have e115 : A_.tmps[115]?.getD undef = .slice (some ⟨g23, 0, none⟩) 2 2 := getD_of (hI.val_ (i := 3) rfl rfl (by decide) (hdep ⟨3, .data⟩ (by simp) rfl))
              have e116 : A_.tmps[116]?.getD undef = .int .i64 (j : Int) := getD_of (hI.val_ (i := 4) rfl rfl (by decide) (hdep ⟨4, .data⟩ (by simp) rfl))
              clear hI hdep
              exact .run rfl (.pointer (some ⟨g23, j, none⟩)) w3 (by simp [execOp, go_sem, Act.eval, e115, e116, hj3]) (Below.refl _ _) rfl
            · simp only [List.getElem?_toArray, List.getElem?_cons_succ, List.getElem?_cons_zero, Option.some.injEq] at ho
              subst ho
              refine ⟨rfl, ?_⟩
              have e117 : A_.tmps[117]?.getD undef = .pointer (some ⟨g23, j, none⟩) := getD_of (hI.val_ (i := 5) rfl rfl (by decide) (hdep ⟨5, .data⟩ (by simp) rfl))
              clear hI hdep
              have hnu := HNU.out w3 (HWR.out.trans (hh.mono HWR.out.size))
              exact .run rfl (.int .i64 p) w3 (by simp [execOp, go_sem, Act.eval, e117, hnu]) (Below.refl _ _) rfl
            · simp only [List.getElem?_toArray, List.getElem?_cons_succ, List.getElem?_cons_zero, Option.some.injEq] at ho
              subst ho
              refine ⟨rfl, ?_⟩
              have e112 : A_.tmps[112]?.getD undef = .slice B s.length r := getD_of (hI.val_ (i := 0) rfl rfl (by decide) (hdep ⟨0, .data⟩ (by simp) rfl))
              have e114 : A_.tmps[114]?.getD undef = .agg #[.int .i64 z.m.c, .int .i64 z.m.h, .int .i64 z.m.t, .int .i64 z.m.i, .int .i64 z.m.p] := getD_of (hI.val_ (i := 2) rfl rfl (by decide) (hdep ⟨2, .data⟩ (by simp) rfl))
              have e118 : A_.tmps[118]?.getD undef = .int .i64 p := getD_of (hI.val_ (i := 6) rfl rfl (by decide) (hdep ⟨6, .data⟩ (by simp) rfl))
              clear hI hdep
              exact .call rfl 19 #[.slice B s.length r, .agg #[.int .i64 z.m.c, .int .i64 z.m.h, .int .i64 z.m.t, .int .i64 z.m.i, .int .i64 z.m.p], .int .i64 p] (by simp [go_sem, Act.eval, e112, e114, e118]) ((HCA.out w3 (HE.out.keep hh)).mono fun _ _ ⟨⟨B_, q_, c_, h1_, h2_, _⟩, h3_⟩ => ⟨⟨_, h1_, B_, q_, c_, rfl, h2_⟩, h3_⟩)
            · simp only [List.getElem?_toArray, List.getElem?_cons_succ, List.getElem?_cons_zero, Option.some.injEq] at ho
              subst ho
              refine ⟨rfl, ?_⟩
              obtain ⟨y119, e119, h119⟩ := hI.get_ (i := 7) (j := 119) rfl rfl (by decide) (hdep ⟨7, .data⟩ (by simp) rfl)
              clear hI hdep
              exact .run rfl y119 w3 (by simp [execOp, go_sem, Act.eval, e119]) (Below.refl _ _) h119
            · simp only [List.getElem?_toArray, List.getElem?_cons_succ, List.getElem?_cons_zero, Option.some.injEq] at ho
              subst ho
              refine ⟨rfl, ?_⟩
              obtain ⟨_, e111, B111, q111_, c111, rfl, h111⟩ := hI.get_ (i := 8) (j := 111) rfl rfl (by decide) (hdep ⟨8, .data⟩ (by simp) rfl)
              clear hI hdep
              exact .run rfl (.slice B111 q111_ c111) w3 (by simp [execOp, go_sem, Act.eval, e111]) (Below.refl _ _) ⟨_, _, _, rfl, h111⟩
            · simp only [List.getElem?_toArray, List.getElem?_cons_succ, List.getElem?_cons_zero, Option.some.injEq] at ho
              subst ho
              refine ⟨rfl, ?_⟩
              obtain ⟨_, e111, B111, q111_, c111, rfl, h111⟩ := hI.get_ (i := 8) (j := 111) rfl rfl (by decide) (hdep ⟨8, .data⟩ (by simp) rfl)
              clear hI hdep
              exact .run rfl (msV T.2.1) w3 (by simp [execOp, go_sem, Act.eval, e111]) (Below.refl _ _) rfl
            · simp only [List.getElem?_toArray, List.getElem?_cons_succ, List.getElem?_cons_zero, Option.some.injEq] at ho
              subst ho
              refine ⟨rfl, ?_⟩
              obtain ⟨_, e111, B111, q111_, c111, rfl, h111⟩ := hI.get_ (i := 8) (j := 111) rfl rfl (by decide) (hdep ⟨8, .data⟩ (by simp) rfl)
              clear hI hdep
              exact .run rfl (.int .i64 T.1) w3 (by simp [execOp, go_sem, Act.eval, e111]) (Below.refl _ _) rfl
            · simp only [List.getElem?_toArray, List.getElem?_cons_succ, List.getElem?_cons_zero, Option.some.injEq] at ho
              subst ho
              refine ⟨rfl, ?_⟩
              clear hI hdep
              exact .run rfl (.pointer (some ⟨w3.heap.size, 0, none⟩)) (w3.alloc (.cells #[.int .i64 0, .int .i64 0, .int .i64 0, .int .i64 0, .int .i64 0] 26)) (by simp [execOp, go_sem]) ((Below.refl _ _).alloc (Nat.le_refl _) _) ⟨_, rfl, heap_alloc_new _ _, hh.size⟩
            · simp only [List.getElem?_toArray, List.getElem?_cons_succ, List.getElem?_cons_zero, Option.some.injEq] at ho
              subst ho
              refine ⟨rfl, ?_⟩
              obtain ⟨y120, e120, h120⟩ := hI.get_ (i := 9) (j := 120) rfl rfl (by decide) (hdep ⟨9, .data⟩ (by simp) rfl)
              clear hI hdep
              exact .run rfl y120 w3 (by simp [execOp, go_sem, Act.eval, e120]) (Below.refl _ _) h120
          case sto =>
            intro A_ w3 hs hlow hh hok
            obtain ⟨_, q25, B25, q25_, c25, rfl, h25⟩ := hok 13 25 _ (by decide) (by decide) rfl rfl
            obtain ⟨_, q26, g26, rfl, r26, l26⟩ := hok 12 26 _ (by decide) (by decide) rfl rfl
            obtain ⟨_, q111, B111, q111_, c111, rfl, h111⟩ := hok 8 111 _ (by decide) (by decide) rfl rfl
            have q121 := RgX.val_at (hok 10 121 _ (by decide) (by decide) rfl rfl)
            have hm0 : MsB w3 g26 NM.m0 := r26
            refine ⟨rfl, rfl, ?_⟩
            have hx : A_.tmps[26]?.getD undef = .pointer (some ⟨g26, 0, none⟩) := getD_of q26
            have hy : A_.tmps[121]?.getD undef = msV T.2.1 := getD_of q121
            refine store_ms_ex (P := Try.prog) (.tmp 26) (.tmp 121) rfl g26 NM.m0 T.2.1 hm0 (by simpa [Act.eval] using hx) (by simpa [Act.eval] using hy) size_ms fun w4 hm1 hm2 hm4 => ?_
            exact ⟨g26, B25, B111, q25_, c25, q111_, c111, q25, q26, q111, hm1, ens_after_ms h25 hm0 hm2 hm4.size, hh.trans (hm4.mono l26)⟩
          case flo =>
            intro i_ o_ A_ a1_ w3 hi ho hG hag
            simp only [List.mem_cons, List.not_mem_nil, or_false] at hi
            rcases hi with rfl
            · simp only [List.getElem?_toArray, List.getElem?_cons_succ, List.getElem?_cons_zero, Option.some.injEq] at ho
              subst ho
              obtain ⟨g, B_, B2_, q_, c_, q2_, c2_, k25, k26, kt, hms, hen, hbl⟩ := hG
              have e1 : A_.tmps[111]?.getD undef = .tuple #[.slice B2_ q2_ c2_, msV T.2.1, .int .i64 T.1] := getD_of ((hag 111 (by decide)).trans kt)
              exact ⟨rfl, rfl, by simp [execOp, go_sem, Act.eval, e1]⟩
          case hF =>
            intro i_ hi w_ y_ h_
            simp only [List.mem_cons, List.not_mem_nil, or_false] at hi
            rcases hi with rfl
            · exact h_
          case fin =>
          intro A_ a1_ w3 hs hd hlow hG hag hfl hex
          obtain ⟨g26, B25, B2_, q25, c25, q2_, c2_, k25, k26, kt, hms, hen, hbl⟩ := hG
          obtain ⟨z111, hz111⟩ := hex 8 111 (by decide) rfl
          obtain ⟨z112, hz112⟩ := hex 0 112 (by decide) rfl
          obtain ⟨z113, hz113⟩ := hex 1 113 (by decide) rfl
          obtain ⟨z114, hz114⟩ := hex 2 114 (by decide) rfl
          obtain ⟨z115, hz115⟩ := hex 3 115 (by decide) rfl
          obtain ⟨z116, hz116⟩ := hex 4 116 (by decide) rfl
          obtain ⟨z117, hz117⟩ := hex 5 117 (by decide) rfl
          obtain ⟨z118, hz118⟩ := hex 6 118 (by decide) rfl
          obtain ⟨z119, hz119⟩ := hex 7 119 (by decide) rfl
          obtain ⟨z120, hz120⟩ := hex 9 120 (by decide) rfl
          obtain ⟨z121, hz121⟩ := hex 10 121 (by decide) rfl
          obtain rfl : A_ = ⟨#[.slice a0 len0 cap0, .int .i64 a1, .agg #[.int .i64 yc, .int .i64 yh, .int .i64 yt, .int .i64 yi, .int .i64 yp, .int .i64 yo, .int .i64 yk, .int .i64 ya, .int .i64 yb], .int .i64 a3, .int .i64 a4, undef, undef, .pointer (some ⟨w.heap.size, 0, none⟩), undef, undef, u10, .slice B s.length r, .slice (some ⟨g12, 0, none⟩) 2 2, .int .i64 (k : Int), .pointer (some ⟨g14, 0, none⟩), .slice B15 q15 c15, .int .i64 fa, .slice B17 q17 c17, .int .i64 fa, .pointer (some ⟨g19, 0, none⟩), .bool bh, .pointer (some ⟨g21, 0, none⟩), .bool bh, .slice (some ⟨g23, 0, none⟩) 2 2, .int .i64 (j : Int), .slice B25 q25 c25, .pointer (some ⟨g26, 0, none⟩), u27, u28, u29, u30, undef, .slice a0 len0 cap0, .slice B s.length r, .int .i64 a1, .agg #[.int .i64 x.m.c, .int .i64 x.m.h, .int .i64 x.m.t, .int .i64 x.m.i, .int .i64 x.m.p, .int .i64 x.o, .int .i64 x.k, .int .i64 x.a, .int .i64 x.b], .agg #[.int .i64 y.m.c, .int .i64 y.m.h, .int .i64 y.m.t, .int .i64 y.m.i, .int .i64 y.m.p, .int .i64 y.o, .int .i64 y.k, .int .i64 y.a, .int .i64 y.b], .slice (some ⟨g37, 0, none⟩) 2 2, .int .i64 (k : Int), .bool true, u40, u41, .slice (some ⟨g12, 0, none⟩) 2 2, .int .i64 (k : Int), .pointer (some { block := g12, off := k * 9 }), .agg #[.int .i64 z.m.c, .int .i64 z.m.h, .int .i64 z.m.t, .int .i64 z.m.i, .int .i64 z.m.p, .int .i64 z.o, .int .i64 z.k, .int .i64 z.a, .int .i64 z.b], Value.tuple #[.slice B15 q15 c15, .int .i64 fa], .slice B s.length r, .agg #[.int .i64 z.m.c, .int .i64 z.m.h, .int .i64 z.m.t, .int .i64 z.m.i, .int .i64 z.m.p, .int .i64 z.o, .int .i64 z.k, .int .i64 z.a, .int .i64 z.b], Value.tuple #[.slice B15 q15 c15, .int .i64 fa], .slice B15 q15 c15, .int .i64 fa, Value.tuple #[.slice B17 q17 c17, .int .i64 fa], .slice B s.length r, .agg #[.int .i64 z.m.c, .int .i64 z.m.h, .int .i64 z.m.t, .int .i64 z.m.i, .int .i64 z.m.p, .int .i64 z.o, .int .i64 z.k, .int .i64 z.a, .int .i64 z.b], Value.tuple #[.slice B17 q17 c17, .int .i64 fa], .slice B17 q17 c17, .int .i64 fa, Value.tuple #[enV zf, .bool bh], .slice B s.length r, .pointer (some ⟨g14, 0, none⟩), .agg #[.int .i64 z.m.c, .int .i64 z.m.h, .int .i64 z.m.t, .int .i64 z.m.i, .int .i64 z.m.p], Value.tuple #[enV zf, .bool bh], enV zf, .bool bh, Value.tuple #[enV zf, .bool bh], .slice B s.length r, .pointer (some ⟨g14, 0, none⟩), .agg #[.int .i64 z.m.c, .int .i64 z.m.h, .int .i64 z.m.t, .int .i64 z.m.i, .int .i64 z.m.p], Value.tuple #[enV zf, .bool bh], enV zf, .bool bh, .int .i64 fa, .int .i64 fa, .bool false, .bool false, .slice B15 q15 c15, .slice B17 q17 c17, .bool true, .bool false, .bool false, .bool false, .agg #[.int .i64 zf.m.c, .int .i64 zf.m.h, .int .i64 zf.m.t, .int .i64 zf.m.i, .int .i64 zf.m.p, .int .i64 zf.o, .int .i64 zf.k, .int .i64 zf.a, .int .i64 zf.b], .agg #[.int .i64 zf.m.c, .int .i64 zf.m.h, .int .i64 zf.m.t, .int .i64 zf.m.i, .int .i64 zf.m.p, .int .i64 zf.o, .int .i64 zf.k, .int .i64 zf.a, .int .i64 zf.b], .bool false, .bool false, .bool false, .bool bh, .bool bh, .bool false, .bool false, .bool false, .slice B s.length r, .pointer (some ⟨g14, 0, none⟩), .agg #[.int .i64 z.m.c, .int .i64 z.m.h, .int .i64 z.m.t, .int .i64 z.m.i, .int .i64 z.m.p], .slice B95 qr c95, .slice B s.length r, .pointer (some ⟨g14, 0, none⟩), .agg #[.int .i64 z.m.c, .int .i64 z.m.h, .int .i64 z.m.t, .int .i64 z.m.i, .int .i64 z.m.p], .slice B99 qr c99, .bool true, .bool false, .bool false, .int .i64 a3, .int .i64 a3, .int .i64 pa, .slice (some ⟨g23, 0, none⟩) 2 2, .int .i64 (j : Int), .bool true, u109, u110, z111, z112, z113, z114, z115, z116, z117, z118, z119, z120, z121, .int .i64 T.1, u123, u124, u125, u126, u127, u128, u129, u130, u131, u132, u133, u134, u135, u136, u137, u138, u139, u140, u141, u142, u143, u144, u145, u146, u147, u148, undef, undef, undef, undef, undef, undef, undef, undef, undef, undef, undef, undef, undef, undef, undef, undef, undef, undef, undef, undef, undef, undef], []⟩ := act_ext hd hs (fun j hj => match j, hj with | 0, _ => (hlow 0 (by decide)).trans rfl | 1, _ => (hlow 1 (by decide)).trans rfl | 2, _ => (hlow 2 (by decide)).trans rfl | 3, _ => (hlow 3 (by decide)).trans rfl | 4, _ => (hlow 4 (by decide)).trans rfl | 5, _ => (hlow 5 (by decide)).trans rfl | 6, _ => (hlow 6 (by decide)).trans rfl | 7, _ => (hlow 7 (by decide)).trans rfl | 8, _ => (hlow 8 (by decide)).trans rfl | 9, _ => (hlow 9 (by decide)).trans rfl | 10, _ => (hlow 10 (by decide)).trans rfl | 11, _ => (hlow 11 (by decide)).trans rfl | 12, _ => (hlow 12 (by decide)).trans rfl | 13, _ => (hlow 13 (by decide)).trans rfl | 14, _ => (hlow 14 (by decide)).trans rfl | 15, _ => (hlow 15 (by decide)).trans rfl | 16, _ => (hlow 16 (by decide)).trans rfl | 17, _ => (hlow 17 (by decide)).trans rfl | 18, _ => (hlow 18 (by decide)).trans rfl | 19, _ => (hlow 19 (by decide)).trans rfl | 20, _ => (hlow 20 (by decide)).trans rfl | 21, _ => (hlow 21 (by decide)).trans rfl | 22, _ => (hlow 22 (by decide)).trans rfl | 23, _ => (hlow 23 (by decide)).trans rfl | 24, _ => (hlow 24 (by decide)).trans rfl | 25, _ => (hag 25 (by decide)).trans k25 | 26, _ => (hag 26 (by decide)).trans k26 | 27, _ => (hlow 27 (by decide)).trans rfl | 28, _ => (hlow 28 (by decide)).trans rfl | 29, _ => (hlow 29 (by decide)).trans rfl | 30, _ => (hlow 30 (by decide)).trans rfl | 31, _ => (hlow 31 (by decide)).trans rfl | 32, _ => (hlow 32 (by decide)).trans rfl | 33, _ => (hlow 33 (by decide)).trans rfl | 34, _ => (hlow 34 (by decide)).trans rfl | 35, _ => (hlow 35 (by decide)).trans rfl | 36, _ => (hlow 36 (by decide)).trans rfl | 37, _ => (hlow 37 (by decide)).trans rfl | 38, _ => (hlow 38 (by decide)).trans rfl | 39, _ => (hlow 39 (by decide)).trans rfl | 40, _ => (hlow 40 (by decide)).trans rfl | 41, _ => (hlow 41 (by decide)).trans rfl | 42, _ => (hlow 42 (by decide)).trans rfl | 43, _ => (hlow 43 (by decide)).trans rfl | 44, _ => (hlow 44 (by decide)).trans rfl | 45, _ => (hlow 45 (by decide)).trans rfl | 46, _ => (hlow 46 (by decide)).trans rfl | 47, _ => (hlow 47 (by decide)).trans rfl | 48, _ => (hlow 48 (by decide)).trans rfl | 49, _ => (hlow 49 (by decide)).trans rfl | 50, _ => (hlow 50 (by decide)).trans rfl | 51, _ => (hlow 51 (by decide)).trans rfl | 52, _ => (hlow 52 (by decide)).trans rfl | 53, _ => (hlow 53 (by decide)).trans rfl | 54, _ => (hlow 54 (by decide)).trans rfl | 55, _ => (hlow 55 (by decide)).trans rfl | 56, _ => (hlow 56 (by decide)).trans rfl | 57, _ => (hlow 57 (by decide)).trans rfl | 58, _ => (hlow 58 (by decide)).trans rfl | 59, _ => (hlow 59 (by decide)).trans rfl | 60, _ => (hlow 60 (by decide)).trans rfl | 61, _ => (hlow 61 (by decide)).trans rfl | 62, _ => (hlow 62 (by decide)).trans rfl | 63, _ => (hlow 63 (by decide)).trans rfl | 64, _ => (hlow 64 (by decide)).trans rfl | 65, _ => (hlow 65 (by decide)).trans rfl | 66, _ => (hlow 66 (by decide)).trans rfl | 67, _ => (hlow 67 (by decide)).trans rfl | 68, _ => (hlow 68 (by decide)).trans rfl | 69, _ => (hlow 69 (by decide)).trans rfl | 70, _ => (hlow 70 (by decide)).trans rfl | 71, _ => (hlow 71 (by decide)).trans rfl | 72, _ => (hlow 72 (by decide)).trans rfl | 73, _ => (hlow 73 (by decide)).trans rfl | 74, _ => (hlow 74 (by decide)).trans rfl | 75, _ => (hlow 75 (by decide)).trans rfl | 76, _ => (hlow 76 (by decide)).trans rfl | 77, _ => (hlow 77 (by decide)).trans rfl | 78, _ => (hlow 78 (by decide)).trans rfl | 79, _ => (hlow 79 (by decide)).trans rfl | 80, _ => (hlow 80 (by decide)).trans rfl | 81, _ => (hlow 81 (by decide)).trans rfl | 82, _ => (hlow 82 (by decide)).trans rfl | 83, _ => (hlow 83 (by decide)).trans rfl | 84, _ => (hlow 84 (by decide)).trans rfl | 85, _ => (hlow 85 (by decide)).trans rfl | 86, _ => (hlow 86 (by decide)).trans rfl | 87, _ => (hlow 87 (by decide)).trans rfl | 88, _ => (hlow 88 (by decide)).trans rfl | 89, _ => (hlow 89 (by decide)).trans rfl | 90, _ => (hlow 90 (by decide)).trans rfl | 91, _ => (hlow 91 (by decide)).trans rfl | 92, _ => (hlow 92 (by decide)).trans rfl | 93, _ => (hlow 93 (by decide)).trans rfl | 94, _ => (hlow 94 (by decide)).trans rfl | 95, _ => (hlow 95 (by decide)).trans rfl | 96, _ => (hlow 96 (by decide)).trans rfl | 97, _ => (hlow 97 (by decide)).trans rfl | 98, _ => (hlow 98 (by decide)).trans rfl | 99, _ => (hlow 99 (by decide)).trans rfl | 100, _ => (hlow 100 (by decide)).trans rfl | 101, _ => (hlow 101 (by decide)).trans rfl | 102, _ => (hlow 102 (by decide)).trans rfl | 103, _ => (hlow 103 (by decide)).trans rfl | 104, _ => (hlow 104 (by decide)).trans rfl | 105, _ => (hlow 105 (by decide)).trans rfl | 106, _ => (hlow 106 (by decide)).trans rfl | 107, _ => (hlow 107 (by decide)).trans rfl | 108, _ => (hlow 108 (by decide)).trans rfl | 109, _ => (hlow 109 (by decide)).trans rfl | 110, _ => (hlow 110 (by decide)).trans rfl | 111, _ => hz111 | 112, _ => hz112 | 113, _ => hz113 | 114, _ => hz114 | 115, _ => hz115 | 116, _ => hz116 | 117, _ => hz117 | 118, _ => hz118 | 119, _ => hz119 | 120, _ => hz120 | 121, _ => hz121 | 122, _ => hfl 11 (by decide) | 123, _ => (hlow 123 (by decide)).trans rfl | 124, _ => (hlow 124 (by decide)).trans rfl | 125, _ => (hlow 125 (by decide)).trans rfl | 126, _ => (hlow 126 (by decide)).trans rfl | 127, _ => (hlow 127 (by decide)).trans rfl | 128, _ => (hlow 128 (by decide)).trans rfl | 129, _ => (hlow 129 (by decide)).trans rfl | 130, _ => (hlow 130 (by decide)).trans rfl | 131, _ => (hlow 131 (by decide)).trans rfl | 132, _ => (hlow 132 (by decide)).trans rfl | 133, _ => (hlow 133 (by decide)).trans rfl | 134, _ => (hlow 134 (by decide)).trans rfl | 135, _ => (hlow 135 (by decide)).trans rfl | 136, _ => (hlow 136 (by decide)).trans rfl | 137, _ => (hlow 137 (by decide)).trans rfl | 138, _ => (hlow 138 (by decide)).trans rfl | 139, _ => (hlow 139 (by decide)).trans rfl | 140, _ => (hlow 140 (by decide)).trans rfl | 141, _ => (hlow 141 (by decide)).trans rfl | 142, _ => (hlow 142 (by decide)).trans rfl | 143, _ => (hlow 143 (by decide)).trans rfl | 144, _ => (hlow 144 (by decide)).trans rfl | 145, _ => (hlow 145 (by decide)).trans rfl | 146, _ => (hlow 146 (by decide)).trans rfl | 147, _ => (hlow 147 (by decide)).trans rfl | 148, _ => (hlow 148 (by decide)).trans rfl | 149, _ => (hlow 149 (by decide)).trans rfl | 150, _ => (hlow 150 (by decide)).trans rfl | 151, _ => (hlow 151 (by decide)).trans rfl | 152, _ => (hlow 152 (by decide)).trans rfl | 153, _ => (hlow 153 (by decide)).trans rfl | 154, _ => (hlow 154 (by decide)).trans rfl | 155, _ => (hlow 155 (by decide)).trans rfl | 156, _ => (hlow 156 (by decide)).trans rfl | 157, _ => (hlow 157 (by decide)).trans rfl | 158, _ => (hlow 158 (by decide)).trans rfl | 159, _ => (hlow 159 (by decide)).trans rfl | 160, _ => (hlow 160 (by decide)).trans rfl | 161, _ => (hlow 161 (by decide)).trans rfl | 162, _ => (hlow 162 (by decide)).trans rfl | 163, _ => (hlow 163 (by decide)).trans rfl | 164, _ => (hlow 164 (by decide)).trans rfl | 165, _ => (hlow 165 (by decide)).trans rfl | 166, _ => (hlow 166 (by decide)).trans rfl | 167, _ => (hlow 167 (by decide)).trans rfl | 168, _ => (hlow 168 (by decide)).trans rfl | 169, _ => (hlow 169 (by decide)).trans rfl | 170, _ => (hlow 170 (by decide)).trans rfl | n + 171, h => absurd h (by show ¬ n + 171 < 171; omega))
          clear hs hd hlow hag hfl hex hz111 hz112 hz113 hz114 hz115 hz116 hz117 hz118 hz119 hz120 hz121
          obtain ⟨v11, h11⟩ : ∃ V, V = w3 := ⟨_, rfl⟩
          rw [← h11] at hms hen hbl ⊢
          have HE25 := Lib.hid hen
          have HM26 := Lib.hid hms
          have hb := hbl
          replace HE := Lib.hid (HE.out.keep hb)
          replace HAL := Lib.hid (HAL.out.keep hb)
          replace H14 := Lib.hid (H14.out.keep hb)
          replace H23 := Lib.hid ((hb.block g23 (heap_lt H23.out)).trans H23.out)
          replace HB := Lib.hid (HB.out.trans (hb.mono HB.out.size))
          replace HWR := Lib.hid hb
          clear hb hbl h11 hms hen k25 k26 kt
          go_upto_region 18 with (fail)
          refine RgX.tailF 14 (fun i => (if i = 8 then 123 else if i = 9 then 132 else if i = 10 then 133 else if i = 11 then 134 else if i = 12 then 29 else if i = 13 then 28 else 124 + i)) (fun ix_ => match ix_ with | 0 => .v (.slice B s.length r) | 1 => .v (.pointer (some ⟨g14, 0, none⟩)) | 2 => .v (.agg #[.int .i64 z.m.c, .int .i64 z.m.h, .int .i64 z.m.t, .int .i64 z.m.i, .int .i64 z.m.p]) | 3 => .v (.slice (some ⟨g23, 0, none⟩) 2 2) | 4 => .v (.int .i64 (j : Int)) | 5 => .v (.pointer (some ⟨g23, j, none⟩)) | 6 => .v (.int .i64 p) | 7 => .cpt T | 8 => .cpt T | 9 => .ensq T.2.2 | 10 => .v (msV T.2.1) | 11 => .v (.int .i64 T.1) | 12 => .boxn (v11.heap.size) #[.int .i64 0, .int .i64 0, .int .i64 0, .int .i64 0, .int .i64 0] 26 | 13 => .ensq T.2.2 | _ => .any) [11] (fun ix_ => match ix_ with | 11 => .int .i64 T.1 | _ => undef) _ _ (fun a1_ w_ => ∃ (g : Nat) (B_ B2_ : Option Addr) (q_ c_ q2_ c2_ : Nat), a1_.tmps[28]? = some (.slice B_ q_ c_) ∧ a1_.tmps[29]? = some (.pointer (some ⟨g, 0, none⟩)) ∧ a1_.tmps[123]? = some (.tuple #[.slice B2_ q2_ c2_, msV T.2.1, .int .i64 T.1]) ∧ MsB w_ g T.2.1 ∧ Ens w_ B_ q_ c_ T.2.2 ∧ Below v11.heap.size v11 w_) (by kernel_rfl) rfl rfl rfl (by kernel_rfl) (by kernel_rfl) (by kernel_rfl) (by decide) (fun i hi => by show (if i = 8 then 123 else if i = 9 then 132 else if i = 10 then 133 else if i = 11 then 134 else if i = 12 then 29 else if i = 13 then 28 else 124 + i) < 171; (repeat' split) <;> omega) (fun i j hi hj => by show (if i = 8 then 123 else if i = 9 then 132 else if i = 10 then 133 else if i = 11 then 134 else if i = 12 then 29 else if i = 13 then 28 else 124 + i) = (if j = 8 then 123 else if j = 9 then 132 else if j = 10 then 133 else if j = 11 then 134 else if j = 12 then 29 else if j = 13 then 28 else 124 + j) → i = j; (repeat' split) <;> omega) ?step ?sto ?flo ?hF ?fin
          case step =>
            intro L_ A_ w3 ix op_ hi hI ho hdep
            have hcase : ix = 0 ∨ ix = 1 ∨ ix = 2 ∨ ix = 3 ∨ ix = 4 ∨ ix = 5 ∨ ix = 6 ∨ ix = 7 ∨ ix = 8 ∨ ix = 9 ∨ ix = 10 ∨ ix = 11 ∨ ix = 12 ∨ ix = 13 := by omega
            have hh := hI.held
            clear hi
            rcases hcase with rfl | rfl | rfl | rfl | rfl | rfl | rfl | rfl | rfl | rfl | rfl | rfl | rfl | rfl
            · simp only [List.getElem?_toArray, List.getElem?_cons_zero, Option.some.injEq] at ho
              subst ho
              refine ⟨rfl, ?_⟩
              have e11 : A_.tmps[11]?.getD undef = .slice B s.length r := by rw [hI.low 11 (by decide)]; rfl
              clear hI hdep
              exact .run rfl (.slice B s.length r) w3 (by simp [execOp, go_sem, Act.eval, e11]) (Below.refl _ _) rfl
            · simp only [List.getElem?_toArray, List.getElem?_cons_succ, List.getElem?_cons_zero, Option.some.injEq] at ho
              subst ho
              refine ⟨rfl, ?_⟩
              have e14 : A_.tmps[14]?.getD undef = .pointer (some ⟨g14, 0, none⟩) := by rw [hI.low 14 (by decide)]; rfl
              clear hI hdep
              exact .run rfl (.pointer (some ⟨g14, 0, none⟩)) w3 (by simp [execOp, go_sem, Act.eval, e14]) (Below.refl _ _) rfl
            · simp only [List.getElem?_toArray, List.getElem?_cons_succ, List.getElem?_cons_zero, Option.some.injEq] at ho
              subst ho
              refine ⟨rfl, ?_⟩
              have e125 : A_.tmps[125]?.getD undef = .pointer (some ⟨g14, 0, none⟩) := getD_of (hI.val_ (i := 1) rfl rfl (by decide) (hdep ⟨1, .data⟩ (by simp) rfl))
              clear hI hdep
              obtain ⟨x0, x1, x2, x3, x4, x5, x6, x7, x8⟩ := (H14.out.keep hh).cells
              exact .run rfl (.agg #[.int .i64 z.m.c, .int .i64 z.m.h, .int .i64 z.m.t, .int .i64 z.m.i, .int .i64 z.m.p]) w3 (by simp [execOp, go_sem, Act.eval, *]) (Below.refl _ _) rfl
            · simp only [List.getElem?_toArray, List.getElem?_cons_succ, List.getElem?_cons_zero, Option.some.injEq] at ho
              subst ho
              refine ⟨rfl, ?_⟩
              have e23 : A_.tmps[23]?.getD undef = .slice (some ⟨g23, 0, none⟩) 2 2 := by rw [hI.low 23 (by decide)]; rfl
              clear hI hdep
              exact .run rfl (.slice (some ⟨g23, 0, none⟩) 2 2) w3 (by simp [execOp, go_sem, Act.eval, e23]) (Below.refl _ _) rfl
            · simp only [List.getElem?_toArray, List.getElem?_cons_succ, List.getElem?_cons_zero, Option.some.injEq] at ho
              subst ho
              refine ⟨rfl, ?_⟩
              have e24 : A_.tmps[24]?.getD undef = .int .i64 (j : Int) := by rw [hI.low 24 (by decide)]; rfl
              clear hI hdep
              exact .run rfl (.int .i64 (j : Int)) w3 (by simp [execOp, go_sem, Act.eval, e24]) (Below.refl _ _) rfl
            · simp only [List.getElem?_toArray, List.getElem?_cons_succ, List.getElem?_cons_zero, Option.some.injEq] at ho
              subst ho
              refine ⟨rfl, ?_⟩
              have e127 : A_.tmps[127]?.getD undef = .slice (some ⟨g23, 0, none⟩) 2 2 := getD_of (hI.val_ (i := 3) rfl rfl (by decide) (hdep ⟨3, .data⟩ (by simp) rfl))
              have e128 : A_.tmps[128]?.getD undef = .int .i64 (j : Int) := getD_of (hI.val_ (i := 4) rfl rfl (by decide) (hdep ⟨4, .data⟩ (by simp) rfl))
              clear hI hdep
              exact .run rfl (.pointer (some ⟨g23, j, none⟩)) w3 (by simp [execOp, go_sem, Act.eval, e127, e128, hj3]) (Below.refl _ _) rfl
            · simp only [List.getElem?_toArray, List.getElem?_cons_succ, List.getElem?_cons_zero, Option.some.injEq] at ho
              subst ho
              refine ⟨rfl, ?_⟩
              have e129 : A_.tmps[129]?.getD undef = .pointer (some ⟨g23, j, none⟩) := getD_of (hI.val_ (i := 5) rfl rfl (by decide) (hdep ⟨5, .data⟩ (by simp) rfl))
              clear hI hdep
              have hnu := HNU.out w3 (HWR.out.trans (hh.mono HWR.out.size))
              exact .run rfl (.int .i64 p) w3 (by simp [execOp, go_sem, Act.eval, e129, hnu]) (Below.refl _ _) rfl
            · simp only [List.getElem?_toArray, List.getElem?_cons_succ, List.getElem?_cons_zero, Option.some.injEq] at ho
              subst ho
              refine ⟨rfl, ?_⟩
              have e124 : A_.tmps[124]?.getD undef = .slice B s.length r := getD_of (hI.val_ (i := 0) rfl rfl (by decide) (hdep ⟨0, .data⟩ (by simp) rfl))
              have e126 : A_.tmps[126]?.getD undef = .agg #[.int .i64 z.m.c, .int .i64 z.m.h, .int .i64 z.m.t, .int .i64 z.m.i, .int .i64 z.m.p] := getD_of (hI.val_ (i := 2) rfl rfl (by decide) (hdep ⟨2, .data⟩ (by simp) rfl))
              have e130 : A_.tmps[130]?.getD undef = .int .i64 p := getD_of (hI.val_ (i := 6) rfl rfl (by decide) (hdep ⟨6, .data⟩ (by simp) rfl))
              clear hI hdep
              exact .call rfl 20 #[.slice B s.length r, .agg #[.int .i64 z.m.c, .int .i64 z.m.h, .int .i64 z.m.t, .int .i64 z.m.i, .int .i64 z.m.p], .int .i64 p] (by simp [go_sem, Act.eval, e124, e126, e130]) ((HCB.out w3 (HE.out.keep hh)).mono fun _ _ ⟨⟨B_, q_, c_, h1_, h2_⟩, h3_⟩ => ⟨⟨_, h1_, B_, q_, c_, rfl, h2_⟩, h3_⟩)
            · simp only [List.getElem?_toArray, List.getElem?_cons_succ, List.getElem?_cons_zero, Option.some.injEq] at ho
              subst ho
              refine ⟨rfl, ?_⟩
              obtain ⟨y131, e131, h131⟩ := hI.get_ (i := 7) (j := 131) rfl rfl (by decide) (hdep ⟨7, .data⟩ (by simp) rfl)
              clear hI hdep
              exact .run rfl y131 w3 (by simp [execOp, go_sem, Act.eval, e131]) (Below.refl _ _) h131
            · simp only [List.getElem?_toArray, List.getElem?_cons_succ, List.getElem?_cons_zero, Option.some.injEq] at ho
              subst ho
              refine ⟨rfl, ?_⟩
              obtain ⟨_, e123, B123, q123_, c123, rfl, h123⟩ := hI.get_ (i := 8) (j := 123) rfl rfl (by decide) (hdep ⟨8, .data⟩ (by simp) rfl)
              clear hI hdep
              exact .run rfl (.slice B123 q123_ c123) w3 (by simp [execOp, go_sem, Act.eval, e123]) (Below.refl _ _) ⟨_, _, _, rfl, h123⟩
            · simp only [List.getElem?_toArray, List.getElem?_cons_succ, List.getElem?_cons_zero, Option.some.injEq] at ho
              subst ho
              refine ⟨rfl, ?_⟩
              obtain ⟨_, e123, B123, q123_, c123, rfl, h123⟩ := hI.get_ (i := 8) (j := 123) rfl rfl (by decide) (hdep ⟨8, .data⟩ (by simp) rfl)
              clear hI hdep
              exact .run rfl (msV T.2.1) w3 (by simp [execOp, go_sem, Act.eval, e123]) (Below.refl _ _) rfl
            · simp only [List.getElem?_toArray, List.getElem?_cons_succ, List.getElem?_cons_zero, Option.some.injEq] at ho
              subst ho
              refine ⟨rfl, ?_⟩
              obtain ⟨_, e123, B123, q123_, c123, rfl, h123⟩ := hI.get_ (i := 8) (j := 123) rfl rfl (by decide) (hdep ⟨8, .data⟩ (by simp) rfl)
              clear hI hdep
              exact .run rfl (.int .i64 T.1) w3 (by simp [execOp, go_sem, Act.eval, e123]) (Below.refl _ _) rfl
            · simp only [List.getElem?_toArray, List.getElem?_cons_succ, List.getElem?_cons_zero, Option.some.injEq] at ho
              subst ho
              refine ⟨rfl, ?_⟩
              clear hI hdep
              exact .run rfl (.pointer (some ⟨w3.heap.size, 0, none⟩)) (w3.alloc (.cells #[.int .i64 0, .int .i64 0, .int .i64 0, .int .i64 0, .int .i64 0] 26)) (by simp [execOp, go_sem]) ((Below.refl _ _).alloc (Nat.le_refl _) _) ⟨_, rfl, heap_alloc_new _ _, hh.size⟩
            · simp only [List.getElem?_toArray, List.getElem?_cons_succ, List.getElem?_cons_zero, Option.some.injEq] at ho
              subst ho
              refine ⟨rfl, ?_⟩
              obtain ⟨y132, e132, h132⟩ := hI.get_ (i := 9) (j := 132) rfl rfl (by decide) (hdep ⟨9, .data⟩ (by simp) rfl)
              clear hI hdep
              exact .run rfl y132 w3 (by simp [execOp, go_sem, Act.eval, e132]) (Below.refl _ _) h132
          case sto =>
            intro A_ w3 hs hlow hh hok
            obtain ⟨_, q28, B28, q28_, c28, rfl, h28⟩ := hok 13 28 _ (by decide) (by decide) rfl rfl
            obtain ⟨_, q29, g29, rfl, r29, l29⟩ := hok 12 29 _ (by decide) (by decide) rfl rfl
            obtain ⟨_, q123, B123, q123_, c123, rfl, h123⟩ := hok 8 123 _ (by decide) (by decide) rfl rfl
            have q133 := RgX.val_at (hok 10 133 _ (by decide) (by decide) rfl rfl)
            have hm0 : MsB w3 g29 NM.m0 := r29
            refine ⟨rfl, rfl, ?_⟩
            have hx : A_.tmps[29]?.getD undef = .pointer (some ⟨g29, 0, none⟩) := getD_of q29
            have hy : A_.tmps[133]?.getD undef = msV T.2.1 := getD_of q133
            refine store_ms_ex (P := Try.prog) (.tmp 29) (.tmp 133) rfl g29 NM.m0 T.2.1 hm0 (by simpa [Act.eval] using hx) (by simpa [Act.eval] using hy) size_ms fun w4 hm1 hm2 hm4 => ?_
            exact ⟨g29, B28, B123, q28_, c28, q123_, c123, q28, q29, q123, hm1, ens_after_ms h28 hm0 hm2 hm4.size, hh.trans (hm4.mono l29)⟩
          case flo =>
            intro i_ o_ A_ a1_ w3 hi ho hG hag
            simp only [List.mem_cons, List.not_mem_nil, or_false] at hi
            rcases hi with rfl
            · simp only [List.getElem?_toArray, List.getElem?_cons_succ, List.getElem?_cons_zero, Option.some.injEq] at ho
              subst ho
              obtain ⟨g, B_, B2_, q_, c_, q2_, c2_, k25, k26, kt, hms, hen, hbl⟩ := hG
              have e1 : A_.tmps[123]?.getD undef = .tuple #[.slice B2_ q2_ c2_, msV T.2.1, .int .i64 T.1] := getD_of ((hag 123 (by decide)).trans kt)
              exact ⟨rfl, rfl, by simp [execOp, go_sem, Act.eval, e1]⟩
          case hF =>
            intro i_ hi w_ y_ h_
            simp only [List.mem_cons, List.not_mem_nil, or_false] at hi
            rcases hi with rfl
            · exact h_
          case fin =>
          intro A_ a1_ w3 hs hd hlow hG hag hfl hex
          obtain ⟨g29, B28, B2_, q28, c28, q2_, c2_, k25, k26, kt, hms, hen, hbl⟩ := hG
          obtain ⟨z123, hz123⟩ := hex 8 123 (by decide) rfl
          obtain ⟨z124, hz124⟩ := hex 0 124 (by decide) rfl
          obtain ⟨z125, hz125⟩ := hex 1 125 (by decide) rfl
          obtain ⟨z126, hz126⟩ := hex 2 126 (by decide) rfl
          obtain ⟨z127, hz127⟩ := hex 3 127 (by decide) rfl
          obtain ⟨z128, hz128⟩ := hex 4 128 (by decide) rfl
          obtain ⟨z129, hz129⟩ := hex 5 129 (by decide) rfl
          obtain ⟨z130, hz130⟩ := hex 6 130 (by decide) rfl
          obtain ⟨z131, hz131⟩ := hex 7 131 (by decide) rfl
          obtain ⟨z132, hz132⟩ := hex 9 132 (by decide) rfl
          obtain ⟨z133, hz133⟩ := hex 10 133 (by decide) rfl
          obtain rfl : A_ = ⟨#[.slice a0 len0 cap0, .int .i64 a1, .agg #[.int .i64 yc, .int .i64 yh, .int .i64 yt, .int .i64 yi, .int .i64 yp, .int .i64 yo, .int .i64 yk, .int .i64 ya, .int .i64 yb], .int .i64 a3, .int .i64 a4, undef, undef, .pointer (some ⟨w.heap.size, 0, none⟩), undef, undef, u10, .slice B s.length r, .slice (some ⟨g12, 0, none⟩) 2 2, .int .i64 (k : Int), .pointer (some ⟨g14, 0, none⟩), .slice B15 q15 c15, .int .i64 fa, .slice B17 q17 c17, .int .i64 fa, .pointer (some ⟨g19, 0, none⟩), .bool bh, .pointer (some ⟨g21, 0, none⟩), .bool bh, .slice (some ⟨g23, 0, none⟩) 2 2, .int .i64 (j : Int), .slice B25 q25 c25, .pointer (some ⟨g26, 0, none⟩), .int .i64 T.fst, .slice B28 q28 c28, .pointer (some ⟨g29, 0, none⟩), u30, undef, .slice a0 len0 cap0, .slice B s.length r, .int .i64 a1, .agg #[.int .i64 x.m.c, .int .i64 x.m.h, .int .i64 x.m.t, .int .i64 x.m.i, .int .i64 x.m.p, .int .i64 x.o, .int .i64 x.k, .int .i64 x.a, .int .i64 x.b], .agg #[.int .i64 y.m.c, .int .i64 y.m.h, .int .i64 y.m.t, .int .i64 y.m.i, .int .i64 y.m.p, .int .i64 y.o, .int .i64 y.k, .int .i64 y.a, .int .i64 y.b], .slice (some ⟨g37, 0, none⟩) 2 2, .int .i64 (k : Int), .bool true, u40, u41, .slice (some ⟨g12, 0, none⟩) 2 2, .int .i64 (k : Int), .pointer (some { block := g12, off := k * 9 }), .agg #[.int .i64 z.m.c, .int .i64 z.m.h, .int .i64 z.m.t, .int .i64 z.m.i, .int .i64 z.m.p, .int .i64 z.o, .int .i64 z.k, .int .i64 z.a, .int .i64 z.b], Value.tuple #[.slice B15 q15 c15, .int .i64 fa], .slice B s.length r, .agg #[.int .i64 z.m.c, .int .i64 z.m.h, .int .i64 z.m.t, .int .i64 z.m.i, .int .i64 z.m.p, .int .i64 z.o, .int .i64 z.k, .int .i64 z.a, .int .i64 z.b], Value.tuple #[.slice B15 q15 c15, .int .i64 fa], .slice B15 q15 c15, .int .i64 fa, Value.tuple #[.slice B17 q17 c17, .int .i64 fa], .slice B s.length r, .agg #[.int .i64 z.m.c, .int .i64 z.m.h, .int .i64 z.m.t, .int .i64 z.m.i, .int .i64 z.m.p, .int .i64 z.o, .int .i64 z.k, .int .i64 z.a, .int .i64 z.b], Value.tuple #[.slice B17 q17 c17, .int .i64 fa], .slice B17 q17 c17, .int .i64 fa, Value.tuple #[enV zf, .bool bh], .slice B s.length r, .pointer (some ⟨g14, 0, none⟩), .agg #[.int .i64 z.m.c, .int .i64 z.m.h, .int .i64 z.m.t, .int .i64 z.m.i, .int .i64 z.m.p], Value.tuple #[enV zf, .bool bh], enV zf, .bool bh, Value.tuple #[enV zf, .bool bh], .slice B s.length r, .pointer (some ⟨g14, 0, none⟩), .agg #[.int .i64 z.m.c, .int .i64 z.m.h, .int .i64 z.m.t, .int .i64 z.m.i, .int .i64 z.m.p], Value.tuple #[enV zf, .bool bh], enV zf, .bool bh, .int .i64 fa, .int .i64 fa, .bool false, .bool false, .slice B15 q15 c15, .slice B17 q17 c17, .bool true, .bool false, .bool false, .bool false, .agg #[.int .i64 zf.m.c, .int .i64 zf.m.h, .int .i64 zf.m.t, .int .i64 zf.m.i, .int .i64 zf.m.p, .int .i64 zf.o, .int .i64 zf.k, .int .i64 zf.a, .int .i64 zf.b], .agg #[.int .i64 zf.m.c, .int .i64 zf.m.h, .int .i64 zf.m.t, .int .i64 zf.m.i, .int .i64 zf.m.p, .int .i64 zf.o, .int .i64 zf.k, .int .i64 zf.a, .int .i64 zf.b], .bool false, .bool false, .bool false, .bool bh, .bool bh, .bool false, .bool false, .bool false, .slice B s.length r, .pointer (some ⟨g14, 0, none⟩), .agg #[.int .i64 z.m.c, .int .i64 z.m.h, .int .i64 z.m.t, .int .i64 z.m.i, .int .i64 z.m.p], .slice B95 qr c95, .slice B s.length r, .pointer (some ⟨g14, 0, none⟩), .agg #[.int .i64 z.m.c, .int .i64 z.m.h, .int .i64 z.m.t, .int .i64 z.m.i, .int .i64 z.m.p], .slice B99 qr c99, .bool true, .bool false, .bool false, .int .i64 a3, .int .i64 a3, .int .i64 pa, .slice (some ⟨g23, 0, none⟩) 2 2, .int .i64 (j : Int), .bool true, u109, u110, z111, z112, z113, z114, z115, z116, z117, z118, z119, z120, z121, .int .i64 T.fst, z123, z124, z125, z126, z127, z128, z129, z130, z131, z132, z133, .int .i64 T.1, u135, u136, u137, u138, u139, u140, u141, u142, u143, u144, u145, u146, u147, u148, undef, undef, undef, undef, undef, undef, undef, undef, undef, undef, undef, undef, undef, undef, undef, undef, undef, undef, undef, undef, undef, undef], []⟩ := act_ext hd hs (fun j hj => match j, hj with | 0, _ => (hlow 0 (by decide)).trans rfl | 1, _ => (hlow 1 (by decide)).trans rfl | 2, _ => (hlow 2 (by decide)).trans rfl | 3, _ => (hlow 3 (by decide)).trans rfl | 4, _ => (hlow 4 (by decide)).trans rfl | 5, _ => (hlow 5 (by decide)).trans rfl | 6, _ => (hlow 6 (by decide)).trans rfl | 7, _ => (hlow 7 (by decide)).trans rfl | 8, _ => (hlow 8 (by decide)).trans rfl | 9, _ => (hlow 9 (by decide)).trans rfl | 10, _ => (hlow 10 (by decide)).trans rfl | 11, _ => (hlow 11 (by decide)).trans rfl | 12, _ => (hlow 12 (by decide)).trans rfl | 13, _ => (hlow 13 (by decide)).trans rfl | 14, _ => (hlow 14 (by decide)).trans rfl | 15, _ => (hlow 15 (by decide)).trans rfl | 16, _ => (hlow 16 (by decide)).trans rfl | 17, _ => (hlow 17 (by decide)).trans rfl | 18, _ => (hlow 18 (by decide)).trans rfl | 19, _ => (hlow 19 (by decide)).trans rfl | 20, _ => (hlow 20 (by decide)).trans rfl | 21, _ => (hlow 21 (by decide)).trans rfl | 22, _ => (hlow 22 (by decide)).trans rfl | 23, _ => (hlow 23 (by decide)).trans rfl | 24, _ => (hlow 24 (by decide)).trans rfl | 25, _ => (hlow 25 (by decide)).trans rfl | 26, _ => (hlow 26 (by decide)).trans rfl | 27, _ => (hlow 27 (by decide)).trans rfl | 28, _ => (hag 28 (by decide)).trans k25 | 29, _ => (hag 29 (by decide)).trans k26 | 30, _ => (hlow 30 (by decide)).trans rfl | 31, _ => (hlow 31 (by decide)).trans rfl | 32, _ => (hlow 32 (by decide)).trans rfl | 33, _ => (hlow 33 (by decide)).trans rfl | 34, _ => (hlow 34 (by decide)).trans rfl | 35, _ => (hlow 35 (by decide)).trans rfl | 36, _ => (hlow 36 (by decide)).trans rfl | 37, _ => (hlow 37 (by decide)).trans rfl | 38, _ => (hlow 38 (by decide)).trans rfl | 39, _ => (hlow 39 (by decide)).trans rfl | 40, _ => (hlow 40 (by decide)).trans rfl | 41, _ => (hlow 41 (by decide)).trans rfl | 42, _ => (hlow 42 (by decide)).trans rfl | 43, _ => (hlow 43 (by decide)).trans rfl | 44, _ => (hlow 44 (by decide)).trans rfl | 45, _ => (hlow 45 (by decide)).trans rfl | 46, _ => (hlow 46 (by decide)).trans rfl | 47, _ => (hlow 47 (by decide)).trans rfl | 48, _ => (hlow 48 (by decide)).trans rfl | 49, _ => (hlow 49 (by decide)).trans rfl | 50, _ => (hlow 50 (by decide)).trans rfl | 51, _ => (hlow 51 (by decide)).trans rfl | 52, _ => (hlow 52 (by decide)).trans rfl | 53, _ => (hlow 53 (by decide)).trans rfl | 54, _ => (hlow 54 (by decide)).trans rfl | 55, _ => (hlow 55 (by decide)).trans rfl | 56, _ => (hlow 56 (by decide)).trans rfl | 57, _ => (hlow 57 (by decide)).trans rfl | 58, _ => (hlow 58 (by decide)).trans rfl | 59, _ => (hlow 59 (by decide)).trans rfl | 60, _ => (hlow 60 (by decide)).trans rfl | 61, _ => (hlow 61 (by decide)).trans rfl | 62, _ => (hlow 62 (by decide)).trans rfl | 63, _ => (hlow 63 (by decide)).trans rfl | 64, _ => (hlow 64 (by decide)).trans rfl | 65, _ => (hlow 65 (by decide)).trans rfl | 66, _ => (hlow 66 (by decide)).trans rfl | 67, _ => (hlow 67 (by decide)).trans rfl | 68, _ => (hlow 68 (by decide)).trans rfl | 69, _ => (hlow 69 (by decide)).trans rfl | 70, _ => (hlow 70 (by decide)).trans rfl | 71, _ => (hlow 71 (by decide)).trans rfl | 72, _ => (hlow 72 (by decide)).trans rfl | 73, _ => (hlow 73 (by decide)).trans rfl | 74, _ => (hlow 74 (by decide)).trans rfl | 75, _ => (hlow 75 (by decide)).trans rfl | 76, _ => (hlow 76 (by decide)).trans rfl | 77, _ => (hlow 77 (by decide)).trans rfl | 78, _ => (hlow 78 (by decide)).trans rfl | 79, _ => (hlow 79 (by decide)).trans rfl | 80, _ => (hlow 80 (by decide)).trans rfl | 81, _ => (hlow 81 (by decide)).trans rfl | 82, _ => (hlow 82 (by decide)).trans rfl | 83, _ => (hlow 83 (by decide)).trans rfl | 84, _ => (hlow 84 (by decide)).trans rfl | 85, _ => (hlow 85 (by decide)).trans rfl | 86, _ => (hlow 86 (by decide)).trans rfl | 87, _ => (hlow 87 (by decide)).trans rfl | 88, _ => (hlow 88 (by decide)).trans rfl | 89, _ => (hlow 89 (by decide)).trans rfl | 90, _ => (hlow 90 (by decide)).trans rfl | 91, _ => (hlow 91 (by decide)).trans rfl | 92, _ => (hlow 92 (by decide)).trans rfl | 93, _ => (hlow 93 (by decide)).trans rfl | 94, _ => (hlow 94 (by decide)).trans rfl | 95, _ => (hlow 95 (by decide)).trans rfl | 96, _ => (hlow 96 (by decide)).trans rfl | 97, _ => (hlow 97 (by decide)).trans rfl | 98, _ => (hlow 98 (by decide)).trans rfl | 99, _ => (hlow 99 (by decide)).trans rfl | 100, _ => (hlow 100 (by decide)).trans rfl | 101, _ => (hlow 101 (by decide)).trans rfl | 102, _ => (hlow 102 (by decide)).trans rfl | 103, _ => (hlow 103 (by decide)).trans rfl | 104, _ => (hlow 104 (by decide)).trans rfl | 105, _ => (hlow 105 (by decide)).trans rfl | 106, _ => (hlow 106 (by decide)).trans rfl | 107, _ => (hlow 107 (by decide)).trans rfl | 108, _ => (hlow 108 (by decide)).trans rfl | 109, _ => (hlow 109 (by decide)).trans rfl | 110, _ => (hlow 110 (by decide)).trans rfl | 111, _ => (hlow 111 (by decide)).trans rfl | 112, _ => (hlow 112 (by decide)).trans rfl | 113, _ => (hlow 113 (by decide)).trans rfl | 114, _ => (hlow 114 (by decide)).trans rfl | 115, _ => (hlow 115 (by decide)).trans rfl | 116, _ => (hlow 116 (by decide)).trans rfl | 117, _ => (hlow 117 (by decide)).trans rfl | 118, _ => (hlow 118 (by decide)).trans rfl | 119, _ => (hlow 119 (by decide)).trans rfl | 120, _ => (hlow 120 (by decide)).trans rfl | 121, _ => (hlow 121 (by decide)).trans rfl | 122, _ => (hlow 122 (by decide)).trans rfl | 123, _ => hz123 | 124, _ => hz124 | 125, _ => hz125 | 126, _ => hz126 | 127, _ => hz127 | 128, _ => hz128 | 129, _ => hz129 | 130, _ => hz130 | 131, _ => hz131 | 132, _ => hz132 | 133, _ => hz133 | 134, _ => hfl 11 (by decide) | 135, _ => (hlow 135 (by decide)).trans rfl | 136, _ => (hlow 136 (by decide)).trans rfl | 137, _ => (hlow 137 (by decide)).trans rfl | 138, _ => (hlow 138 (by decide)).trans rfl | 139, _ => (hlow 139 (by decide)).trans rfl | 140, _ => (hlow 140 (by decide)).trans rfl | 141, _ => (hlow 141 (by decide)).trans rfl | 142, _ => (hlow 142 (by decide)).trans rfl | 143, _ => (hlow 143 (by decide)).trans rfl | 144, _ => (hlow 144 (by decide)).trans rfl | 145, _ => (hlow 145 (by decide)).trans rfl | 146, _ => (hlow 146 (by decide)).trans rfl | 147, _ => (hlow 147 (by decide)).trans rfl | 148, _ => (hlow 148 (by decide)).trans rfl | 149, _ => (hlow 149 (by decide)).trans rfl | 150, _ => (hlow 150 (by decide)).trans rfl | 151, _ => (hlow 151 (by decide)).trans rfl | 152, _ => (hlow 152 (by decide)).trans rfl | 153, _ => (hlow 153 (by decide)).trans rfl | 154, _ => (hlow 154 (by decide)).trans rfl | 155, _ => (hlow 155 (by decide)).trans rfl | 156, _ => (hlow 156 (by decide)).trans rfl | 157, _ => (hlow 157 (by decide)).trans rfl | 158, _ => (hlow 158 (by decide)).trans rfl | 159, _ => (hlow 159 (by decide)).trans rfl | 160, _ => (hlow 160 (by decide)).trans rfl | 161, _ => (hlow 161 (by decide)).trans rfl | 162, _ => (hlow 162 (by decide)).trans rfl | 163, _ => (hlow 163 (by decide)).trans rfl | 164, _ => (hlow 164 (by decide)).trans rfl | 165, _ => (hlow 165 (by decide)).trans rfl | 166, _ => (hlow 166 (by decide)).trans rfl | 167, _ => (hlow 167 (by decide)).trans rfl | 168, _ => (hlow 168 (by decide)).trans rfl | 169, _ => (hlow 169 (by decide)).trans rfl | 170, _ => (hlow 170 (by decide)).trans rfl | n + 171, h => absurd h (by show ¬ n + 171 < 171; omega))
          clear hs hd hlow hag hfl hex hz123 hz124 hz125 hz126 hz127 hz128 hz129 hz130 hz131 hz132 hz133
          obtain ⟨v12, h12⟩ : ∃ V, V = w3 := ⟨_, rfl⟩
          rw [← h12] at hms hen hbl ⊢
          have HE28 := Lib.hid hen
          have HM29 := Lib.hid hms
          have hb := hbl
          replace HE := Lib.hid (HE.out.keep hb)
          replace HAL := Lib.hid (HAL.out.keep hb)
          replace H14 := Lib.hid (H14.out.keep hb)
          replace H23 := Lib.hid ((hb.block g23 (heap_lt H23.out)).trans H23.out)
          replace HE25 := Lib.hid (HE25.out.keep hb)
          replace HM26 := Lib.hid (HM26.out.keep hb)
          replace HB := Lib.hid (HB.out.trans (hb.mono HB.out.size))
          clear hb hbl h12 hms hen k25 k26 kt
          go_upto_region 19 with (fail)
          obtain ⟨u0, u1, u2, u3, u4⟩ := HM26.out.cells
          obtain ⟨t0, t1, t2, t3, t4⟩ := HM29.out.cells
          have hne : ∀ V, (binOp .neq 26 (msV T.2.1) (msV T.2.1)).run Try.prog V = .ok (.bool false) V := fun V => by have := neM_any T.2.1 T.2.1 V; rwa [decide_eq_true rfl] at this
          have hq25 : q25 ≤ 1000000 := by have := HE25.out.len; omega
          go_wp2_with ((go_at_call 15; (with_reducible refine (sameEn_true _ HE25.out HE28.out hq25).mono ?_); rintro e v13 ⟨rfl, hb⟩; replace HE := Lib.hid (HE.out.keep hb); replace HAL := Lib.hid (HAL.out.keep hb); replace H14 := Lib.hid (H14.out.keep hb); replace H23 := Lib.hid ((hb.block g23 (heap_lt H23.out)).trans H23.out); replace HB := Lib.hid (HB.out.trans (hb.mono HB.out.size)); clear hb))
          go_roundw
          case rel => exact ⟨j + 1, by omega, by go_num, HE, HAL, H14, H23, HB⟩
          case measure => simp [intOf]; omega
        · have dj : decide ((j : Int) < 2) = false := decide_eq_false (by omega)
          go_wp2_with fail
          go_roundw
          case rel => exact ⟨k + 1, by omega, by go_num, HE, HAL, HB⟩
          case measure => simp [intOf]; omega
    · have d1 : decide ((k : Int) < 2) = false := decide_eq_false (by omega)
      obtain ⟨wo, hwo⟩ : ∃ W, W = wr := ⟨_, rfl⟩
      subst hwo
      have HT1 := Lib.hid (fun V v (h : Ens V B s.length r s) => to_any v V h (by omega))
      have HT2 := Lib.hid (fun V v (h : Ens V B s.length r s) => refTo_any v V h (by omega))
      have HTL := Lib.hid (fun v => show (NW.toL s v).length ≤ 100 from by unfold NW.toL; rw [List.length_map]; exact Nat.le_trans (List.length_filter_le _ _) (by omega))
      go_upto_region 22 with (fail)
      clear d1
      go_loopw [31] (fun i V => ∃ v : Int, -1 ≤ v ∧ v ≤ 5 ∧ i = .int .i64 v ∧ Hid (Ens V B s.length r s) ∧ Hid (Below w.heap.size w V)) (fun i _ => (5 - intOf i).toNat)
      case atStart => exact ⟨-1, by omega, by omega, rfl, HE, HB⟩
      case round =>
        clear HE HB HAL
        obtain ⟨v, hv1, hv2, rfl, HE, HB⟩ := hrel
        by_cases hv : v < 5
        · have dv : decide (v < 5) = true := decide_eq_true hv
          have htl := HTL.out v
          have HTA := Lib.hid (fun V h => HT1.out V v h)
          have HTB := Lib.hid (fun V h => HT2.out V v h)
          obtain ⟨T, hT⟩ : ∃ T, NW.toL s v = T := ⟨_, rfl⟩
          rw [hT] at HTA HTB htl
          clear hT
          go_wp2_with (first
            | (go_at_call 22; (with_reducible refine (HTA.out _ HE.out).mono ?_); rintro e v21 ⟨⟨B1, c1, rfl, h_⟩, hb⟩; replace HE := Lib.hid (HE.out.keep hb); replace HB := Lib.hid (HB.out.trans (hb.mono HB.out.size)); clear hb; have HM1 := Lib.hid h_; clear h_)
            | (go_at_call 23; (with_reducible refine (HTB.out _ HE.out).mono ?_); rintro e v22 ⟨⟨B2, c2, rfl, h_⟩, hb⟩; replace HE := Lib.hid (HE.out.keep hb); replace HM1 := Lib.hid (HM1.out.keep hb); replace HB := Lib.hid (HB.out.trans (hb.mono HB.out.size)); clear hb; have HM2 := Lib.hid h_; clear h_)
            | (go_at_call 21; (with_reducible refine (sameMs_true _ HM1.out HM2.out (by omega)).mono ?_); rintro e v23 ⟨rfl, hb⟩; replace HE := Lib.hid (HE.out.keep hb); replace HB := Lib.hid (HB.out.trans (hb.mono HB.out.size)); clear hb))
          go_roundw
          case rel => exact ⟨v + 1, by omega, by omega, by go_num, HE, HB⟩
          case measure => simp [intOf]; omega
        · have dv : decide (v < 5) = false := decide_eq_false hv
          have htl := HTL.out a4
          have HTA := Lib.hid (fun V h => HT1.out V a4 h)
          have HTB := Lib.hid (fun V h => HT2.out V a4 h)
          obtain ⟨T, hT⟩ : ∃ T, NW.toL s a4 = T := ⟨_, rfl⟩
          rw [hT] at HTA HTB htl
          clear hT
          go_wp2_with (first
            | (go_at_call 22; (with_reducible refine (HTA.out _ HE.out).mono ?_); rintro e v21 ⟨⟨B1, c1, rfl, h_⟩, hb⟩; replace HE := Lib.hid (HE.out.keep hb); replace HB := Lib.hid (HB.out.trans (hb.mono HB.out.size)); clear hb; have HM1 := Lib.hid h_; clear h_)
            | (go_at_call 23; (with_reducible refine (HTB.out _ HE.out).mono ?_); rintro e v22 ⟨⟨B2, c2, rfl, h_⟩, hb⟩; replace HE := Lib.hid (HE.out.keep hb); replace HM1 := Lib.hid (HM1.out.keep hb); replace HB := Lib.hid (HB.out.trans (hb.mono HB.out.size)); clear hb; have HM2 := Lib.hid h_; clear h_)
            | (go_at_call 21; (with_reducible refine (sameMs_true _ HM1.out HM2.out (by omega)).mono ?_); rintro e v23 ⟨rfl, hb⟩; replace HE := Lib.hid (HE.out.keep hb); replace HB := Lib.hid (HB.out.trans (hb.mono HB.out.size)); clear hb)
            | (go_at_call 24; (with_reducible refine (lives_any _).mono ?_); rintro e v24 ⟨rfl, hb⟩; replace HB := Lib.hid (HB.out.trans (hb.mono HB.out.size)); clear hb))
          go_ret
          exact ⟨rfl, HB.out⟩
end Go.Proofs.Ytepbppckhfiplaa.LawNetworkSets
