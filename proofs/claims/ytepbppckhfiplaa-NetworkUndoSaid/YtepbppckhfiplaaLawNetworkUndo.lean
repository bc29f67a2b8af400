/-
  The walk of the law NetworkUndo.
-/
import Derived.Test.YtepbppckhfiplaaNwLv
import Derived.Test.YtepbppckhfiplaaNwS
namespace Go.Proofs.Ytepbppckhfiplaa.LawNetworkUndo
open Go Go.RowKit Go.Proofs Go.Proofs.Ytepbppckhfiplaa
attribute [local go_sem] Oper.semAt_some

set_option maxHeartbeats 4000000 in
set_option maxRecDepth 100000 in
theorem walk (a0 : Option Addr) (len0 cap0 : Nat) (z0 : List Int) (a1 : Int) (w : World) (w0 : Row .i64 w a0 len0 cap0 z0) (w1 : (Lit.int .i64 a1).wf = true) :
    Calls Try.prog 5 #[.slice a0 len0 cap0, .int .i64 a1] w fun e w' => e = .returned (.bool true) ∧ Below w.heap.size w w' := by
  have HS := Lib.hid (set_any (c := cap0) w w0.ints.1 (i64_of w0.ints.2.2.2))
  have HO := Lib.hid (NW.setL_srt (z0.take len0))
  have HL := Lib.hid (NW.setL_len (z0.take len0))
  have HTO := Lib.hid (fun x (hx : x ∈ NW.setL (z0.take len0)) => NW.setL_to hx)
  obtain ⟨s, hs⟩ : ∃ s, NW.setL (z0.take len0) = s := ⟨_, rfl⟩
  rw [hs] at HS HO HL HTO
  have hlen := HL.out
  have HGx := Lib.hid (fun V => enOf_any a1 (show I64 a1 by have := bounds_i64 w1; unfold I64; omega) V)
  obtain ⟨x, hx⟩ : ∃ x, NW.enOf (NM.arI a1 100000) = x := ⟨_, rfl⟩
  rw [hx] at HGx
  clear hx
  clear w0 w1 hs HL HTO
  go_enter Try.func5, Try.ntmps5
  go_upto_region 3 with (first
    | (go_at_call 9; (with_reducible refine HS.out.mono ?_); rintro e v1 ⟨⟨B, r, rfl, hE⟩, hb⟩; have HE := Lib.hid hE; have HB := Lib.hid hb; clear hE hb)
    | (go_at_call 10; (with_reducible refine (HGx.out _).mono ?_); rintro e v2 ⟨rfl, hb⟩; replace HE := Lib.hid (HE.out.keep hb); replace HB := Lib.hid (HB.out.trans (hb.mono HB.out.size)); clear hb))
  obtain ⟨U2, hU⟩ : ∃ U, v2.alloc (.cells #[.int .i64 x.m.c, .int .i64 x.m.h, .int .i64 x.m.t, .int .i64 x.m.i, .int .i64 x.m.p, .int .i64 x.o, .int .i64 x.k, .int .i64 x.a, .int .i64 x.b] 28) = U := ⟨_, rfl⟩
  rw [hU]
  have H6 := Lib.hid (show EnB U2 v2.heap.size x from by rw [← hU]; exact new_at rfl)
  have hb : Below v2.heap.size v2 U2 := hU ▸ one_box _ _
  replace HE := Lib.hid (HE.out.keep hb)
  replace HB := Lib.hid (HB.out.trans (hb.mono HB.out.size))
  clear hb hU
  obtain ⟨p0, p1, p2, p3, p4, p5, p6, p7, p8⟩ := H6.out.cells
  have HFI := Lib.hid (find_any x.m U2 HE.out HO.out (by omega))
  by_cases hh : NW.has s x.m = true
  · obtain ⟨y, hy⟩ := NW.find_ex hh
    have hym : y.m = x.m := ((NW.find_some HO.out).1 hy).2
    rw [hh, hy] at HFI
    have HUN := Lib.hid (NW.undo_find HO.out hy)
    have HRL := Lib.hid (NW.rem_len HO.out hy)
    have HHR := Lib.hid (NW.has_rem s x.m)
    have HOR := Lib.hid (NW.srt_rem (m := x.m) HO.out)
    have HYM := Lib.hid hym
    obtain ⟨t, ht⟩ : ∃ t, NW.rem s x.m = t := ⟨_, rfl⟩
    rw [ht] at HUN HRL HHR HOR
    have HT := Lib.hid ht
    clear hh hy hym ht
    go_upto_region 4 with ((go_at_call 13; (with_reducible refine (HFI.out).mono ?_); rintro e v3 ⟨rfl, hb⟩; replace HE := Lib.hid (HE.out.keep hb); replace H6 := Lib.hid (H6.out.keep hb); replace HB := Lib.hid (HB.out.trans (hb.mono HB.out.size)); clear hb))
    obtain ⟨U3, hU⟩ : ∃ U, v3.alloc (.cells #[.int .i64 y.m.c, .int .i64 y.m.h, .int .i64 y.m.t, .int .i64 y.m.i, .int .i64 y.m.p, .int .i64 y.o, .int .i64 y.k, .int .i64 y.a, .int .i64 y.b] 28) = U := ⟨_, rfl⟩
    rw [hU]
    have H7 := Lib.hid (show EnB U3 v3.heap.size y from by rw [← hU]; exact new_at rfl)
    have hb : Below v3.heap.size v3 U3 := hU ▸ one_box _ _
    replace HE := Lib.hid (HE.out.keep hb)
    replace H6 := Lib.hid (H6.out.keep hb)
    replace HB := Lib.hid (HB.out.trans (hb.mono HB.out.size))
    clear hb hU
    clear p0 p1 p2 p3 p4 p5 p6 p7 p8
    obtain ⟨p0, p1, p2, p3, p4, p5, p6, p7, p8⟩ := H6.out.cells
    go_upto_region 6 with ((go_at_call 16; (with_reducible refine (remove_any x.m _ HE.out HO.out (by omega)).mono ?_); rintro e v4 ⟨⟨B9, c9, rfl, h9⟩, hb⟩; replace HE := Lib.hid (HE.out.keep hb); replace H6 := Lib.hid (H6.out.keep hb); replace H7 := Lib.hid (H7.out.keep hb); replace HB := Lib.hid (HB.out.trans (hb.mono HB.out.size)); clear hb; have HR9 := Lib.hid h9; clear h9))
    have hrl := HRL.out
    have HTE : Hid (Ens v4 B9 t.length c9 t) := Lib.hid (by have := HR9.out; rwa [HT.out] at this)
    rw [HT.out]
    clear HR9 p0 p1 p2 p3 p4 p5 p6 p7 p8
    obtain ⟨p0, p1, p2, p3, p4, p5, p6, p7, p8⟩ := H6.out.cells
    have HFI2 := Lib.hid (find_any x.m v4 HTE.out HOR.out (by omega))
    rw [HHR.out, NW.find_none HHR.out] at HFI2
    go_upto_region 7 with ((go_at_call 13; (with_reducible refine (HFI2.out).mono ?_); rintro e v5 ⟨rfl, hb⟩; replace HE := Lib.hid (HE.out.keep hb); replace H6 := Lib.hid (H6.out.keep hb); replace H7 := Lib.hid (H7.out.keep hb); replace HTE := Lib.hid (HTE.out.keep hb); replace HB := Lib.hid (HB.out.trans (hb.mono HB.out.size)); clear hb))
    obtain ⟨U5, hU⟩ : ∃ U, v5.alloc (.cells #[.int .i64 NW.z0.m.c, .int .i64 NW.z0.m.h, .int .i64 NW.z0.m.t, .int .i64 NW.z0.m.i, .int .i64 NW.z0.m.p, .int .i64 NW.z0.o, .int .i64 NW.z0.k, .int .i64 NW.z0.a, .int .i64 NW.z0.b] 28) = U := ⟨_, rfl⟩
    rw [hU]
    have H10 := Lib.hid (show EnB U5 v5.heap.size NW.z0 from by rw [← hU]; exact new_at rfl)
    have hb : Below v5.heap.size v5 U5 := hU ▸ one_box _ _
    replace HE := Lib.hid (HE.out.keep hb)
    replace H6 := Lib.hid (H6.out.keep hb)
    replace H7 := Lib.hid (H7.out.keep hb)
    replace HTE := Lib.hid (HTE.out.keep hb)
    replace HB := Lib.hid (HB.out.trans (hb.mono HB.out.size))
    clear hb hU
    clear p0 p1 p2 p3 p4 p5 p6 p7 p8
    obtain ⟨p0, p1, p2, p3, p4, p5, p6, p7, p8⟩ := H7.out.cells
    have HA := Lib.hid (add_any y U5 HTE.out HOR.out (by omega))
    rw [HYM.out, HHR.out, HUN.out] at HA
    simp only [Bool.false_eq_true, if_false] at HA
    go_upto_region 8 with ((go_at_call 11; (with_reducible refine (HA.out).mono ?_); rintro e v6 ⟨⟨B12, q12, c12, rfl, h12, _⟩, hb⟩; replace HE := Lib.hid (HE.out.keep hb); replace HTE := Lib.hid (HTE.out.keep hb); replace HB := Lib.hid (HB.out.trans (hb.mono HB.out.size)); clear hb; have HB12 := Lib.hid h12; clear h12))
    obtain rfl : q12 = s.length := HB12.out.len.symm
    clear p0 p1 p2 p3 p4 p5 p6 p7 p8
    have e1 : (((t.length : Nat) : Int) == ((s.length : Nat) : Int) - 1) = true := by simp; omega
    go_wp2_with (first
      | (go_at_call 15; (with_reducible refine (sameEn_true _ HB12.out HE.out (by omega)).mono ?_); rintro e v7 ⟨rfl, hb⟩; replace HB := Lib.hid (HB.out.trans (hb.mono HB.out.size)); clear hb)
      | (go_at_call 24; (with_reducible refine (lives_any _).mono ?_); rintro e v8 ⟨rfl, hb⟩; replace HB := Lib.hid (HB.out.trans (hb.mono HB.out.size)); clear hb))
    go_ret
    exact ⟨rfl, HB.out⟩
  · have hf : NW.has s x.m = false := by simpa using hh
    rw [hf, NW.find_none hf] at HFI
    have HHF := Lib.hid hf
    have HUN := Lib.hid (NW.undo_put HO.out hf)
    have HFP := Lib.hid (NW.find_put HO.out hf)
    have HOP := Lib.hid (NW.srt_put HO.out hf)
    have HRN := Lib.hid (NW.rem_none hf)
    have HPL := Lib.hid (NW.put_len s x)
    have HHP := Lib.hid (show NW.has (NW.put s x) x.m = true by rw [NW.has_put]; simp)
    obtain ⟨t, ht⟩ : ∃ t, NW.put s x = t := ⟨_, rfl⟩
    rw [ht] at HUN HFP HOP HPL HHP
    have HA := Lib.hid (fun V (h : Ens V B s.length r s) => add_any x V h HO.out (by omega))
    rw [hf, ht] at HA
    simp only [Bool.false_eq_true, if_false] at HA
    clear hh hf ht
    go_upto_region 4 with ((go_at_call 13; (with_reducible refine (HFI.out).mono ?_); rintro e v3 ⟨rfl, hb⟩; replace HE := Lib.hid (HE.out.keep hb); replace H6 := Lib.hid (H6.out.keep hb); replace HB := Lib.hid (HB.out.trans (hb.mono HB.out.size)); clear hb))
    obtain ⟨U3, hU⟩ : ∃ U, v3.alloc (.cells #[.int .i64 NW.z0.m.c, .int .i64 NW.z0.m.h, .int .i64 NW.z0.m.t, .int .i64 NW.z0.m.i, .int .i64 NW.z0.m.p, .int .i64 NW.z0.o, .int .i64 NW.z0.k, .int .i64 NW.z0.a, .int .i64 NW.z0.b] 28) = U := ⟨_, rfl⟩
    rw [hU]
    have H7 := Lib.hid (show EnB U3 v3.heap.size NW.z0 from by rw [← hU]; exact new_at rfl)
    have hb : Below v3.heap.size v3 U3 := hU ▸ one_box _ _
    replace HE := Lib.hid (HE.out.keep hb)
    replace H6 := Lib.hid (H6.out.keep hb)
    replace HB := Lib.hid (HB.out.trans (hb.mono HB.out.size))
    clear hb hU
    clear p0 p1 p2 p3 p4 p5 p6 p7 p8
    obtain ⟨p0, p1, p2, p3, p4, p5, p6, p7, p8⟩ := H6.out.cells
    go_upto_region 10 with ((go_at_call 11; (with_reducible refine (HA.out _ HE.out).mono ?_); rintro e v4 ⟨⟨B14, q14, c14, rfl, h14, _⟩, hb⟩; replace HE := Lib.hid (HE.out.keep hb); replace H6 := Lib.hid (H6.out.keep hb); replace HB := Lib.hid (HB.out.trans (hb.mono HB.out.size)); clear hb; have HM := Lib.hid h14; clear h14))
    have hpl2 : t.length ≤ 13 := by have := HPL.out; omega
    obtain rfl : q14 = t.length := HM.out.len.symm
    clear p0 p1 p2 p3 p4 p5 p6 p7 p8
    obtain ⟨p0, p1, p2, p3, p4, p5, p6, p7, p8⟩ := H6.out.cells
    have HFI2 := Lib.hid (find_any x.m v4 HM.out HOP.out (by omega))
    rw [HHP.out, HFP.out] at HFI2
    go_upto_region 11 with ((go_at_call 13; (with_reducible refine (HFI2.out).mono ?_); rintro e v5 ⟨rfl, hb⟩; replace HE := Lib.hid (HE.out.keep hb); replace H6 := Lib.hid (H6.out.keep hb); replace HM := Lib.hid (HM.out.keep hb); replace HB := Lib.hid (HB.out.trans (hb.mono HB.out.size)); clear hb))
    obtain ⟨U5, hU⟩ : ∃ U, v5.alloc (.cells #[.int .i64 x.m.c, .int .i64 x.m.h, .int .i64 x.m.t, .int .i64 x.m.i, .int .i64 x.m.p, .int .i64 x.o, .int .i64 x.k, .int .i64 x.a, .int .i64 x.b] 28) = U := ⟨_, rfl⟩
    rw [hU]
    have H16 := Lib.hid (show EnB U5 v5.heap.size x from by rw [← hU]; exact new_at rfl)
    have hb : Below v5.heap.size v5 U5 := hU ▸ one_box _ _
    replace HE := Lib.hid (HE.out.keep hb)
    replace H6 := Lib.hid (H6.out.keep hb)
    replace HM := Lib.hid (HM.out.keep hb)
    replace HB := Lib.hid (HB.out.trans (hb.mono HB.out.size))
    clear hb hU
    clear p0 p1 p2 p3 p4 p5 p6 p7 p8
    obtain ⟨p0, p1, p2, p3, p4, p5, p6, p7, p8⟩ := H6.out.cells
    obtain ⟨q0, q1, q2, q3, q4, q5, q6, q7, q8⟩ := H16.out.cells
    have e1 : (((t.length : Nat) : Int) == ((s.length : Nat) : Int) + 1) = true := by have := HPL.out; simp; omega
    have heq : ∀ V, (binOp .eql 28 (enV x) (enV x)).run Try.prog V = .ok (.bool true) V := fun V => by have := eqEn_any x x V; rwa [decide_eq_true rfl] at this
    go_wp2_with (first
      | (go_at_call 16; (with_reducible refine (remove_any x.m _ HM.out HOP.out (by omega)).mono ?_); rintro e v6 ⟨⟨B1, c_, rfl, h_⟩, hb⟩; replace HE := Lib.hid (HE.out.keep hb); replace H6 := Lib.hid (H6.out.keep hb); replace HB := Lib.hid (HB.out.trans (hb.mono HB.out.size)); clear hb; have HR1 := Lib.hid h_; clear h_; rw [HUN.out] at HR1 ⊢; obtain ⟨p0, p1, p2, p3, p4, p5, p6, p7, p8⟩ := H6.out.cells)
      | (go_at_call 15; (with_reducible refine (sameEn_true _ HR1.out HE.out (by omega)).mono ?_); rintro e v7 ⟨rfl, hb⟩; replace HE := Lib.hid (HE.out.keep hb); replace H6 := Lib.hid (H6.out.keep hb); replace HB := Lib.hid (HB.out.trans (hb.mono HB.out.size)); clear hb; clear HR1; obtain ⟨p0, p1, p2, p3, p4, p5, p6, p7, p8⟩ := H6.out.cells)
      | (go_at_call 16; (with_reducible refine (remove_any x.m _ HE.out HO.out (by omega)).mono ?_); rintro e v8 ⟨⟨B2, c_, rfl, h_⟩, hb⟩; replace HE := Lib.hid (HE.out.keep hb); replace H6 := Lib.hid (H6.out.keep hb); replace HB := Lib.hid (HB.out.trans (hb.mono HB.out.size)); clear hb; have HR2 := Lib.hid h_; clear h_; rw [HRN.out] at HR2 ⊢)
      | (go_at_call 15; (with_reducible refine (sameEn_true _ HR2.out HE.out (by omega)).mono ?_); rintro e v9 ⟨rfl, hb⟩; replace HB := Lib.hid (HB.out.trans (hb.mono HB.out.size)); clear hb)
      | (go_at_call 24; (with_reducible refine (lives_any _).mono ?_); rintro e v10 ⟨rfl, hb⟩; replace HB := Lib.hid (HB.out.trans (hb.mono HB.out.size)); clear hb))
    go_ret
    exact ⟨rfl, HB.out⟩
end Go.Proofs.Ytepbppckhfiplaa.LawNetworkUndo
