/-
  The walk of the law NetworkCopies.
-/
import Derived.Test.YtepbppckhfiplaaNwLv
import Derived.Test.YtepbppckhfiplaaNwS
import Derived.Test.YtepbppckhfiplaaNwB
import Derived.Test.YtepbppckhfiplaaNwY
import Derived.Deep.Cut
namespace Go.Proofs.Ytepbppckhfiplaa.LawNetworkCopies
open Go Go.RowKit Go.Proofs Go.Proofs.Ytepbppckhfiplaa
attribute [local go_sem] Oper.semAt_some

set_option maxHeartbeats 4000000 in
set_option maxRecDepth 100000 in
theorem walk (a0 : Option Addr) (len0 cap0 : Nat) (z0 : List Int) (a1 a2 : Int) (w : World) (w0 : Row .i64 w a0 len0 cap0 z0) (w1 : (Lit.int .i64 a1).wf = true) (w2 : (Lit.int .i64 a2).wf = true) :
    Calls Try.prog 7 #[.slice a0 len0 cap0, .int .i64 a1, .int .i64 a2] w fun e w' => e = .returned (.bool true) ∧ Below w.heap.size w w' := by
  have HS := Lib.hid (set_any (c := cap0) w w0.ints.1 (i64_of w0.ints.2.2.2))
  have HO := Lib.hid (NW.setL_srt (z0.take len0))
  have HL := Lib.hid (NW.setL_len (z0.take len0))
  have HTO := Lib.hid (fun x (hx : x ∈ NW.setL (z0.take len0)) => NW.setL_to hx)
  obtain ⟨s, hs⟩ : ∃ s, NW.setL (z0.take len0) = s := ⟨_, rfl⟩
  rw [hs] at HS HO HL HTO
  have hlen := HL.out
  have HGM := Lib.hid (fun V => msOf_any a1 (show I64 a1 by have := bounds_i64 w1; unfold I64; omega) V)
  have HAR := Lib.hid (fun V => around_any a2 5 (show I64 a2 by have := bounds_i64 w2; unfold I64; omega) (by omega) (by omega) V)
  obtain ⟨m, hm⟩ : ∃ m, NW.msOf (NM.arI a1 100000) = m := ⟨_, rfl⟩
  rw [hm] at HGM
  obtain ⟨p, hp⟩ : ∃ p, around a2 5 = p := ⟨_, rfl⟩
  rw [hp] at HAR
  obtain ⟨nm, hnm⟩ : ∃ x : NM.Ms, (⟨m.c, m.h, m.t, m.i, p⟩ : NM.Ms) = x := ⟨_, rfl⟩
  have HNM := Lib.hid hnm
  clear w0 w1 w2 hs HL HTO hm hp hnm
  go_enter Try.func7, Try.ntmps7
  go_upto_region 3 with (first
    | (go_at_call 9; (with_reducible refine HS.out.mono ?_); rintro e v1 ⟨⟨B, r, rfl, hE⟩, hb⟩; have HE := Lib.hid hE; have HB := Lib.hid hb; clear hE hb)
    | (go_at_call 26; (with_reducible refine (HGM.out _).mono ?_); rintro e v2 ⟨rfl, hb⟩; replace HE := Lib.hid (HE.out.keep hb); replace HB := Lib.hid (HB.out.trans (hb.mono HB.out.size)); clear hb))
  obtain ⟨U2, hU⟩ : ∃ U, v2.alloc (.cells #[.int .i64 m.c, .int .i64 m.h, .int .i64 m.t, .int .i64 m.i, .int .i64 m.p] 26) = U := ⟨_, rfl⟩
  rw [hU]
  have H8 := Lib.hid (show MsB U2 v2.heap.size m from by rw [← hU]; exact new_at rfl)
  have hb : Below v2.heap.size v2 U2 := hU ▸ one_box _ _
  replace HE := Lib.hid (HE.out.keep hb)
  replace HB := Lib.hid (HB.out.trans (hb.mono HB.out.size))
  clear hb hU
  obtain ⟨p0, p1, p2, p3, p4⟩ := H8.out.cells
  have HFI := Lib.hid (find_any m U2 HE.out HO.out (by omega))
  obtain ⟨b, hbb⟩ : ∃ b, NW.has s m = b := ⟨_, rfl⟩
  obtain ⟨y, hy⟩ : ∃ y, (NW.find s m).getD NW.z0 = y := ⟨_, rfl⟩
  rw [hbb, hy] at HFI
  have HBY := Lib.hid (And.intro hbb hy)
  clear hbb hy
  go_upto_region 5 with (first
    | (go_at_call 18; (with_reducible refine (HAR.out _).mono ?_); rintro e v3_ ⟨rfl, rfl⟩)
    | (go_at_call 13; (with_reducible refine (HFI.out).mono ?_); rintro e v4 ⟨rfl, hb⟩; replace HE := Lib.hid (HE.out.keep hb); replace H8 := Lib.hid (H8.out.keep hb); replace HB := Lib.hid (HB.out.trans (hb.mono HB.out.size)); clear hb))
  clear p0 p1 p2 p3 p4
  have HVW := Lib.hid (show w.heap.size ≤ v4.heap.size from HB.out.size)
  obtain ⟨U4, hU⟩ : ∃ U, v4.alloc (.cells #[.int .i64 y.m.c, .int .i64 y.m.h, .int .i64 y.m.t, .int .i64 y.m.i, .int .i64 y.m.p, .int .i64 y.o, .int .i64 y.k, .int .i64 y.a, .int .i64 y.b] 28) = U := ⟨_, rfl⟩
  rw [hU]
  have H10 := Lib.hid (show EnB U4 v4.heap.size y from by rw [← hU]; exact new_at rfl)
  have hb : Below v4.heap.size v4 U4 := hU ▸ one_box _ _
  have HLE := Lib.hid (sl_lt HE.out)
  have L8 := Lib.hid H8.out.lt
  replace HE := Lib.hid (HE.out.keep hb)
  replace H8 := Lib.hid (H8.out.keep hb)
  replace HB := Lib.hid (HB.out.trans (hb.mono HB.out.size))
  clear hb hU
  obtain ⟨p0, p1, p2, p3, p4⟩ := H8.out.cells
  go_upto_region 7 with (fail)
  obtain ⟨U6, hU⟩ : ∃ U, U4.alloc (.cells #[.int .i64 m.c, .int .i64 m.h, .int .i64 m.t, .int .i64 m.i, .int .i64 p] 26) = U := ⟨_, rfl⟩
  rw [hU]
  have H12 := Lib.hid (show MsB U6 U4.heap.size nm from by rw [← hU, ← HNM.out]; exact new_at rfl)
  have hb : Below U4.heap.size U4 U6 := hU ▸ one_box _ _
  have L12 := Lib.hid H10.out.lt
  replace HE := Lib.hid (HE.out.keep hb)
  replace H8 := Lib.hid (H8.out.keep hb)
  replace H10 := Lib.hid (H10.out.keep hb)
  replace HB := Lib.hid (HB.out.trans (hb.mono HB.out.size))
  clear hb hU p0 p1 p2 p3 p4
  obtain ⟨q0, q1, q2, q3, q4⟩ := H12.out.cells
  obtain ⟨bn, hbn⟩ : ∃ b, NW.has s nm = b := ⟨_, rfl⟩
  obtain ⟨z, hz⟩ : ∃ y, (NW.find s nm).getD NW.z0 = y := ⟨_, rfl⟩
  have HFN := Lib.hid (find_any nm U6 HE.out HO.out (by omega))
  rw [hbn, hz] at HFN
  have HBN := Lib.hid hbn
  clear hbn hz
  go_upto_region 8 with ((go_at_call 13; (with_reducible refine (HFN.out).mono ?_); rintro e v7 ⟨rfl, hb⟩; replace HE := Lib.hid (HE.out.keep hb); replace H8 := Lib.hid (H8.out.keep hb); replace H10 := Lib.hid (H10.out.keep hb); replace H12 := Lib.hid (H12.out.keep hb); replace HB := Lib.hid (HB.out.trans (hb.mono HB.out.size)); clear hb))
  clear q0 q1 q2 q3 q4
  obtain ⟨U7, hU⟩ : ∃ U, v7.alloc (.cells #[.int .i64 z.m.c, .int .i64 z.m.h, .int .i64 z.m.t, .int .i64 z.m.i, .int .i64 z.m.p, .int .i64 z.o, .int .i64 z.k, .int .i64 z.a, .int .i64 z.b] 28) = U := ⟨_, rfl⟩
  rw [hU]
  have H13 := Lib.hid (show EnB U7 v7.heap.size z from by rw [← hU]; exact new_at rfl)
  have hb : Below v7.heap.size v7 U7 := hU ▸ one_box _ _
  replace HE := Lib.hid (HE.out.keep hb)
  replace H8 := Lib.hid (H8.out.keep hb)
  replace H10 := Lib.hid (H10.out.keep hb)
  replace H12 := Lib.hid (H12.out.keep hb)
  replace HB := Lib.hid (HB.out.trans (hb.mono HB.out.size))
  clear hb hU
  clear H13
  have HCP := Lib.hid (copy_any m p U7 HE.out HO.out (by omega))
  obtain ⟨T, hT⟩ : ∃ T, NW.copy s m p = T := ⟨_, rfl⟩
  rw [hT] at HCP
  have HT := Lib.hid hT
  have L10 := Lib.hid H10.out.lt
  clear hT
  obtain ⟨p0, p1, p2, p3, p4⟩ := H8.out.cells
  go_upto_region 9 with ((go_at_call 19; (with_reducible refine (HCP.out).mono ?_); rintro e v8 ⟨⟨B15, q15, c15, rfl, h_, hlo⟩, hb⟩; replace HE := Lib.hid (HE.out.keep hb); replace H8 := Lib.hid (H8.out.keep hb); replace H10 := Lib.hid (H10.out.keep hb); replace H12 := Lib.hid (H12.out.keep hb); replace HB := Lib.hid (HB.out.trans (hb.mono HB.out.size)); clear hb; have HN := Lib.hid h_; have HNL := Lib.hid hlo; clear h_ hlo))
  clear p0 p1 p2 p3 p4
  obtain ⟨tf, tm, tl⟩ := T
  simp only at *
  obtain ⟨U8, hU⟩ : ∃ U, v8.alloc (.cells #[.int .i64 tm.c, .int .i64 tm.h, .int .i64 tm.t, .int .i64 tm.i, .int .i64 tm.p] 26) = U := ⟨_, rfl⟩
  rw [hU]
  have H16 := Lib.hid (show MsB U8 v8.heap.size tm from by rw [← hU]; exact new_at rfl)
  have hb : Below v8.heap.size v8 U8 := hU ▸ one_box _ _
  have L16 := Lib.hid H10.out.lt
  replace HE := Lib.hid (HE.out.keep hb)
  replace H8 := Lib.hid (H8.out.keep hb)
  replace H10 := Lib.hid (H10.out.keep hb)
  replace H12 := Lib.hid (H12.out.keep hb)
  replace HN := Lib.hid (HN.out.keep hb)
  replace HB := Lib.hid (HB.out.trans (hb.mono HB.out.size))
  clear hb hU
  cases b with
  | false =>
    have hf := HBY.out.1
    have hT := HT.out
    rw [NW.copy_none (NW.find_none hf)] at hT
    obtain ⟨rfl, rfl, rfl⟩ : (3 : Int) = tf ∧ NM.m0 = tm ∧ [] = tl := by simpa using hT
    clear hf hT
    have he0 : q15 = 0 := by have := HN.out.len; simpa using this.symm
    have heq : ∀ V, (binOp .eql 26 (msV NM.m0) (msV NM.m0)).run Try.prog V = .ok (.bool true) V := fun V => by have := eqM_any NM.m0 NM.m0 V; rwa [decide_eq_true rfl] at this
    subst he0
    obtain ⟨r0, r1, r2, r3, r4⟩ := H16.out.cells
    go_wp2_with ((go_at_call 24; (with_reducible refine (lives_any _).mono ?_); rintro e v9 ⟨rfl, hb⟩; replace HB := Lib.hid (HB.out.trans (hb.mono HB.out.size)); clear hb))
    go_ret
    exact ⟨rfl, HB.out⟩
  | true =>
    obtain ⟨yy, hyy⟩ := NW.find_ex HBY.out.1
    obtain rfl : yy = y := by have := HBY.out.2; rw [hyy] at this; exact this
    have HFY := Lib.hid hyy
    have HYM := Lib.hid ((NW.find_some HO.out).1 hyy).2
    have HCS := Lib.hid (NW.copy_some hyy p)
    have HWN : Hid ((NW.withP yy p).m = nm) := Lib.hid (by rw [← HNM.out]; unfold NW.withP; rw [HYM.out])
    clear hyy
    cases bn with
    | true =>
      have hT := HT.out
      rw [HCS.out, if_pos (by rw [HWN.out]; exact HBN.out)] at hT
      obtain ⟨rfl, rfl, rfl⟩ : (4 : Int) = tf ∧ NM.m0 = tm ∧ [] = tl := by simpa using hT
      clear hT
      have he0 : q15 = 0 := by have := HN.out.len; simpa using this.symm
      have heq : ∀ V, (binOp .eql 26 (msV NM.m0) (msV NM.m0)).run Try.prog V = .ok (.bool true) V := fun V => by have := eqM_any NM.m0 NM.m0 V; rwa [decide_eq_true rfl] at this
      subst he0
      obtain ⟨r0, r1, r2, r3, r4⟩ := H16.out.cells
      go_wp2_with ((go_at_call 24; (with_reducible refine (lives_any _).mono ?_); rintro e v9 ⟨rfl, hb⟩; replace HB := Lib.hid (HB.out.trans (hb.mono HB.out.size)); clear hb))
      go_ret
      exact ⟨rfl, HB.out⟩
    | false =>
      have hnf : NW.has s (NW.withP yy p).m = false := by rw [HWN.out]; exact HBN.out
      have hT := HT.out
      rw [HCS.out, if_neg (by rw [hnf]; simp), HWN.out] at hT
      obtain ⟨rfl, rfl, htl⟩ : (0 : Int) = tf ∧ nm = tm ∧ NW.put s (NW.withP yy p) = tl := by simpa using hT
      have HFX : Hid (NW.find tl nm = some (NW.withP yy p)) := Lib.hid (by rw [← htl, ← HWN.out]; exact NW.find_put HO.out hnf)
      have HFM : Hid (NW.find tl m = some yy) := Lib.hid (by rw [← htl]; exact NW.find_put_other HO.out hnf HFY.out)
      have HOT : Hid (NW.Srt tl) := Lib.hid (htl ▸ NW.srt_put HO.out hnf)
      have HRT : Hid (NW.rem tl nm = s) := Lib.hid (by rw [← htl, ← HWN.out]; exact NW.undo_put HO.out hnf)
      have HPL : Hid (tl.length = s.length + 1) := Lib.hid (htl ▸ NW.put_len s _)
      have HH1 : Hid (NW.has tl nm = true) := Lib.hid (by rw [← NW.find_has, HFX.out]; rfl)
      have HH2 : Hid (NW.has tl m = true) := Lib.hid (by rw [← NW.find_has, HFM.out]; rfl)
      obtain ⟨x1, hx1⟩ : ∃ x, NW.withP yy p = x := ⟨_, rfl⟩
      rw [hx1] at HFX
      have HX1 := Lib.hid hx1
      clear hT htl hnf hx1
      have hql : q15 = tl.length := HN.out.len.symm
      subst hql
      have hl13 : tl.length ≤ 13 := by have := HPL.out; omega
      obtain ⟨q0, q1, q2, q3, q4⟩ := H12.out.cells
      have HF1 := Lib.hid (find_any nm U8 HN.out HOT.out (by omega))
      rw [HFX.out, HH1.out] at HF1
      go_upto_region 15 with ((go_at_call 13; (with_reducible refine (HF1.out).mono ?_); rintro e v14 ⟨rfl, hb⟩; replace HE := Lib.hid (HE.out.keep hb); replace H8 := Lib.hid (H8.out.keep hb); replace H10 := Lib.hid (H10.out.keep hb); replace H12 := Lib.hid (H12.out.keep hb); replace H16 := Lib.hid (H16.out.keep hb); replace HN := Lib.hid (HN.out.keep hb); replace HB := Lib.hid (HB.out.trans (hb.mono HB.out.size)); clear hb))
      clear q0 q1 q2 q3 q4
      obtain ⟨U14, hU⟩ : ∃ U, v14.alloc (.cells #[.int .i64 x1.m.c, .int .i64 x1.m.h, .int .i64 x1.m.t, .int .i64 x1.m.i, .int .i64 x1.m.p, .int .i64 x1.o, .int .i64 x1.k, .int .i64 x1.a, .int .i64 x1.b] 28) = U := ⟨_, rfl⟩
      rw [hU]
      have H19 := Lib.hid (show EnB U14 v14.heap.size x1 from by rw [← hU]; exact new_at rfl)
      have hb : Below v14.heap.size v14 U14 := hU ▸ one_box _ _
      have L19 := Lib.hid H10.out.lt
      replace HE := Lib.hid (HE.out.keep hb)
      replace H8 := Lib.hid (H8.out.keep hb)
      replace H10 := Lib.hid (H10.out.keep hb)
      replace H12 := Lib.hid (H12.out.keep hb)
      replace H16 := Lib.hid (H16.out.keep hb)
      replace HN := Lib.hid (HN.out.keep hb)
      replace HB := Lib.hid (HB.out.trans (hb.mono HB.out.size))
      clear hb hU
      obtain ⟨p0, p1, p2, p3, p4⟩ := H8.out.cells
      have HF2 := Lib.hid (find_any m U14 HN.out HOT.out (by omega))
      rw [HFM.out, HH2.out] at HF2
      go_upto_region 16 with ((go_at_call 13; (with_reducible refine (HF2.out).mono ?_); rintro e v15 ⟨rfl, hb⟩; replace HE := Lib.hid (HE.out.keep hb); replace H8 := Lib.hid (H8.out.keep hb); replace H10 := Lib.hid (H10.out.keep hb); replace H12 := Lib.hid (H12.out.keep hb); replace H16 := Lib.hid (H16.out.keep hb); replace H19 := Lib.hid (H19.out.keep hb); replace HN := Lib.hid (HN.out.keep hb); replace HB := Lib.hid (HB.out.trans (hb.mono HB.out.size)); clear hb))
      clear p0 p1 p2 p3 p4
      obtain ⟨U15, hU⟩ : ∃ U, v15.alloc (.cells #[.int .i64 yy.m.c, .int .i64 yy.m.h, .int .i64 yy.m.t, .int .i64 yy.m.i, .int .i64 yy.m.p, .int .i64 yy.o, .int .i64 yy.k, .int .i64 yy.a, .int .i64 yy.b] 28) = U := ⟨_, rfl⟩
      rw [hU]
      have H21 := Lib.hid (show EnB U15 v15.heap.size yy from by rw [← hU]; exact new_at rfl)
      have hb : Below v15.heap.size v15 U15 := hU ▸ one_box _ _
      have L21 := Lib.hid H10.out.lt
      replace HE := Lib.hid (HE.out.keep hb)
      replace H8 := Lib.hid (H8.out.keep hb)
      replace H10 := Lib.hid (H10.out.keep hb)
      replace H12 := Lib.hid (H12.out.keep hb)
      replace H16 := Lib.hid (H16.out.keep hb)
      replace H19 := Lib.hid (H19.out.keep hb)
      replace HN := Lib.hid (HN.out.keep hb)
      replace HB := Lib.hid (HB.out.trans (hb.mono HB.out.size))
      clear hb hU
      obtain ⟨q0, q1, q2, q3, q4⟩ := H12.out.cells
      have g8 := L8.out
      have g12 := L12.out
      have g10 := L10.out
      have g16 := L16.out
      have g19 := L19.out
      have g21 := L21.out
      go_upto_region 17 with (refine store_name rfl _ _ rfl v4.heap.size yy nm H10.out rfl rfl ?_; intro v17 hs1 hs2 hs4)
      clear q0 q1 q2 q3 q4
      have hx1 : (⟨nm, yy.o, yy.k, yy.a, yy.b⟩ : NW.En) = x1 := by rw [← HX1.out, ← HNM.out]; unfold NW.withP; rw [HYM.out]
      rw [hx1] at hs1
      have hle := HLE.out
      have hnl := HNL.out
      replace H10 := Lib.hid hs1
      replace H8 := Lib.hid (H8.out.other hs2 (by omega))
      replace H12 := Lib.hid (H12.out.other hs2 (by omega))
      replace H16 := Lib.hid (H16.out.other hs2 (by omega))
      replace H19 := Lib.hid (H19.out.other hs2 (by omega))
      replace H21 := Lib.hid (H21.out.other hs2 (by omega))
      have hsz : U15.heap.size ≤ v17.heap.size := hs4.size
      replace HE := Lib.hid (ens_other HE.out hs2 hsz (fun b e => by have := hle b e; omega))
      replace HN := Lib.hid (ens_other HN.out hs2 hsz (fun b e => by have := hnl b e; omega))
      have hvw : w.heap.size ≤ v4.heap.size := HVW.out
      replace HB := Lib.hid (HB.out.trans (hs4.mono hvw))
      clear hs1 hs2 hs4 hx1 hle hnl hsz hvw g8 g12 g10 g16 g19 g21
      obtain ⟨a10, a11, a12, a13, a14⟩ := H16.out.cells
      obtain ⟨b10, b11, b12, b13, b14⟩ := H12.out.cells
      obtain ⟨c10, c11, c12, c13, c14, c15_, c16, c17, c18⟩ := H19.out.cells
      obtain ⟨d10, d11, d12, d13, d14, d15, d16, d17, d18⟩ := H10.out.cells
      obtain ⟨e10, e11, e12, e13, e14, e15, e16, e17, e18⟩ := H21.out.cells
      obtain ⟨f10, f11, f12, f13, f14⟩ := H8.out.cells
      have heq1 : ∀ V, (binOp .eql 26 (msV nm) (msV nm)).run Try.prog V = .ok (.bool true) V := fun V => by have := eqM_any nm nm V; rwa [decide_eq_true rfl] at this
      have heq2 : ∀ V, (binOp .eql 28 (enV x1) (enV x1)).run Try.prog V = .ok (.bool true) V := fun V => by have := eqEn_any x1 x1 V; rwa [decide_eq_true rfl] at this
      have heq3 : ∀ V, (binOp .eql 26 (msV yy.m) (msV m)).run Try.prog V = .ok (.bool true) V := fun V => by have := eqM_any yy.m m V; rwa [decide_eq_true HYM.out] at this
      have e1 : (((tl.length : Nat) : Int) == ((s.length : Nat) : Int) + 1) = true := by have := HPL.out; simp; omega
      go_wp2_with (first
        | (go_at_call 16; (with_reducible refine (remove_any nm _ HN.out HOT.out (by omega)).mono ?_); rintro e v18 ⟨⟨B1, c1, rfl, h_⟩, hb⟩; replace HE := Lib.hid (HE.out.keep hb); replace HB := Lib.hid (HB.out.trans (hb.mono HB.out.size)); clear hb; have HR1 := Lib.hid h_; clear h_; rw [HRT.out] at HR1 ⊢)
        | (go_at_call 15; (with_reducible refine (sameEn_true _ HR1.out HE.out (by omega)).mono ?_); rintro e v19 ⟨rfl, hb⟩; replace HB := Lib.hid (HB.out.trans (hb.mono HB.out.size)); clear hb)
        | (go_at_call 24; (with_reducible refine (lives_any _).mono ?_); rintro e v20 ⟨rfl, hb⟩; replace HB := Lib.hid (HB.out.trans (hb.mono HB.out.size)); clear hb))
      go_ret
      exact ⟨rfl, HB.out⟩
end Go.Proofs.Ytepbppckhfiplaa.LawNetworkCopies
