/-
  The walk of the law TypesDeclared. No condition beyond the arguments' readings.
-/
import Derived.Test.YtofeidacffabdaaTyDl
import Derived.Test.YtofeidacffabdaaTyLv
import Derived.Deep.RegionHeld3
import Derived.Deep.CutRange
namespace Go.Proofs.Ytofeidacffabdaa.LawTypesDeclared
open Go Go.RowKit Go.Proofs Go.Shelf
attribute [local go_sem] Oper.semAt_some

set_option maxRecDepth 100000 in
set_option maxHeartbeats 8000000 in
theorem walk (a0 : Option Addr) (len0 cap0 : Nat) (z0 : List Int) (a1 : Int) (w : World) (w0 : Row .i64 w a0 len0 cap0 z0) (w1 : (Lit.int .i64 a1).wf = true) :
    Calls Try.prog 10 #[.slice a0 len0 cap0, .int .i64 a1] w fun e w' => e = .returned (.bool true) ∧ Below w.heap.size w w' := by
  have hb1 := bounds_i64 w1
  obtain ⟨_, _, _, hwf0⟩ := w0.ints
  have HX := Lib.hid (Unit_any a0 len0 cap0 _ w w0.slc (i64_of hwf0))
  have hdl : (unitT (z0.take len0)).dur.length ≤ 10 := varsN_len _ _ 10
  have hnz : ∀ x ∈ (unitT (z0.take len0)).on, TY.NZ x.2 := TY.unit_nz _
  have hocc : ∀ x ∈ (unitT (z0.take len0)).on, (TY.occ x.2).length ≤ 6000 := TY.unit_oc _
  obtain ⟨u, hu⟩ : ∃ u, unitT (z0.take len0) = u := ⟨_, rfl⟩
  rw [hu] at HX hnz hocc hdl
  have NMY := Lib.hid (fun V => Name_any a1 ⟨by omega, by omega⟩ V)
  obtain ⟨s, hs⟩ : ∃ s, TY.vName (around a1 10).toNat = s := ⟨_, rfl⟩
  rw [hs] at NMY
  have HCM := Lib.hid (TY.chk_more hnz)
  have HOC := Lib.hid hocc
  clear hu w0 hwf0 hs hnz hocc w1 hb1
  go_enter Try.func10, Try.ntmps10
  go_wp2_with fail
  refine HX.out.mono ?_
  clear HX
  rintro r w1 ⟨v, rfl, hv, hb1⟩
  obtain ⟨Ad, md, cd, Av, mv, cv, A, m, c, rfl, hd, hvl, hm, l1, l2, l3, l4, l5, l6, l7, l8, l9, s1, s2, s3⟩ := hv.shape
  have hs1 := hb1.size
  obtain ⟨W2, h2⟩ : ∃ U, w1.alloc (.cells #[.slice Ad md cd, .slice Av mv cv, .slice A m c] 35) = U := ⟨_, rfl⟩
  have z2 : W2.heap.size = w1.heap.size + 1 := by rw [← h2, World.size_alloc]
  have b2 : Below w1.heap.size w1 W2 := by rw [← h2]; exact (Below.refl _ _).alloc (Nat.le_refl _) _
  have e2 : W2.heap[w1.heap.size]? = some (.cells #[.slice Ad md cd, .slice Av mv cv, .slice A m c] 35 (0, 0)) := by rw [← h2]; exact World.alloc_heap_new w1 _
  have HS1 := Lib.hid (s1.below b2)
  have HS2 := Lib.hid (s2.below b2)
  have HS3 := Lib.hid (s3.below b2)
  have HV := Lib.hid hv
  have HB2 := Lib.hid b2
  have HBW := Lib.hid (hb1.trans (b2.mono hs1))
  have H2 := Lib.hid h2
  have HD := Lib.hid hd
  rw [hd] at hdl
  have HVL := Lib.hid hvl
  have HM := Lib.hid hm
  obtain ⟨fa0, fa1, fa2⟩ : W2.cell? ⟨w1.heap.size, 0, none⟩ = some (.slice Ad md cd) ∧ W2.cell? ⟨w1.heap.size, 1, none⟩ = some (.slice Av mv cv) ∧ W2.cell? ⟨w1.heap.size, 2, none⟩ = some (.slice A m c) := ⟨cell_of_row W2 _ 0 _ _ (0, 0) e2, cell_of_row W2 _ 1 _ _ (0, 0) e2, cell_of_row W2 _ 2 _ _ (0, 0) e2⟩
  have lt2 : w1.heap.size < W2.heap.size := by omega
  obtain ⟨i0, hi0, hz0, hz1, hz2⟩ := info_parts info_str
  have HZ := Lib.hid (And.intro hi0 (And.intro hz0 (And.intro hz1 hz2)))
  clear hv hb1 hs1 h2 z2 b2 e2 s1 s2 s3 hd hvl hm hi0 hz0 hz1 hz2
  go_wp2_with (first
    | (rw [H2.out]; go_at_call 25; refine (NMY.out _).mono ?_; clear NMY; rintro e w3 ⟨rfl, hw3⟩; have hw3 := hw3.symm; subst hw3))
  go_cut [7] from 13 (fun s7 V => ∃ g7 A7 c7, s7 = .pointer (some ⟨g7, 0, none⟩) ∧ UF W2 V g7 (.slice A7 (1 + md) c7) (.slice Av mv cv) (.slice A m c) ∧ Stn V.heap.size V A7 c7 (TY.zz :: u.dur))
  case first =>
    have HK := Lib.hid (fun (V : World) (hV : Below W2.heap.size W2 V) => (show V.cell? ⟨w1.heap.size, 0, none⟩ = some (.slice Ad md cd) ∧ V.cell? ⟨w1.heap.size, 1, none⟩ = some (.slice Av mv cv) ∧ V.cell? ⟨w1.heap.size, 2, none⟩ = some (.slice A m c) from ⟨(hV.cell (p := ⟨w1.heap.size, 0, none⟩) lt2).trans fa0, (hV.cell (p := ⟨w1.heap.size, 1, none⟩) lt2).trans fa1, (hV.cell (p := ⟨w1.heap.size, 2, none⟩) lt2).trans fa2⟩))
    have q1 : Below W2.heap.size W2 (((W2.alloc uz).alloc (.cells #[.string TY.zz] 9)).drew) := (lay_below [uz, .cells #[.string TY.zz] 9] W2).drew
    have q2 : Below W2.heap.size W2 (((W2.alloc (.cells #[.string TY.zz] 9)).alloc uz).drew) := (lay_below [.cells #[.string TY.zz] 9, uz] W2).drew
    have q3 : Below W2.heap.size W2 ((W2.alloc (.cells #[.string TY.zz] 9)).drew) := (lay_below [.cells #[.string TY.zz] 9] W2).drew
    have r1 : ZU (((W2.alloc uz).alloc (.cells #[.string TY.zz] 9)).drew) W2.heap.size := lay_at [uz, .cells #[.string TY.zz] 9] W2 0 rfl
    have r2 : ZU (((W2.alloc (.cells #[.string TY.zz] 9)).alloc uz).drew) (W2.heap.size + 1) := lay_at [.cells #[.string TY.zz] 9, uz] W2 1 rfl
    have s1 : (((W2.alloc uz).alloc (.cells #[.string TY.zz] 9)).drew).heap[W2.heap.size + 1]? = some (.cells #[.string TY.zz] 9 (0, 0)) := lay_at [uz, .cells #[.string TY.zz] 9] W2 1 rfl
    have s2 : (((W2.alloc (.cells #[.string TY.zz] 9)).alloc uz).drew).heap[W2.heap.size]? = some (.cells #[.string TY.zz] 9 (0, 0)) := lay_at [.cells #[.string TY.zz] 9, uz] W2 0 rfl
    have s3 : ((W2.alloc (.cells #[.string TY.zz] 9)).drew).heap[W2.heap.size]? = some (.cells #[.string TY.zz] 9 (0, 0)) := lay_at [.cells #[.string TY.zz] 9] W2 0 rfl
    have B6 : Below W2.heap.size W2 W2 := Below.refl _ _
    have Q1 := Lib.hid q1
    have Q2 := Lib.hid q2
    have Q3 := Lib.hid q3
    have R1 := Lib.hid r1
    have R2 := Lib.hid r2
    have O1 := Lib.hid (own_at1 (Nat.le_add_right _ 1) s1)
    have O2 := Lib.hid (own_at1 (Nat.le_refl _) s2)
    have O3 := Lib.hid (own_at1 (Nat.le_refl _) s3)
    rcases HS1.out with ⟨h1, h2, ⟨rfl, rfl⟩ | ⟨b, o, rfl, hb, hc⟩⟩
    · obtain hdn : u.dur = [] := List.eq_nil_of_length_eq_zero (by omega)
      obtain rfl : md = 0 := by have := HD.out; rw [hdn] at this; exact this.symm
      clear q1 q2 q3 r1 r2 s1 s2 s3 h1 h2
      go_region_held3 (fun V => V.cell? ⟨w1.heap.size, 0, none⟩ = some (.slice none 0 0) ∧ V.cell? ⟨w1.heap.size, 1, none⟩ = some (.slice Av mv cv) ∧ V.cell? ⟨w1.heap.size, 2, none⟩ = some (.slice A m c))
        (first | exact HK.out _ (by repeat (first | with_reducible exact Below.refl _ _ | with_reducible refine Below.drew ?_ | with_reducible refine Below.alloc ?_ (by first | exact Nat.le_refl _ | (simp; done) | (simp; omega)) _ | with_reducible refine Below.setCell ?_ (by first | exact Nat.le_refl _ | (simp; done) | (simp; omega)) _)))
        (first | fail)
      all_goals
        first
          | (obtain ⟨U, hU⟩ : ∃ U, ((W2.alloc (.cells #[.string TY.zz] 9)).alloc (.cells #[.slice (some ⟨W2.heap.size, 0, none⟩) 1 1, .slice Av mv cv, .slice A m c] 35)).drew = U := ⟨_, rfl⟩
             rw [hU]
             obtain ⟨k1, k2⟩ := dl_a W2 TY.zz _ _ _ hU
             clear hU)
          | (obtain ⟨U, hU⟩ : ∃ U, ((W2.alloc (.cells #[.slice (some ⟨W2.heap.size + 1, 0, none⟩) 1 1, .slice Av mv cv, .slice A m c] 35)).alloc (.cells #[.string TY.zz] 9)).drew = U := ⟨_, rfl⟩
             rw [hU]
             obtain ⟨k1, k2⟩ := dl_b W2 TY.zz _ _ _ hU
             clear hU)
        go_wp2_with fail
        go_meet
        exact ⟨_, _, _, rfl, k1, by rw [hdn]; exact k2⟩
    · have hlz : (TY.zz :: u.dur).length = 1 + md := by rw [List.length_cons, HD.out, Nat.add_comm]
      have NW := Lib.hid (fun (V : World) (hV : Below W2.heap.size W2 V) => news_stn (V := V) HS1.out (hV.mono (Nat.le_of_lt lt2)))
      by_cases hm0 : 0 < md
      · clear q1 q2 q3 r1 r2 s1 s2 s3 h1 h2
        go_region_held_law (fun V => V.cell? ⟨w1.heap.size, 0, none⟩ = some (.slice (some ⟨b, o, none⟩) md cd) ∧ V.cell? ⟨w1.heap.size, 1, none⟩ = some (.slice Av mv cv) ∧ V.cell? ⟨w1.heap.size, 2, none⟩ = some (.slice A m c))
          (first | exact HK.out _ (by repeat (first | with_reducible exact Below.refl _ _ | with_reducible exact B6 | with_reducible refine Below.drew ?_ | with_reducible refine Below.alloc ?_ (by first | exact Nat.le_refl _ | exact B6.size | (simp; done) | (simp; omega)) _ | with_reducible refine Below.setCell ?_ (by first | exact Nat.le_refl _ | exact Nat.le_add_right _ 1 | (simp; done) | (simp; omega)) _)))
          (first
            | (refine step_append_lies _ rfl (.tmp 17) (.tmp 19) 32 rfl W2.heap.size 9 i0 _ 1 16 Try.underlying32 HZ.out.1 HZ.out.2.1 HZ.out.2.2.1 HZ.out.2.2.2 rfl (by decide) _ 1 [.string TY.zz] (by simp [Act.eval]; rfl) (by first | with_reducible exact O1.out | with_reducible exact O2.out | with_reducible exact O3.out) ⟨b, o, none⟩ md cd (u.dur.map Value.string) (by simp [Act.eval]) (by rw [List.length_map, HD.out, Nat.mul_one]) (by first | with_reducible exact NW.out _ Q1.out | with_reducible exact NW.out _ Q2.out | with_reducible exact NW.out _ Q3.out) (one_cells _) hm0 (by simp only [maxLen]; omega) (by omega) (by first | with_reducible exact Q1.out.size | with_reducible exact Q2.out.size | with_reducible exact Q3.out.size) _ rfl ?_
               intro g6 c6 w6 hown6 hgrow6 hat6 hlt6
               (first
                 | (have B6 : Below W2.heap.size W2 w6 := (by with_reducible exact dl_below Q1.out hgrow6 (Nat.le_add_right _ 1)); have ZT : ZU w6 W2.heap.size := (by with_reducible exact dl_zu R1.out hgrow6 (by omega)); obtain ⟨zc0, zc1, zc2, zf0, zf1, zf2⟩ := ZT.cells)
                 | (have B6 : Below W2.heap.size W2 w6 := (by with_reducible exact dl_below Q2.out hgrow6 (Nat.le_refl _)); have ZT : ZU w6 (W2.heap.size + 1) := (by with_reducible exact dl_zu R2.out hgrow6 (by omega)); obtain ⟨zc0, zc1, zc2, zf0, zf1, zf2⟩ := ZT.cells)
                 | (have B6 : Below W2.heap.size W2 w6 := (by with_reducible exact dl_below Q3.out hgrow6 (Nat.le_refl _))))
               clear hgrow6))
        all_goals
          first
            | (obtain ⟨U, hU⟩ : ∃ U, w6.alloc (.cells #[.slice (some ⟨g6, 0, none⟩) (1 + md) c6, .slice Av mv cv, .slice A m c] 35) = U := ⟨_, rfl⟩
               rw [hU]
               obtain ⟨k1, k2⟩ := dl_new (l := TY.zz :: u.dur) B6 hown6 hlz _ _ _ hU
               clear hU)
            | (obtain ⟨U, hU⟩ : ∃ U, ((w6.setCell ⟨W2.heap.size, 0, none⟩ (.slice (some ⟨g6, 0, none⟩) (1 + md) c6)).setCell ⟨W2.heap.size, 1, none⟩ (.slice Av mv cv)).setCell ⟨W2.heap.size, 2, none⟩ (.slice A m c) = U := ⟨_, rfl⟩
               rw [hU]
               obtain ⟨k1, k2⟩ := dl_set (l := TY.zz :: u.dur) B6 hown6 hlz ZT (Nat.le_refl _) _ _ _ hU
               clear hU)
            | (obtain ⟨U, hU⟩ : ∃ U, ((w6.setCell ⟨W2.heap.size + 1, 0, none⟩ (.slice (some ⟨g6, 0, none⟩) (1 + md) c6)).setCell ⟨W2.heap.size + 1, 1, none⟩ (.slice Av mv cv)).setCell ⟨W2.heap.size + 1, 2, none⟩ (.slice A m c) = U := ⟨_, rfl⟩
               rw [hU]
               obtain ⟨k1, k2⟩ := dl_set (l := TY.zz :: u.dur) B6 hown6 hlz ZT (Nat.le_add_right _ 1) _ _ _ hU
               clear hU)
          go_wp2_with fail
          go_meet
          exact ⟨_, _, _, rfl, k1, k2⟩
      · obtain rfl : md = 0 := by omega
        have hdn : u.dur = [] := List.eq_nil_of_length_eq_zero HD.out
        clear q1 q2 q3 r1 r2 s1 s2 s3 h1 h2
        go_region_held3 (fun V => V.cell? ⟨w1.heap.size, 0, none⟩ = some (.slice (some ⟨b, o, none⟩) 0 cd) ∧ V.cell? ⟨w1.heap.size, 1, none⟩ = some (.slice Av mv cv) ∧ V.cell? ⟨w1.heap.size, 2, none⟩ = some (.slice A m c))
          (first | exact HK.out _ (by repeat (first | with_reducible exact Below.refl _ _ | with_reducible refine Below.drew ?_ | with_reducible refine Below.alloc ?_ (by first | exact Nat.le_refl _ | (simp; done) | (simp; omega)) _ | with_reducible refine Below.setCell ?_ (by first | exact Nat.le_refl _ | (simp; done) | (simp; omega)) _)))
          (first | fail)
        all_goals
          first
            | (obtain ⟨U, hU⟩ : ∃ U, ((W2.alloc (.cells #[.string TY.zz] 9)).alloc (.cells #[.slice (some ⟨W2.heap.size, 0, none⟩) 1 1, .slice Av mv cv, .slice A m c] 35)).drew = U := ⟨_, rfl⟩
               rw [hU]
               obtain ⟨k1, k2⟩ := dl_a W2 TY.zz _ _ _ hU
               clear hU)
            | (obtain ⟨U, hU⟩ : ∃ U, ((W2.alloc (.cells #[.slice (some ⟨W2.heap.size + 1, 0, none⟩) 1 1, .slice Av mv cv, .slice A m c] 35)).alloc (.cells #[.string TY.zz] 9)).drew = U := ⟨_, rfl⟩
               rw [hU]
               obtain ⟨k1, k2⟩ := dl_b W2 TY.zz _ _ _ hU
               clear hU)
          go_wp2_with fail
          go_meet
          exact ⟨_, _, _, rfl, k1, by rw [hdn]; exact k2⟩
  case rest =>
    obtain ⟨g7, A7, c7, rfl, hUF, hst7⟩ := hcut
    have HBc := Lib.hid hUF.2
    have HU7 := Lib.hid hUF.1
    have HS7 := Lib.hid hst7
    have hsc := hUF.2.size
    have hg7 := heap_lt hUF.1
    have WD := Lib.hid (fun (V : World) (hV : Below W2.heap.size W2 V) => without_any V w1.heap.size Ad cd md u.dur s (HS1.out.below (hV.mono (Nat.le_of_lt lt2))) HD.out (by omega) (by have := hV.size; omega))
    have WV := Lib.hid (fun (V : World) (hV : Below W2.heap.size W2 V) => without_any V w1.heap.size Av cv mv u.vol s (HS2.out.below (hV.mono (Nat.le_of_lt lt2))) HVL.out (by omega) (by have := hV.size; omega))
    have HK := Lib.hid (fun (V : World) (hV : Below W2.heap.size W2 V) => (show V.cell? ⟨w1.heap.size, 0, none⟩ = some (.slice Ad md cd) ∧ V.cell? ⟨w1.heap.size, 1, none⟩ = some (.slice Av mv cv) ∧ V.cell? ⟨w1.heap.size, 2, none⟩ = some (.slice A m c) from ⟨(hV.cell (p := ⟨w1.heap.size, 0, none⟩) lt2).trans fa0, (hV.cell (p := ⟨w1.heap.size, 1, none⟩) lt2).trans fa1, (hV.cell (p := ⟨w1.heap.size, 2, none⟩) lt2).trans fa2⟩))
    clear hUF hst7
    go_wp2_with fail
    obtain ⟨Wc, hWc⟩ : ∃ Z, Z = wc := ⟨_, rfl⟩
    subst hWc
    go_cut [8] from 13 (fun s8 V => ∃ g8 A8 n8 c8 A9 n9 c9, s8 = .pointer (some ⟨g8, 0, none⟩) ∧ UF Wc V g8 (.slice A8 n8 c8) (.slice A9 n9 c9) (.slice A m c) ∧ (TY.less u.dur s).length = n8 ∧ (TY.less u.vol s).length = n9 ∧ Stn V.heap.size V A8 c8 (TY.less u.dur s) ∧ Stn V.heap.size V A9 c9 (TY.less u.vol s))
    case first =>
      have B6 : Below Wc.heap.size Wc Wc := Below.refl _ _
      go_region_held3 (fun V => V.cell? ⟨w1.heap.size, 0, none⟩ = some (.slice Ad md cd) ∧ V.cell? ⟨w1.heap.size, 1, none⟩ = some (.slice Av mv cv) ∧ V.cell? ⟨w1.heap.size, 2, none⟩ = some (.slice A m c))
        (first | exact HK.out _ (HBc.out.trans (by repeat (first | with_reducible exact Below.refl _ _ | with_reducible exact B6.mono hsc | with_reducible refine Below.drew ?_ | with_reducible refine Below.alloc ?_ (by first | exact hsc | exact Nat.le_trans hsc B6.size | (simp; omega)) _ | with_reducible refine Below.setCell ?_ (by first | exact hsc | exact Nat.le_trans hsc B5.size | (simp; omega)) _))))
        (first
          | (go_at_call 27; ((with_reducible refine (WD.out _ ?_).mono ?_); focus (first | exact HBc.out | exact HBc.out.drew | exact (HBc.out.alloc hsc _) | exact (HBc.out.alloc hsc _).drew)); rintro e5 w5 ⟨A8, c8, n8, rfl, hn8, hs8, hb⟩
             (first
               | (have B5 : Below Wc.heap.size Wc w5 := (by first | exact hb | exact (Below.refl Wc.heap.size Wc).drew.trans hb))
               | (have hbz : Below (Wc.heap.size + 1) (Wc.alloc uz) w5 := (by rw [← World.size_alloc Wc uz]; first | exact hb | exact (Below.refl _ _).drew.trans hb); have B5 : Below Wc.heap.size Wc w5 := ((Below.refl Wc.heap.size Wc).alloc (Nat.le_refl _) _).trans (hbz.mono (by omega)); have ZT : ZU w5 Wc.heap.size := ZU.below (ZU.new Wc) hbz (by omega)))
             have B6 := B5
             clear hb WD)
          | (go_at_call 27; ((with_reducible refine (WV.out _ ?_).mono ?_); focus (first | exact (HBc.out.trans (B5.mono hsc)) | exact ((HBc.out.trans (B5.mono hsc)).alloc (Nat.le_trans hsc B5.size) _))); rintro e6 w6 ⟨A9, c9, n9, rfl, hn9, hs9, hb⟩
             (first
               | (have hb6 : Below w5.heap.size w5 w6 := hb)
               | (have hbz : Below (w5.heap.size + 1) (w5.alloc uz) w6 := (by rw [← World.size_alloc w5 uz]; exact hb); have hb6 : Below w5.heap.size w5 w6 := ((Below.refl w5.heap.size w5).alloc (Nat.le_refl _) _).trans (hbz.mono (by omega)); have ZT : ZU w6 w5.heap.size := ZU.below (ZU.new w5) hbz (by omega)))
             (try (have ZT := ZT.call hb6))
             (try (obtain ⟨zc0, zc1, zc2, zf0, zf1, zf2⟩ := ZT.cells))
             have B6 := B5.trans (hb6.mono B5.size)
             have hs8' := hs8.up hb6 hb6.size
             clear hb hb6 WV))
      all_goals
        first
          | (obtain ⟨U, hU⟩ : ∃ U, w6.alloc (.cells #[.slice A8 n8 c8, .slice A9 n9 c9, .slice A m c] 35) = U := ⟨_, rfl⟩
             rw [hU]
             have k1 : UF Wc U w6.heap.size (.slice A8 n8 c8) (.slice A9 n9 c9) (.slice A m c) := hU ▸ UF.new B6 _ _ _
             have k2 : Stn U.heap.size U A8 c8 (TY.less u.dur s) := hU ▸ hs8'.up ((Below.refl _ _).alloc (Nat.le_refl _) _) (by rw [World.size_alloc]; omega)
             have k3 : Stn U.heap.size U A9 c9 (TY.less u.vol s) := hU ▸ hs9.up ((Below.refl _ _).alloc (Nat.le_refl _) _) (by rw [World.size_alloc]; omega)
             clear hU)
          | (obtain ⟨U, hU⟩ : ∃ U, ((w6.setCell ⟨Wc.heap.size, 0, none⟩ (.slice A8 n8 c8)).setCell ⟨Wc.heap.size, 1, none⟩ (.slice A9 n9 c9)).setCell ⟨Wc.heap.size, 2, none⟩ (.slice A m c) = U := ⟨_, rfl⟩
             rw [hU]
             have hUs : U.heap.size = w6.heap.size := by rw [← hU]; simp [World.setCell]
             have k1 : UF Wc U Wc.heap.size (.slice A8 n8 c8) (.slice A9 n9 c9) (.slice A m c) := hU ▸ UF.set B6 ZT (Nat.le_refl _) _ _ _
             have k2 : Stn U.heap.size U A8 c8 (TY.less u.dur s) := by rw [hUs, ← hU]; exact hs8'.set3 ZT _ _ _
             have k3 : Stn U.heap.size U A9 c9 (TY.less u.vol s) := by rw [hUs, ← hU]; exact hs9.set3 ZT _ _ _
             clear hU hUs)
          | (obtain ⟨U, hU⟩ : ∃ U, ((w6.setCell ⟨w5.heap.size, 0, none⟩ (.slice A8 n8 c8)).setCell ⟨w5.heap.size, 1, none⟩ (.slice A9 n9 c9)).setCell ⟨w5.heap.size, 2, none⟩ (.slice A m c) = U := ⟨_, rfl⟩
             rw [hU]
             have hUs : U.heap.size = w6.heap.size := by rw [← hU]; simp [World.setCell]
             have k1 : UF Wc U w5.heap.size (.slice A8 n8 c8) (.slice A9 n9 c9) (.slice A m c) := hU ▸ UF.set B6 ZT B5.size _ _ _
             have k2 : Stn U.heap.size U A8 c8 (TY.less u.dur s) := by rw [hUs, ← hU]; exact hs8'.set3 ZT _ _ _
             have k3 : Stn U.heap.size U A9 c9 (TY.less u.vol s) := by rw [hUs, ← hU]; exact hs9.set3 ZT _ _ _
             clear hU hUs)
        go_wp2_with fail
        go_meet
        exact ⟨_, A8, n8, c8, A9, n9, c9, rfl, k1, hn8, hn9, k2, k3⟩
    case rest =>
      obtain ⟨g8, A8, n8, c8, A9, n9, c9, rfl, hUF, hl8, hl9, hst8, hst9⟩ := hcut
      have hs8 := hUF.2.size
      have hbD : Below W2.heap.size W2 wc := HBc.out.trans (hUF.2.mono hsc)
      have hvm : UnV Wc u.more (.agg #[.slice A7 (1 + md) c7, .slice Av mv cv, .slice A m c]) := ⟨A7, c7, Av, cv, A, c, by
          show _ = Value.agg #[.slice A7 (TY.zz :: u.dur).length c7, .slice Av u.vol.length cv, .slice A u.on.length c]
          rw [List.length_cons, HD.out, HVL.out, HM.out, Nat.add_comm 1 md], HS7.out, (HS2.out.up (HBc.out.mono (Nat.le_of_lt lt2)) (by omega)), (fun i x hx => by
            obtain ⟨b, off, k, n, s, A', mk, ck, e, hlt, c0, c1, c2, c3, c4, hn⟩ := (HS3.out.below (HBc.out.mono (Nat.le_of_lt lt2))) i x hx
            exact ⟨b, off, k, n, s, A', mk, ck, e, by omega, c0, c1, c2, c3, c4, hn.under (Below.refl _ _) (by omega)⟩), by show u.on.length ≤ c; have := HM.out; omega, by omega, by show (TY.zz :: u.dur).length ≤ 20; rw [List.length_cons, HD.out]; omega, by show u.vol.length ≤ 20; rw [HVL.out]; omega, by show u.on.length ≤ 4; rw [HM.out]; omega⟩
      have hvf : UnV wc (u.fewer s) (.agg #[.slice A8 n8 c8, .slice A9 n9 c9, .slice A m c]) := ⟨A8, c8, A9, c9, A, c, by
          show _ = Value.agg #[.slice A8 (TY.less u.dur s).length c8, .slice A9 (TY.less u.vol s).length c9, .slice A u.on.length c]
          rw [hl8, hl9, HM.out], hst8, hst9, (fun i x hx => by
            obtain ⟨b, off, k, n, s, A', mk, ck, e, hlt, c0, c1, c2, c3, c4, hn⟩ := (HS3.out.below (hbD.mono (Nat.le_of_lt lt2))) i x hx
            exact ⟨b, off, k, n, s, A', mk, ck, e, by omega, c0, c1, c2, c3, c4, hn.under (Below.refl _ _) (by omega)⟩), by show u.on.length ≤ c; have := HM.out; omega, by omega, by show (TY.less u.dur s).length ≤ 20; have := less_len u.dur s u.dur.length; rw [List.take_length] at this; have := HD.out; omega, by show (TY.less u.vol s).length ≤ 20; have := less_len u.vol s u.vol.length; rw [List.take_length] at this; have := HVL.out; omega, by show u.on.length ≤ 4; rw [HM.out]; omega⟩
      have CKM := Lib.hid (fun (V : World) (hV : Below wc.heap.size wc V) => HCM.out ▸ hvm.check (hUF.2.trans (hV.mono hs8)))
      have CKF := Lib.hid (fun (V : World) (hV : Below wc.heap.size wc V) => hvf.check hV)
      have CKU := Lib.hid (fun (V : World) (hV : Below wc.heap.size wc V) => HV.out.check (HB2.out.trans ((hbD.trans (hV.mono hbD.size)).mono HB2.out.size)))
      have LV := Lib.hid (fun (V : World) (_ : Below wc.heap.size wc V) => lives_any V)
      obtain ⟨m0, m1, m2⟩ : wc.cell? ⟨g7, 0, none⟩ = some (.slice A7 (1 + md) c7) ∧ wc.cell? ⟨g7, 1, none⟩ = some (.slice Av mv cv) ∧ wc.cell? ⟨g7, 2, none⟩ = some (.slice A m c) := by
        have h := (hUF.2.block g7 hg7).trans HU7.out
        exact ⟨cell_of_row wc _ 0 _ _ (0, 0) h, cell_of_row wc _ 1 _ _ (0, 0) h, cell_of_row wc _ 2 _ _ (0, 0) h⟩
      obtain ⟨f0, f1, f2⟩ : wc.cell? ⟨g8, 0, none⟩ = some (.slice A8 n8 c8) ∧ wc.cell? ⟨g8, 1, none⟩ = some (.slice A9 n9 c9) ∧ wc.cell? ⟨g8, 2, none⟩ = some (.slice A m c) := ⟨cell_of_row wc _ 0 _ _ (0, 0) hUF.1, cell_of_row wc _ 1 _ _ (0, 0) hUF.1, cell_of_row wc _ 2 _ _ (0, 0) hUF.1⟩
      obtain ⟨v0, v1, v2⟩ := HK.out wc hbD
      have lg7 : g7 < wc.heap.size := by omega
      have lg8 := heap_lt hUF.1
      have lgu : w1.heap.size < wc.heap.size := by have := hbD.size; omega
      have HBD := Lib.hid hbD
      have HBWD := Lib.hid (HBW.out.trans (hbD.mono HBW.out.size))
      have HS3' := Lib.hid (HS3.out.below (hbD.mono (Nat.le_of_lt lt2)))
      have hlw : w1.heap.size ≤ wc.heap.size := Nat.le_of_lt lgu
      obtain ⟨q, hq⟩ : ∃ q, TY.chk u = q := ⟨_, rfl⟩
      rw [hq] at CKM CKU
      have HQ := Lib.hid hq
      clear hUF hl8 hl9 hst8 hst9 hbD hvm hvf HU7 HS7 HK WD WV HBc HS1 HS2 HS3 HV HB2 HBW HCM hq fa0 fa1 fa2
      go_wp2_with fail
      go_loopw [9, 10] (fun z i V => ∃ (j p c5 : Nat) (A5 : Option Addr), j ≤ m ∧ i = .int .i64 (j : Int) ∧ z = .slice A5 p c5 ∧ Hid ((usedJ u.on j).length = p) ∧ Hid (Stn V.heap.size V A5 c5 (usedJ u.on j)) ∧ Hid (Below wc.heap.size wc V)) (fun _ i _ => m - (intOf i).toNat)
      case atStart => exact ⟨0, 0, 0, none, by omega, rfl, rfl, rfl, (show Stn _ _ none 0 [] from ⟨Nat.le_refl _, by simp [maxLen], .inl ⟨rfl, rfl⟩⟩), Below.refl _ _⟩
      case round =>
        obtain ⟨j, p, c5, A5, hj, rfl, rfl, hp, hS, hBl⟩ := hrel
        have x2 := (hBl.out.cell (p := ⟨w1.heap.size, 2, none⟩) lgu).trans v2
        by_cases hjm : j < m
        · obtain ⟨x, hx⟩ : ∃ x, u.on[j]? = some x := ⟨u.on[j]'(by rw [HM.out]; exact hjm), List.getElem?_eq_getElem (by rw [HM.out]; exact hjm)⟩
          have hxm := List.mem_of_getElem? hx
          obtain ⟨bh, off, k, n, sh, A', mk, ck, rfl, hlt, c0', c1, c2, c3, c4, hn⟩ := HS3'.out j x hx
          have hbc : bh < wc.heap.size := by omega
          have d1 := (hBl.out.cell (p := ⟨bh, off + j * 5 + 1, none⟩) hbc).trans c1
          have d2 := (hBl.out.cell (p := ⟨bh, off + j * 5 + 1 + 1, none⟩) hbc).trans c2
          have d3 := (hBl.out.cell (p := ⟨bh, off + j * 5 + 1 + 2, none⟩) hbc).trans c3
          have d4 := (hBl.out.cell (p := ⟨bh, off + j * 5 + 1 + 3, none⟩) hbc).trans c4
          have hub := usedJ_len HOC.out j
          have hox := HOC.out x hxm
          have NM := Lib.hid (names_any x.2 wr w1.heap.size _ A5 c5 p (usedJ u.on j) (hn.under (hBl.out.mono hlw) (Nat.le_refl _)) (Nat.le_trans hlw hBl.out.size) hS.out hp.out (by omega))
          have HSN := Lib.hid (usedJ_snoc hx)
          clear c0' c1 c2 c3 c4 hx hxm hn hub hox
          go_wp2_with (first
            | (go_at_call 28; refine NM.out.mono ?_; clear NM; rintro e w5 ⟨A6, c6, n6, rfl, hn6, hs6, hb6⟩; have HN6 := Lib.hid hn6; have HS6 := Lib.hid hs6; have HB6 := Lib.hid (hBl.out.trans (hb6.mono hBl.out.size)); clear hn6 hs6 hb6))
          go_roundw
          case rel => exact ⟨j + 1, n6, c6, A6, by omega, by go_num, rfl, by rw [HSN.out]; exact HN6.out, by rw [HSN.out]; exact HS6.out, HB6.out⟩
          case measure => simp [intOf]; omega
        · obtain rfl : j = m := by omega
          have hfull : usedJ u.on j = TY.used u.on := by
            unfold usedJ TY.used
            rw [List.take_of_length_le (by rw [HM.out]; exact Nat.le_refl _)]
          have hub := usedJ_len HOC.out j
          rw [hfull] at hp hS hub
          have hpl : p ≤ 24000 := by have := hp.out; omega
          obtain ⟨N, hN⟩ : ∃ N, TY.used u.on = N := ⟨_, rfl⟩
          rw [hN] at hp hS
          have HNN := Lib.hid hN
          obtain ⟨wo, hwo⟩ : ∃ Z, Z = wr := ⟨_, rfl⟩
          subst hwo
          clear hfull hub hN
          go_wp2_with fail
          go_loopw [11, 12] (fun z i V => ∃ a : Nat, a ≤ p ∧ i = .int .i64 (a : Int) ∧ z = .bool (TY.inL (N.take a) s) ∧ V = wo) (fun _ i _ => p - (intOf i).toNat)
          case atStart => exact ⟨0, by omega, rfl, rfl, rfl⟩
          case round =>
            obtain ⟨a, ha, rfl, rfl, rfl⟩ := hrel
            by_cases hap : a < p
            · obtain ⟨y, hy⟩ : ∃ y, N[a]? = some y := ⟨N[a]'(by rw [hp.out]; exact hap), List.getElem?_eq_getElem (by rw [hp.out]; exact hap)⟩
              obtain ⟨h51, h52, ⟨rfl, h53⟩ | ⟨b5, o5, rfl, hb5, hc5⟩⟩ := hS.out
              · have := hp.out
                omega
              have hcs := hc5 a y hy
              have HSN := Lib.hid (inL_snoc' s hy)
              obtain ⟨g, hg⟩ : ∃ g, TY.inL (N.take a) s = g := ⟨_, rfl⟩
              obtain ⟨d, hd⟩ : ∃ d, decide (y = s) = d := ⟨_, rfl⟩
              have e1 : (y.toList == s.toList) = d := by rw [str_eq]; exact hd
              rw [hg, hd] at HSN
              rw [hg]
              clear hy hg hd hc5
              cases g
              all_goals
                go_wp2_with fail
                go_roundw
                case rel => exact ⟨a + 1, by omega, by go_num, by rw [HSN.out]; simp, trivial⟩
                case measure => simp [intOf]; omega
            · obtain rfl : a = p := by omega
              rw [List.take_of_length_le (by rw [hp.out]; exact Nat.le_refl _)]
              obtain ⟨g, hg⟩ : ∃ g, TY.inL N s = g := ⟨_, rfl⟩
              rw [hg]
              have HG := Lib.hid (show TY.inL (TY.used u.on) s = g by rw [HNN.out]; exact hg)
              have B : Below wc.heap.size wc wr := hBl.out
              have qq : (q != q) = false := by simp
              clear hg hp hS
              go_wp2_with fail
              go_region_held3 (fun V => V.cell? ⟨g7, 0, none⟩ = some (.slice A7 (1 + md) c7) ∧ V.cell? ⟨g7, 1, none⟩ = some (.slice Av mv cv) ∧ V.cell? ⟨g7, 2, none⟩ = some (.slice A j c) ∧ V.cell? ⟨w1.heap.size, 0, none⟩ = some (.slice Ad md cd) ∧ V.cell? ⟨w1.heap.size, 1, none⟩ = some (.slice Av mv cv) ∧ V.cell? ⟨w1.heap.size, 2, none⟩ = some (.slice A j c))
                (first | exact ⟨(B.cell (p := ⟨g7, 0, none⟩) lg7).trans m0, (B.cell (p := ⟨g7, 1, none⟩) lg7).trans m1, (B.cell (p := ⟨g7, 2, none⟩) lg7).trans m2, (B.cell (p := ⟨w1.heap.size, 0, none⟩) lgu).trans v0, (B.cell (p := ⟨w1.heap.size, 1, none⟩) lgu).trans v1, (B.cell (p := ⟨w1.heap.size, 2, none⟩) lgu).trans v2⟩)
                (first
                  | (go_at_call 16; ((with_reducible refine (CKM.out _ ?_).mono ?_); focus (first | exact B | exact B.drew)); rintro e w5 ⟨rfl, hb⟩; (first | have B := B.trans (hb.mono B.size) | have B := B.drew.trans (hb.mono B.size)); clear hb)
                  | (go_at_call 16; ((with_reducible refine (CKU.out _ ?_).mono ?_); focus (first | exact B | exact B.drew)); rintro e w5 ⟨rfl, hb⟩; (first | have B := B.trans (hb.mono B.size) | have B := B.drew.trans (hb.mono B.size)); clear hb))
              all_goals
                cases g
                · have CKG := Lib.hid (fun (V : World) (hV : Below wc.heap.size wc V) => (TY.chk_fewer_out HG.out).trans HQ.out ▸ CKF.out V hV)
                  clear CKF
                  go_wp2_with fail
                  go_region_held3 (fun V => V.cell? ⟨g8, 0, none⟩ = some (.slice A8 n8 c8) ∧ V.cell? ⟨g8, 1, none⟩ = some (.slice A9 n9 c9) ∧ V.cell? ⟨g8, 2, none⟩ = some (.slice A j c) ∧ V.cell? ⟨w1.heap.size, 0, none⟩ = some (.slice Ad md cd) ∧ V.cell? ⟨w1.heap.size, 1, none⟩ = some (.slice Av mv cv) ∧ V.cell? ⟨w1.heap.size, 2, none⟩ = some (.slice A j c))
                    (first | exact ⟨(B.cell (p := ⟨g8, 0, none⟩) lg8).trans f0, (B.cell (p := ⟨g8, 1, none⟩) lg8).trans f1, (B.cell (p := ⟨g8, 2, none⟩) lg8).trans f2, (B.cell (p := ⟨w1.heap.size, 0, none⟩) lgu).trans v0, (B.cell (p := ⟨w1.heap.size, 1, none⟩) lgu).trans v1, (B.cell (p := ⟨w1.heap.size, 2, none⟩) lgu).trans v2⟩)
                    (first
                      | (go_at_call 16; ((with_reducible refine (CKG.out _ ?_).mono ?_); focus (first | exact B | exact B.drew)); rintro e w5 ⟨rfl, hb⟩; (first | have B := B.trans (hb.mono B.size) | have B := B.drew.trans (hb.mono B.size)); clear hb)
                      | (go_at_call 16; ((with_reducible refine (CKU.out _ ?_).mono ?_); focus (first | exact B | exact B.drew)); rintro e w5 ⟨rfl, hb⟩; (first | have B := B.trans (hb.mono B.size) | have B := B.drew.trans (hb.mono B.size)); clear hb)
                      | (go_at_call 14; ((with_reducible refine (LV.out _ ?_).mono ?_); focus (first | exact B | exact B.drew)); rintro e w5 ⟨rfl, hb⟩; (first | have B := B.trans (hb.mono B.size) | have B := B.drew.trans (hb.mono B.size)); clear hb))
                  all_goals
                    go_wp2_with fail
                    go_ret
                    exact ⟨rfl, HBWD.out.trans (B.mono HBWD.out.size)⟩
                · have CKG := Lib.hid (TY.chk_fewer_in HG.out ▸ CKF.out _ B)
                  obtain ⟨y0, y1, y2⟩ : w5.cell? ⟨g8, 0, none⟩ = some (.slice A8 n8 c8) ∧ w5.cell? ⟨g8, 1, none⟩ = some (.slice A9 n9 c9) ∧ w5.cell? ⟨g8, 2, none⟩ = some (.slice A j c) := ⟨(B.cell (p := ⟨g8, 0, none⟩) lg8).trans f0, (B.cell (p := ⟨g8, 1, none⟩) lg8).trans f1, (B.cell (p := ⟨g8, 2, none⟩) lg8).trans f2⟩
                  clear CKF CKM CKU
                  go_wp2_with (first
                    | (go_at_call 16; refine CKG.out.mono ?_; clear CKG; rintro e w6 ⟨rfl, hb6⟩; have B6 := B.trans (hb6.mono B.size); clear hb6)
                    | (go_at_call 14; refine (LV.out _ B6).mono ?_; clear LV; rintro e w7 ⟨rfl, hb7⟩; have B7 := B6.trans (hb7.mono B6.size); clear hb7))
                  go_ret
                  exact ⟨rfl, HBWD.out.trans (B7.mono HBWD.out.size)⟩
end Go.Proofs.Ytofeidacffabdaa.LawTypesDeclared
