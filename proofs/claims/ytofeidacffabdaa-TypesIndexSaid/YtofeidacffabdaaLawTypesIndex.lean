/-
  The walk of the law TypesIndex. No condition beyond the arguments' readings.
-/
import Derived.Test.YtofeidacffabdaaTySa
import Derived.Test.YtofeidacffabdaaTyLv
import Derived.Deep.RegionHeld3
namespace Go.Proofs.Ytofeidacffabdaa.LawTypesIndex
open Go Go.RowKit Go.Proofs Go.Shelf
attribute [local go_sem] Oper.semAt_some

set_option maxRecDepth 100000 in
set_option maxHeartbeats 4000000 in
theorem walk (a0 : Option Addr) (len0 cap0 : Nat) (z0 : List Int) (a1 : ByteArray) (w : World) (w0 : Row .i64 w a0 len0 cap0 z0) (_ : a1.size ≤ maxLen) :
    Calls Try.prog 9 #[.slice a0 len0 cap0, .string a1] w fun e w' => e = .returned (.bool true) ∧ Below w.heap.size w w' := by
  obtain ⟨_, _, _, hwf0⟩ := w0.ints
  have HX := Lib.hid (Unit_any a0 len0 cap0 _ w w0.slc (i64_of hwf0))
  have hnd : (unitT (z0.take len0)).vars.Nodup := vars_nodup _
  obtain ⟨u, hu⟩ : ∃ u, unitT (z0.take len0) = u := ⟨_, rfl⟩
  rw [hu] at HX hnd
  clear hu w0 hwf0
  go_enter Try.func9, Try.ntmps9
  go_wp2_with fail
  refine HX.out.mono ?_
  clear HX
  rintro r w1 ⟨v, rfl, hv, hb1⟩
  obtain ⟨Ad, md, cd, Av, mv, cv, A, m, c, rfl, hd, hvl, hm, l1, l2, l3, l4, l5, l6, l7, l8, l9, s1, s2, s3⟩ := hv.shape
  have hs1 := hb1.size
  obtain ⟨W2, h2⟩ : ∃ U, w1.alloc (.cells #[.slice Ad md cd, .slice Av mv cv, .slice A m c] 35) = U := ⟨_, rfl⟩
  have z2 : W2.heap.size = w1.heap.size + 1 := by rw [← h2, World.size_alloc]
  have b2 : Below w1.heap.size w1 W2 := by rw [← h2]; exact (Below.refl _ _).alloc (Nat.le_refl _) _
  have e2 : W2.heap[w1.heap.size]? = some (.cells #[.slice Ad md cd, .slice Av mv cv, .slice A m c] 35 (0, 0)) := by rw [← h2]; exact World.alloc_heap_new w1 _
  have IX := Lib.hid (fun V (hV : Below W2.heap.size W2 V) s => hv.index (b2.trans (hV.mono b2.size)) s)
  have RX := Lib.hid (fun V (hV : Below W2.heap.size W2 V) s => hv.refIndex (b2.trans (hV.mono b2.size)) s)
  have LV := Lib.hid (fun V => lives_any V)
  have HS1 := Lib.hid (s1.below b2)
  have HS2 := Lib.hid (s2.below b2)
  have HBW := Lib.hid (hb1.trans (b2.mono hs1))
  have H2 := Lib.hid h2
  have HD := Lib.hid hd
  have HVL := Lib.hid hvl
  obtain ⟨u0, u1, u2⟩ : W2.cell? ⟨w1.heap.size, 0, none⟩ = some (.slice Ad md cd) ∧ W2.cell? ⟨w1.heap.size, 1, none⟩ = some (.slice Av mv cv) ∧ W2.cell? ⟨w1.heap.size, 2, none⟩ = some (.slice A m c) := ⟨cell_of_row W2 _ 0 _ _ (0, 0) e2, cell_of_row W2 _ 1 _ _ (0, 0) e2, cell_of_row W2 _ 2 _ _ (0, 0) e2⟩
  have HND := Lib.hid hnd
  have lt2 : w1.heap.size < W2.heap.size := by omega
  have B : Below W2.heap.size W2 W2 := Below.refl _ _
  obtain ⟨y1, hy1⟩ : ∃ y, TY.idx u.vars a1 = y := ⟨_, rfl⟩
  obtain ⟨y2, hy2⟩ : ∃ y, TY.idx u.vars ⟨#[118, 97]⟩ = y := ⟨_, rfl⟩
  have I1 := Lib.hid (fun V hV => hy1 ▸ IX.out V hV a1)
  have I2 := Lib.hid (fun V hV => hy2 ▸ IX.out V hV ⟨#[118, 97]⟩)
  have R1 := Lib.hid (fun V hV => hy1 ▸ RX.out V hV a1)
  have R2 := Lib.hid (fun V hV => hy2 ▸ RX.out V hV ⟨#[118, 97]⟩)
  have q1 : (y1 != y1) = false := by simp
  have q2 : (y2 != y2) = false := by simp
  clear hv hb1 hs1 h2 z2 b2 e2 s1 s2 s3 hd hvl hm hnd hy1 hy2 RX
  go_wp2_with fail
  rw [H2.out]
  clear H2
  go_region_held3 (fun V => V.cell? ⟨w1.heap.size, 0, none⟩ = some (.slice Ad md cd) ∧ V.cell? ⟨w1.heap.size, 1, none⟩ = some (.slice Av mv cv) ∧ V.cell? ⟨w1.heap.size, 2, none⟩ = some (.slice A m c))
    (first | exact ⟨(B.cell (p := ⟨w1.heap.size, 0, none⟩) lt2).trans u0, (B.cell (p := ⟨w1.heap.size, 1, none⟩) lt2).trans u1, (B.cell (p := ⟨w1.heap.size, 2, none⟩) lt2).trans u2⟩)
    (first
      | (go_at_call 24; ((with_reducible refine (I1.out _ ?_).mono ?_); focus (first | exact B | exact B.drew)); rintro e w5 ⟨rfl, hb⟩; (first | have B := B.trans (hb.mono B.size) | have B := B.drew.trans (hb.mono B.size)); clear hb)
      | (go_at_call 24; ((with_reducible refine (I2.out _ ?_).mono ?_); focus (first | exact B | exact B.drew)); rintro e w5 ⟨rfl, hb⟩; (first | have B := B.trans (hb.mono B.size) | have B := B.drew.trans (hb.mono B.size)); clear hb)
      | (go_at_call 26; ((with_reducible refine (R1.out _ ?_).mono ?_); focus (first | exact B | exact B.drew)); rintro e w5 ⟨rfl, hb⟩; (first | have B := B.trans (hb.mono B.size) | have B := B.drew.trans (hb.mono B.size)); clear hb)
      | (go_at_call 26; ((with_reducible refine (R2.out _ ?_).mono ?_); focus (first | exact B | exact B.drew)); rintro e w5 ⟨rfl, hb⟩; (first | have B := B.trans (hb.mono B.size) | have B := B.drew.trans (hb.mono B.size)); clear hb))
  all_goals
    have hs5 := B.size
    have v0 := (B.cell (p := ⟨w1.heap.size, 0, none⟩) lt2).trans u0
    have v1 := (B.cell (p := ⟨w1.heap.size, 1, none⟩) lt2).trans u1
    have v2 := (B.cell (p := ⟨w1.heap.size, 2, none⟩) lt2).trans u2
    have HB5 := Lib.hid B
    have z0' := u0
    have z1' := u1
    have z2' := u2
    clear I1 I2 R1 R2 B u0 u1 u2
    go_wp2_with (first
      | (at_builtin; refine wpList_append_stn rfl _ _ rfl w5.heap.size _ _ [] rfl ⟨rfl, .inl ⟨rfl, rfl⟩⟩ w1.heap.size Ad cd md u.dur (HS1.out.below (HB5.out.mono (by omega))) HD.out rfl (by omega) (Nat.le_refl _) ?_; intro A6 c6 w6 hown6 hgrow6
         rw [Nat.zero_add, List.nil_append] at hown6
         have B6 := Lib.hid ((Below.refl w5.heap.size w5).grown hgrow6 (Nat.le_refl _) (fun k e => by cases e))
         have hs6 := B6.out.size
         have HO6 := Lib.hid hown6
         have x0 := (B6.out.cell (p := ⟨w1.heap.size, 0, none⟩) (show w1.heap.size < _ by omega)).trans v0
         have x1 := (B6.out.cell (p := ⟨w1.heap.size, 1, none⟩) (show w1.heap.size < _ by omega)).trans v1
         have x2 := (B6.out.cell (p := ⟨w1.heap.size, 2, none⟩) (show w1.heap.size < _ by omega)).trans v2
         clear hown6 hgrow6 v0 v1 v2)
      | (at_builtin; refine wpList_append_stn rfl _ _ rfl w5.heap.size _ _ _ rfl HO6.out w1.heap.size Av cv mv u.vol (HS2.out.below ((HB5.out.trans (B6.out.mono hs5)).mono (by omega))) HVL.out rfl (by omega) hs6 ?_; intro A7 c7 w7 hown7 hgrow7
         have B7 := Lib.hid (B6.out.grown hgrow7 hs6 (fun k e => (HO6.out.lt k e).1))
         have hs7 := B7.out.size
         have HO7 := Lib.hid hown7
         clear hown7 hgrow7))
    obtain ⟨N, hN⟩ : ∃ N, md + mv = N := ⟨_, rfl⟩
    rw [hN] at HO7 ⊢
    have HL : Hid (u.vars.length = N) := by
      show (u.dur ++ u.vol).length = N
      rw [List.length_append, HD.out, HVL.out, hN]
    have hst7 : Stn w7.heap.size w7 A7 c7 u.vars := Stn.of_own HL.out (by
      have := HO7.out
      rw [← List.map_append] at this
      exact this)
    have y0 := (B7.out.cell (p := ⟨w1.heap.size, 0, none⟩) (show w1.heap.size < _ by omega)).trans ((HB5.out.cell (p := ⟨w1.heap.size, 0, none⟩) lt2).trans z0')
    have y1' := (B7.out.cell (p := ⟨w1.heap.size, 1, none⟩) (show w1.heap.size < _ by omega)).trans ((HB5.out.cell (p := ⟨w1.heap.size, 1, none⟩) lt2).trans z1')
    have y2' := (B7.out.cell (p := ⟨w1.heap.size, 2, none⟩) (show w1.heap.size < _ by omega)).trans ((HB5.out.cell (p := ⟨w1.heap.size, 2, none⟩) lt2).trans z2')
    have HST := Lib.hid hst7
    have HB7 := Lib.hid (HB5.out.trans (B7.out.mono hs5))
    clear hst7 x0 x1 x2 HO6 HO7 B6 B7 HS1 HS2 hs6
    go_loopw [7] (fun i V => ∃ j : Nat, j ≤ N ∧ i = .int .i64 (j : Int) ∧ Hid (Below w7.heap.size w7 V)) (fun i _ => N - (intOf i).toNat)
    case atStart => exact ⟨0, by omega, rfl, Below.refl _ _⟩
    case round =>
      obtain ⟨j, hj, rfl, hBl⟩ := hrel
      have hlt7 : w1.heap.size < w7.heap.size := by omega
      have x0 := (hBl.out.cell (p := ⟨w1.heap.size, 0, none⟩) hlt7).trans y0
      have x1 := (hBl.out.cell (p := ⟨w1.heap.size, 1, none⟩) hlt7).trans y1'
      have x2 := (hBl.out.cell (p := ⟨w1.heap.size, 2, none⟩) hlt7).trans y2'
      by_cases hjm : j < N
      · obtain ⟨s, hs⟩ : ∃ s, u.vars[j]? = some s := ⟨u.vars[j]'(by rw [HL.out]; exact hjm), List.getElem?_eq_getElem (by rw [HL.out]; exact hjm)⟩
        have hix := idx_nodup HND.out hs
        obtain ⟨h71, h72, ⟨rfl, h73⟩ | ⟨b7, o7, rfl, hb7, hc7⟩⟩ := HST.out
        · have := HL.out
          omega
        have hcs := (hBl.out.cell (p := ⟨b7, o7 + j, none⟩) hb7).trans (hc7 j s hs)
        have C : Below wr.heap.size wr wr := Below.refl _ _
        have hsr := hBl.out.size
        have I3 := Lib.hid (fun V (hV : Below wr.heap.size wr V) => hix ▸ IX.out V (HB7.out.trans ((hBl.out.trans (hV.mono hsr)).mono HB7.out.size)) s)
        have hq : ((j : Int) != (j : Int)) = false := by simp
        have hjN : (j : Int) < (N : Int) := by omega
        have hsz1 : w1.heap.size < wr.heap.size := by omega
        have hsz7 : b7 < wr.heap.size := by omega
        clear hix hs hc7
        go_wp2_with fail
        go_region_held3 (fun V => V.cell? ⟨w1.heap.size, 0, none⟩ = some (.slice Ad md cd) ∧ V.cell? ⟨w1.heap.size, 1, none⟩ = some (.slice Av mv cv) ∧ V.cell? ⟨w1.heap.size, 2, none⟩ = some (.slice A m c) ∧ V.cell? ⟨b7, o7 + j, none⟩ = some (.string s))
          (first | exact ⟨(C.cell (p := ⟨w1.heap.size, 0, none⟩) hsz1).trans x0, (C.cell (p := ⟨w1.heap.size, 1, none⟩) hsz1).trans x1, (C.cell (p := ⟨w1.heap.size, 2, none⟩) hsz1).trans x2, (C.cell (p := ⟨b7, o7 + j, none⟩) hsz7).trans hcs⟩)
          (first
            | (go_at_call 24; ((with_reducible refine (I3.out _ ?_).mono ?_); focus (first | exact C | exact C.drew)); rintro e w8 ⟨rfl, hb⟩; (first | have C := C.trans (hb.mono C.size) | have C := C.drew.trans (hb.mono C.size)); clear hb))
        all_goals
          have HC := Lib.hid (hBl.out.trans (C.mono hsr))
          clear C
          go_wp2_with fail
          go_roundw
          case rel => exact ⟨j + 1, by omega, by go_num, HC.out⟩
          case measure => simp [intOf]; omega
      · obtain rfl : j = N := by omega
        go_wp2_with (first
          | (go_at_call 14; refine (LV.out _).mono ?_; clear LV; rintro e w9 ⟨rfl, hb9⟩; have HB9 := Lib.hid (hBl.out.trans (hb9.mono hBl.out.size)); clear hb9))
        go_ret
        exact ⟨rfl, HBW.out.trans ((HB7.out.trans (HB9.out.mono HB7.out.size)).mono HBW.out.size)⟩
end Go.Proofs.Ytofeidacffabdaa.LawTypesIndex
