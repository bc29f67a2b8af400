/-
  The reference's Check. Condition: the handlers are statements as the grammar has them, of few names.
-/
import Derived.Test.YtofeidacffabdaaTyNm
import Derived.Test.YtofeidacffabdaaTyRw
import Derived.Deep.RegionHeld3
namespace Go.Proofs.Ytofeidacffabdaa
open Go Go.RowKit Go.Proofs Go.Shelf
attribute [local go_sem] Oper.semAt_some

abbrev okR (u : TY.Un) (h : Int × TY.Nd) : Bool := TY.wellR h.2 && (TY.names h.2 []).all fun s => TY.inL u.vars s
theorem idx_neg {l : List ByteArray} {s : ByteArray} (h : TY.inL l s = true) : ¬ (TY.idx l s < 0) := by have := idx_yes h; omega
theorem Stn.nil (hi : Nat) (W : World) : Stn hi W none 0 [] := ⟨Nat.le_refl _, by simp [maxLen], .inl ⟨rfl, rfl⟩⟩
set_option maxHeartbeats 8000000 in
theorem refCheck_any {W : World} {u : TY.Un} {v : Value} (h : UnV W u v) (hf : ∀ x ∈ u.on, TY.FitS x.2) (ho : ∀ x ∈ u.on, (TY.occ x.2).length ≤ 50000) {V : World} (hV : Below W.heap.size W V) :
    Calls Try.prog 17 #[v] V fun e w' => e = .returned (.int .i64 (TY.chkR u)) ∧ Below V.heap.size V w' := by
  have RIX := Lib.hid (fun (U : World) (hU : Below V.heap.size V U) s => h.refIndex (hV.trans (hU.mono hV.size)) s)
  obtain ⟨Ad, md, cd, Av, mv, cv, A, m, c, rfl, hd, hvl, hm, l1, l2, l3, l4, l5, l6, l7, l8, l9, s1, s2, s3⟩ := h.shape
  obtain ⟨W0, hW0⟩ : ∃ U, V.alloc (.cells #[.slice Ad md cd, .slice Av mv cv, .slice A m c] 35) = U := ⟨_, rfl⟩
  have b0 : Below V.heap.size V W0 := by rw [← hW0]; exact (Below.refl _ _).alloc (Nat.le_refl _) _
  have z0 : W0.heap.size = V.heap.size + 1 := by rw [← hW0, World.size_alloc]
  have e0 : W0.heap[V.heap.size]? = some (.cells #[.slice Ad md cd, .slice Av mv cv, .slice A m c] 35 (0, 0)) := by rw [← hW0]; exact World.alloc_heap_new V _
  have hsV := hV.size
  have fa0 : W0.cell? ⟨V.heap.size, 0, none⟩ = some (.slice Ad md cd) := cell_of_row W0 _ 0 _ _ (0, 0) e0
  have fa1 : W0.cell? ⟨V.heap.size, 1, none⟩ = some (.slice Av mv cv) := cell_of_row W0 _ 1 _ _ (0, 0) e0
  have fa2 : W0.cell? ⟨V.heap.size, 2, none⟩ = some (.slice A m c) := cell_of_row W0 _ 2 _ _ (0, 0) e0
  have H3 := Lib.hid (s3.below (hV.trans (b0.mono hsV)))
  have HF := Lib.hid hf
  have HO := Lib.hid ho
  have HM := Lib.hid hm
  have HB0 := Lib.hid b0
  have HW0 := Lib.hid hW0
  have lt0 : V.heap.size < W0.heap.size := by omega
  obtain ⟨q, hq⟩ : ∃ q : Int, TY.chkR u = q := ⟨_, rfl⟩
  rw [hq]
  have HQ := Lib.hid (show (if u.on.all (okR u) then (0 : Int) else 11) = q from hq)
  clear hq hW0 b0 e0 s1 s2 s3 hm hd hvl hf ho h hV
  go_enter Try.func17, Try.ntmps17
  go_wp2_with fail
  rw [HW0.out]
  clear HW0
  go_loopw [3] (fun i U => ∃ j : Nat, j ≤ m ∧ i = .int .i64 (j : Int) ∧ Hid ((u.on.take j).all (okR u) = true) ∧ Hid (Below W0.heap.size W0 U)) (fun i _ => m - (intOf i).toNat)
  case atStart => exact ⟨0, by omega, rfl, (show (u.on.take 0).all (okR u) = true from rfl), Below.refl _ _⟩
  case round =>
    obtain ⟨j, hj, rfl, hT, hBl⟩ := hrel
    have v2 := (hBl.out.cell (p := ⟨V.heap.size, 2, none⟩) lt0).trans fa2
    have HBV : Hid (Below V.heap.size V wr) := HB0.out.trans (hBl.out.mono HB0.out.size)
    by_cases hjm : j < m
    · obtain ⟨x, hx⟩ : ∃ x, u.on[j]? = some x := ⟨u.on[j]'(by rw [HM.out]; exact hjm), List.getElem?_eq_getElem (by rw [HM.out]; exact hjm)⟩
      have hxm := List.mem_of_getElem? hx
      obtain ⟨bh, off, k, n, s, A', mk, ck, rfl, hlt, c0, c1, c2, c3, c4, hn⟩ := H3.out j x hx
      have hb0 : bh < W0.heap.size := by omega
      have d1 := (hBl.out.cell (p := ⟨bh, off + j * 5 + 1, none⟩) hb0).trans c1
      have d2 := (hBl.out.cell (p := ⟨bh, off + j * 5 + 1 + 1, none⟩) hb0).trans c2
      have d3 := (hBl.out.cell (p := ⟨bh, off + j * 5 + 1 + 2, none⟩) hb0).trans c3
      have d4 := (hBl.out.cell (p := ⟨bh, off + j * 5 + 1 + 3, none⟩) hb0).trans c4
      have hnr : ∀ U, Below W0.heap.size W0 U → NdV U W.heap.size x.2 (ndv k n s (.slice A' mk ck)) := fun U hU => hn.under (hU.mono (by omega)) (Nat.le_refl _)
      have WL := Lib.hid (well_any x.2 (HF.out x hxm) wr W.heap.size _ (hnr wr hBl.out) (by have := hBl.out.size; omega))
      have NM := Lib.hid (fun (U : World) (hU : Below W0.heap.size W0 U) => names_any x.2 U W.heap.size _ none 0 0 [] (hnr U hU) (by have := hU.size; omega) (Stn.nil _ _) rfl (by have := HO.out x hxm; simp only [List.length_nil]; omega))
      have hbad : okR u x = false → (u.on.all (okR u)) = false := fun hb => by
        rw [Bool.eq_false_iff]
        intro ha
        have := List.all_eq_true.1 ha x hxm
        rw [hb] at this
        cases this
      have HBAD := Lib.hid hbad
      have HOX := Lib.hid (HO.out x hxm)
      have HSN := Lib.hid (fun hb => all_snoc (P := okR u) hx hT.out hb)
      obtain ⟨p, hp⟩ : ∃ p, TY.wellR x.2 = p := ⟨_, rfl⟩
      rw [hp] at WL
      have HP := Lib.hid hp
      clear c0 c1 c2 c3 c4 hx hxm hn hnr hbad hp
      cases p
      · have HN := Lib.hid (HBAD.out (by unfold okR; rw [HP.out]; rfl))
        go_wp2_with (first
          | (go_at_call 39; refine WL.out.mono ?_; clear WL; rintro e w5 ⟨rfl, hb5⟩; have HB5 := Lib.hid (HBV.out.trans (hb5.mono HBV.out.size)); clear hb5))
        go_ret
        rw [← HQ.out, HN.out]
        exact ⟨rfl, HB5.out⟩
      · obtain ⟨N, hN⟩ : ∃ N, TY.names x.2 [] = N := ⟨_, rfl⟩
        have HOK := Lib.hid (show okR u x = N.all fun s => TY.inL u.vars s by unfold okR; rw [HP.out, hN]; rfl)
        have HNL := Lib.hid (show N.length ≤ 50000 by
          rw [← hN]
          have h1 := names_len x.2 []
          have h2 := HOX.out
          simp only [List.length_nil] at h1
          omega)
        rw [hN] at NM
        clear hN HP
        go_wp2_with (first
          | (go_at_call 39; refine WL.out.mono ?_; clear WL; rintro e w5 ⟨rfl, hb5⟩; have HB5 := Lib.hid (hBl.out.trans (hb5.mono hBl.out.size)); clear hb5
             have g1 := (HB5.out.cell (p := ⟨bh, off + j * 5 + 1, none⟩) hb0).trans ((hBl.out.cell (p := ⟨bh, off + j * 5 + 1, none⟩) hb0).symm.trans d1)
             have g2 := (HB5.out.cell (p := ⟨bh, off + j * 5 + 1 + 1, none⟩) hb0).trans ((hBl.out.cell (p := ⟨bh, off + j * 5 + 1 + 1, none⟩) hb0).symm.trans d2)
             have g3 := (HB5.out.cell (p := ⟨bh, off + j * 5 + 1 + 2, none⟩) hb0).trans ((hBl.out.cell (p := ⟨bh, off + j * 5 + 1 + 2, none⟩) hb0).symm.trans d3)
             have g4 := (HB5.out.cell (p := ⟨bh, off + j * 5 + 1 + 3, none⟩) hb0).trans ((hBl.out.cell (p := ⟨bh, off + j * 5 + 1 + 3, none⟩) hb0).symm.trans d4)
             have v2' := (HB5.out.cell (p := ⟨V.heap.size, 2, none⟩) lt0).trans fa2)
          | (go_at_call 28; refine (NM.out _ HB5.out).mono ?_; clear NM; rintro e w6 ⟨A6, c6, n6, rfl, hn6, hs6, hb6⟩; have hn6b : n6 ≤ 50000 := hn6 ▸ HNL.out; have HN6 := Lib.hid hn6; have HS6 := Lib.hid hs6; have HB6 := Lib.hid (HB5.out.trans (hb6.mono HB5.out.size)); clear hn6 hs6 hb6 g1 g2 g3 g4 v2'))
        obtain ⟨wo, hwo⟩ : ∃ Z, Z = wr := ⟨_, rfl⟩
        subst hwo
        have hs6 := HB6.out.size
        have w0c := (HB6.out.cell (p := ⟨V.heap.size, 0, none⟩) lt0).trans fa0
        have w1c := (HB6.out.cell (p := ⟨V.heap.size, 1, none⟩) lt0).trans fa1
        have w2c := (HB6.out.cell (p := ⟨V.heap.size, 2, none⟩) lt0).trans fa2
        go_loopw [6] (fun i U => ∃ a : Nat, a ≤ n6 ∧ i = .int .i64 (a : Int) ∧ Hid ((N.take a).all (fun s => TY.inL u.vars s) = true) ∧ Hid (Below w6.heap.size w6 U)) (fun i _ => n6 - (intOf i).toNat)
        case atStart => exact ⟨0, by omega, rfl, (show (N.take 0).all (fun s => TY.inL u.vars s) = true from rfl), Below.refl _ _⟩
        case round =>
          obtain ⟨a, ha, rfl, hA, hB6⟩ := hrel
          have hB0r : Hid (Below W0.heap.size W0 wr) := HB6.out.trans (hB6.out.mono HB6.out.size)
          have hBVr : Hid (Below V.heap.size V wr) := HB0.out.trans (hB0r.out.mono HB0.out.size)
          by_cases ham : a < n6
          · obtain ⟨y, hy⟩ : ∃ y, N[a]? = some y := ⟨N[a]'(by rw [HN6.out]; exact ham), List.getElem?_eq_getElem (by rw [HN6.out]; exact ham)⟩
            obtain ⟨h61, h62, ⟨rfl, h63⟩ | ⟨b6, o6, rfl, hb6, hc6⟩⟩ := HS6.out
            · have := HN6.out
              omega
            have hcs := (hB6.out.cell (p := ⟨b6, o6 + a, none⟩) hb6).trans (hc6 a y hy)
            have x0 := (hB0r.out.cell (p := ⟨V.heap.size, 0, none⟩) lt0).trans fa0
            have x1 := (hB0r.out.cell (p := ⟨V.heap.size, 1, none⟩) lt0).trans fa1
            have x2 := (hB0r.out.cell (p := ⟨V.heap.size, 2, none⟩) lt0).trans fa2
            have C : Below wr.heap.size wr wr := Below.refl _ _
            have hsr := hB6.out.size
            have I3 := Lib.hid (fun U (hU : Below wr.heap.size wr U) => RIX.out U (hBVr.out.trans (hU.mono hBVr.out.size)) y)
            have haN : (a : Int) < (n6 : Int) := by omega
            have hszV : V.heap.size < wr.heap.size := by omega
            have hsz6 : b6 < wr.heap.size := by omega
            have hmem := List.mem_of_getElem? hy
            by_cases hin : TY.inL u.vars y = true
            · have HA2 := Lib.hid (all_snoc (P := fun s => TY.inL u.vars s) hy hA.out hin)
              have hneg := idx_neg hin
              obtain ⟨z, hz⟩ : ∃ z, TY.idx u.vars y = z := ⟨_, rfl⟩
              rw [hz] at I3 hneg
              clear hz hin hy hc6 hmem
              go_wp2_with fail
              go_region_held3 (fun U => U.cell? ⟨V.heap.size, 0, none⟩ = some (.slice Ad md cd) ∧ U.cell? ⟨V.heap.size, 1, none⟩ = some (.slice Av mv cv) ∧ U.cell? ⟨V.heap.size, 2, none⟩ = some (.slice (some ⟨bh, off, none⟩) m c) ∧ U.cell? ⟨b6, o6 + a, none⟩ = some (.string y))
                (first | exact ⟨(C.cell (p := ⟨V.heap.size, 0, none⟩) hszV).trans x0, (C.cell (p := ⟨V.heap.size, 1, none⟩) hszV).trans x1, (C.cell (p := ⟨V.heap.size, 2, none⟩) hszV).trans x2, (C.cell (p := ⟨b6, o6 + a, none⟩) hsz6).trans hcs⟩)
                (first
                  | (go_at_call 26; ((with_reducible refine (I3.out _ ?_).mono ?_); focus (first | exact C | exact C.drew)); rintro e w8 ⟨rfl, hb⟩; (first | have C := C.trans (hb.mono C.size) | have C := C.drew.trans (hb.mono C.size)); clear hb))
              all_goals
                have HC := Lib.hid (hB6.out.trans (C.mono hsr))
                clear C
                go_wp2_with fail
                go_roundw
                case rel => exact ⟨a + 1, by omega, by go_num, HA2.out, HC.out⟩
                case measure => simp [intOf]; omega
            · have hneg : TY.idx u.vars y = -1 := idx_no (by simpa using hin)
              have HN := Lib.hid (HBAD.out (by
                rw [HOK.out, Bool.eq_false_iff]
                exact fun hall => hin (List.all_eq_true.1 hall y hmem)))
              rw [hneg] at I3
              clear hneg hin hy hc6 hmem
              go_wp2_with fail
              go_region_held3 (fun U => U.cell? ⟨V.heap.size, 0, none⟩ = some (.slice Ad md cd) ∧ U.cell? ⟨V.heap.size, 1, none⟩ = some (.slice Av mv cv) ∧ U.cell? ⟨V.heap.size, 2, none⟩ = some (.slice (some ⟨bh, off, none⟩) m c) ∧ U.cell? ⟨b6, o6 + a, none⟩ = some (.string y))
                (first | exact ⟨(C.cell (p := ⟨V.heap.size, 0, none⟩) hszV).trans x0, (C.cell (p := ⟨V.heap.size, 1, none⟩) hszV).trans x1, (C.cell (p := ⟨V.heap.size, 2, none⟩) hszV).trans x2, (C.cell (p := ⟨b6, o6 + a, none⟩) hsz6).trans hcs⟩)
                (first
                  | (go_at_call 26; ((with_reducible refine (I3.out _ ?_).mono ?_); focus (first | exact C | exact C.drew)); rintro e w8 ⟨rfl, hb⟩; (first | have C := C.trans (hb.mono C.size) | have C := C.drew.trans (hb.mono C.size)); clear hb))
              all_goals
                have HC := Lib.hid (hBVr.out.trans (C.mono hBVr.out.size))
                clear C
                go_wp2_with fail
                go_ret
                rw [← HQ.out, HN.out]
                exact ⟨rfl, HC.out⟩
          · obtain rfl : a = n6 := by omega
            have HS2 := Lib.hid (HSN.out (by
              rw [HOK.out]
              have := hA.out
              rwa [List.take_of_length_le (by rw [HN6.out]; exact Nat.le_refl _)] at this))
            go_wp2_with fail
            go_roundw
            case rel => exact ⟨j + 1, by omega, by go_num, HS2.out, hB0r.out⟩
            case measure => simp [intOf]; omega
    · obtain rfl : j = m := by omega
      have HY := Lib.hid (show (u.on.all (okR u)) = true by
        have := hT.out
        rwa [List.take_of_length_le (by rw [HM.out]; exact Nat.le_refl _)] at this)
      go_wp2_with fail
      go_ret
      rw [← HQ.out, HY.out]
      exact ⟨rfl, HBV.out⟩
end Go.Proofs.Ytofeidacffabdaa
